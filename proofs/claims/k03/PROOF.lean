import PyProof.Rows.All
import PySem.Challenge.RW_ownfears_k03_parts_told
import HandS.ForMost
import HandS.Deep
import HandS.IsInst
import HandS.TupAny
import HandS.TupMul
import HandS.Zip
import HandS.Wide
import HandS.Strs
import HandS.Style
import HandS.Dict
import HandS.TupSets
import HandS.SortOrd
import KE.KSortAsk
import HandS.TupLe
set_option Elab.async false
set_option linter.all false
set_option maxRecDepth 100000
namespace VI
open PySem PySem.Spec PyProof.Rows L2
/-- as the layer's FnOk, for calls under which no guard stands -/
structure FnG (P : Program) (w : World) (K : PySem.W.Frag) (mg : Str → Option Value) (base : Heap) (CX : CXT) (k : Nat) (f : Addr) (fd : FuncData) (ps : List Str) (sp : Sp) : Prop where
  len : ∀ vs H Q E, sp vs H Q E → vs.length = ps.length
  go : ∀ (A : Around) (outer : List Env) (s : Shared) (H : Hp) (args : Args) (us : List Value) (vs : List V) (Q : VK) (E : XK),
    A.guards = some [] → Room k A → Env0 P w K mg base A outer s H → BindsTo s fd args (ps.zip us) → Vals vs us → sp vs H Q E →
    codeAny (model P w) A (.call (.ref f) args) (CR CX outer P w H s Q E) s
theorem FnG.mono {P : Program} {w : World} {K : PySem.W.Frag} {mg : Str → Option Value} {base : Heap} {CX : CXT} {j k : Nat} {f : Addr} {fd : FuncData} {ps : List Str} {sp : Sp}
    (F : FnG P w K mg base CX j f fd ps sp) (h : j ≤ k) : FnG P w K mg base CX k f fd ps sp :=
  ⟨F.len, fun A outer s H args us vs Q E hg hr => F.go A outer s H args us vs Q E hg (hr.mono h)⟩
/-- the rule for a def of the text -/
theorem fnG_of {CX : CXT} {P : Program} {w : World} {K : PySem.W.Frag} {mg : Str → Option Value} {base : Heap} {k : Nat} {x qual : Str} {st : Stmt} {f : Addr} {fd : FuncData} {N ps : List Str} {sp : Sp}
    (F : Fun K x qual st f fd) (S : FnScope N ps (defScope st)) (len : ∀ vs H Q E, sp vs H Q E → vs.length = ps.length)
    (body : ∀ (cdv : Value) (A : Around) (outer : List Env) (s : Shared) (H : Hp) (vs : List V) (Q : VK) (E : XK), A.guards = some [] →
      Room k (A.deeper (envOfC qual (defScope st) s.heap.objs.size f cdv)) → sp vs H Q E →
      ∃ t, PSs (cxOf CX P w K mg base N qual (defScope st) f cdv A outer s H E) (defBody st) t ∧ t { nx := fun _ H' => Q .non H', rt := Q } (start N vs) H) :
    FnG P w K mg base CX (k + 1) f fd ps sp := by
  obtain ⟨oc, od, kV, doc, pm, an, cdv, ct, osl, rfl, lk, hcd⟩ := F.ex
  constructor
  · exact len
  intro A outer s H args us vs Q E hg hr e0 hb rv hsp
  have inS : K.In s.heap := e0.mod.kin.keeps fun b o e => (e0.bs b o e).1
  have roomy : s.heap.NoLimit := e0.mod.nolimit.keeps fun b o e => (e0.bs b o e).1
  have places : ∀ y ∈ ps.zip us, (defScope st).names.lookup y.1 = some .local ∨
      ((defScope st).names.lookup y.1 = some .cell ∧ ((cellsFrom (s.heap.objs.size + 1) (defScope st).names []).lookup y.1).isSome = true) := by
    rintro ⟨n, v⟩ hy
    have q := S.par n (List.of_mem_zip hy).1
    exact q.imp id fun z => ⟨z, PySem.W.cellsFrom_some _ _ _ (.inl z)⟩
  apply codeAny_call_function hr.depth (inS _ _ lk) rfl S.co S.gen rfl (PySem.W.codeRec_of inS hcd) (hb _ _ _ _ _)
  apply wpAny_newFunctionEnv_cells S.kind places
  intro env he s1 x1
  subst he
  refine ⟨roomy.keeps x1.toInCall.keep, codeAny_func ?_⟩
  obtain ⟨t, ht, hq⟩ := body cdv A outer s H vs Q E hg (hr.deeper _) hsp
  have I := inv_start (CX := CX) (mg := mg) (E := E) (N := N) (cd := cdv) S hr.hd e0 (len _ _ _ _ hsp) rv x1
  refine wpAny_mono (ht.run [] s1 (start N vs) H _ I hq) (fun fl s2 hs => ?_) fun e s2 hs => hs
  cases fl with
  | next => obtain ⟨σ2, H2, J, q⟩ := hs; exact ⟨V.non, H2, J.os, J.bare, J.base, J.hok, rfl, q⟩
  | ret u => obtain ⟨v, σ2, H2, J, r2, q⟩ := hs; exact ⟨v, H2, J.os, J.bare, J.base, J.hok, r2, q⟩
  | brk => obtain ⟨_, _, _, q⟩ := hs; exact q.elim
  | cont => obtain ⟨_, _, _, q⟩ := hs; exact q.elim
section
variable {X : Cx} {CX : CXT} {k : Nat} {f : Addr} {fd : FuncData} {ps ks : List Str} {sp : Sp} {E : XK} {x : Str} {p pos : Pos} {e : Expr} {es : List Expr} {kws : List Keyword} {t tk : TA}
  {g : List Value → List Value → List Value} {gV : List V → List V → List V}
/-- the callee runs, its parameters bound to vs -/
theorem run_fnG {pins : List (Addr × Obj)} {σ : L2.St} {H : Hp} {s : Shared} {Q : VK} {us ws : List Value} {kw : List (Str × Value)} {vs : List V} (F : FnG X.prog X.w X.K X.mg X.base CX k f fd ps sp) (hG : X.A.guards = some []) (hr : Room k X.A)
    (hb : BindsTo s fd ⟨us, kw⟩ (ps.zip ws)) (hx : Passes CX X E) (I : Inv X pins σ H s) (r : Vals vs ws) (h : sp vs H Q E) :
    wpAny (model X.prog X.w) X.A (call (.ref f) us kw) (EP X pins σ Q) X.xe s := by
  apply wpAny_call
  refine codeAny_mono (F.go X.A X.stack s H ⟨us, kw⟩ ws vs Q E hG hr I.env0 hb r h) ?_
  intro r2 s2 hq
  match r2, hq with
  | .error e, hq => exact hx pins σ H s e s2 I hq
  | .ok (.ret u), hq => exact I.after hq
  | .ok .next, hq => exact False.elim hq
  | .ok .brk, hq => exact False.elim hq
  | .ok .cont, hq => exact False.elim hq
/-- names alone: the j-th parameter takes the value of the name at is[j] -/
def pick {α : Type} (is : List Nat) (zs : List α) : List α := is.filterMap fun i => zs[i]?
theorem vals_pick : ∀ {is : List Nat} {vs : List V} {us : List Value}, Vals vs us → Vals (pick is vs) (pick is us)
  | [], _, _, _ => .nil
  | i :: is, vs, us, r => by
    unfold pick
    rw [List.filterMap_cons, List.filterMap_cons]
    cases e : vs[i]? with
    | none => rw [r.none_of e]; exact vals_pick r
    | some v => obtain ⟨u, e2, r2⟩ := r.get e; rw [e2]; exact .cons r2 (vals_pick r)
def NBinds (fd : FuncData) (ps ks : List Str) (is : List Nat) : Prop := ∀ (s : Shared) (ws : List Value), ws.length = ks.length → BindsTo s fd ⟨[], ks.zip ws⟩ (ps.zip (pick is ws))
theorem pe_callG (F : FnG X.prog X.w X.K X.mg X.base CX k f fd ps sp) (hG : X.A.guards = some []) (hr : Room k X.A) (hg : Gl X x) (hm : X.mg x = some (.ref f)) (hk : PySem.W.keepIn X.K (.ref f) = true) (hb : Binds X.K fd ps []) (hx : Passes CX X E)
    (ha : PA X (e :: es) t) (hdb : (x == ("__debug__" : Str)) = false := by decide) (he : starEach (e :: es) X.env = (false, eval e X.env) :: starEach es X.env := by rfl) (hpl : (backTo pos (starEach es X.env)).any (·.1) = false := by rfl) :
    PE X (.Call (.Name x p) (e :: es) [] pos) (fun σ H Q => t σ H fun vs H1 => sp vs H1 Q E) := by
  constructor
  intro pins s σ H Q I h
  apply wpAny_Call_Name_kw
  apply ld_glob I hg hm _ hdb
  refine PySem.W.callWith_K (h₀ := X.base) I.ok.mod.kin hk (thn (ha.run pos pins s σ H _ I h) ?_) he hpl
  rintro us s1 ⟨vs, H1, I1, r, q⟩
  have n1 : us.length = ps.length := r.length.symm.trans (F.len _ _ _ _ q)
  have hB := hb s1 us I1.kIn (by rw [List.append_nil]; exact n1)
  rw [List.append_nil] at hB
  exact ⟨I1.kIn, run_fnG F hG hr hB hx I1 r q⟩
theorem pe_callG0 (F : FnG X.prog X.w X.K X.mg X.base CX k f fd [] sp) (hG : X.A.guards = some []) (hr : Room k X.A) (hg : Gl X x) (hm : X.mg x = some (.ref f)) (hk : PySem.W.keepIn X.K (.ref f) = true) (hb : Binds X.K fd [] []) (hx : Passes CX X E)
    (hdb : (x == ("__debug__" : Str)) = false := by decide) : PE X (.Call (.Name x p) [] [] pos) (fun σ H Q => sp [] H Q E) := by
  constructor
  intro pins s σ H Q I h
  apply wpAny_Call_Name_kw
  apply ld_glob I hg hm _ hdb
  exact PySem.W.callWith_K0 I.kIn hk (run_fnG (us := []) F hG hr (hb s [] I.kIn rfl) hx I .nil h)
/-- names alone: f(k = v, ..) -/
theorem pe_callGN {is : List Nat} (F : FnG X.prog X.w X.K X.mg X.base CX k f fd ps sp) (hG : X.A.guards = some []) (hr : Room k X.A) (hg : Gl X x) (hm : X.mg x = some (.ref f)) (hk : PySem.W.keepIn X.K (.ref f) = true) (hb : NBinds fd ps ks is) (hx : Passes CX X E)
    (hkw : PK X kws tk) (hln : ks.length = kws.length) (hall : (backToKw pos (keywordEach kws X.env)).all (·.1.isSome) = true := by rfl) (hks : (backToKw pos (keywordEach kws X.env)).filterMap (·.1) = ks := by rfl)
    (hdb : (x == ("__debug__" : Str)) = false := by decide) (hpl : ((backTo pos (starEach [] X.env)).any (·.1) || (backToKw pos (keywordEach kws X.env)).any (·.1.isNone)) = false := by rfl) :
    PE X (.Call (.Name x p) [] kws pos) (fun σ H Q => tk σ H fun zs H1 => zs.length = ks.length ∧ sp (pick is zs) H1 Q E) := by
  constructor
  intro pins s σ H Q I h
  apply wpAny_Call_Name_kw
  apply ld_glob I hg hm _ hdb
  refine PySem.W.callWith_KW0 (h₀ := X.base) I.ok.mod.kin hk hall (thn (hkw.run pos pins s σ H _ I h) ?_) hpl
  rintro ws s1 ⟨zs, H1, I1, rz, hz, q⟩
  rw [hks]
  exact ⟨I1.kIn, run_fnG (us := []) F hG hr (hb s1 ws (rz.length.symm.trans hz)) hx I1 (vals_pick rz) q⟩
end
end VI
namespace VI
open PySem PySem.Spec PyProof.Rows L2
/-- a tuple to be read, without a dict of its own -/
def TupN (K : PySem.W.Frag) (G : Hp) (a : Addr) (xs : List V) : Prop :=
  (∃ o, o.dict = none ∧ G a = some (.frz o (.tup xs))) ∨ ∃ (o : Obj) (its : Array Value) (n : Nat), K.lookup a = some o ∧ o.dict = none ∧ o.cls = .type "tuple" ∧ o.data = .seq its n ∧ its.size ≤ sizeLine ∧ Vals xs its.toList
theorem TupN.sq {K : PySem.W.Frag} {G : Hp} {a : Addr} {xs : List V} (h : TupN K G a xs) : SqT K G a xs := by
  rcases h with ⟨o, _, h⟩ | ⟨o, its, n, h1, _, h2, h3, h4, h5⟩
  · exact .inl (.inr ⟨o, h⟩)
  · exact .inr ⟨o, its, n, h1, h2, h3, h4, h5⟩
section
variable {X : Cx} {pins : List (Addr × Obj)} {σ : L2.St} {H : Hp} {s : Shared}
theorem TupN.obj {a : Addr} {xs : List V} (I : Inv X pins σ H s) (h : TupN X.K H a xs) : ∃ o, s.heap.get? a = some o ∧ o.cls = .type "tuple" ∧ o.dict = none := by
  rcases h with ⟨o, hd, h⟩ | ⟨o, its, n, h1, hd, h2, _⟩
  · obtain ⟨e, _, its, rv, o', e', c, n, d⟩ := (show ObjOk X.prog X.w H s.heap a (.frz o (.tup xs)) from I.hok a _ h)
    rw [e] at e'
    cases e'
    exact ⟨o, e, c, hd⟩
  · exact ⟨o, I.kIn a o h1, h2, hd⟩
abbrev tupO (its : List Value) : Obj := { cls := .type "tuple", data := .seq its.toArray }
/-- a new tuple is laid -/
theorem lay_tup {xs : List V} {its : List Value} (t : Nat) (I : Inv X pins σ H s) (r : Vals xs its) (hz : xs.length ≤ sizeLine) :
    Inv X pins σ (upd H s.heap.objs.size (.frz (tupO its) (.tup xs))) { s with heap := s.heap.push (tupO its), toks := t } := by
  refine I.laid (t' := t) (fun b o e => Heap.get?_push_of_some _ e) (Nat.le_refl _) ?_
  exact ⟨Heap.get?_push_size _ rfl, hz, its, r, _, Heap.get?_push_size _ rfl, rfl, _, rfl⟩
/-- what is wanted of a new tuple -/
def NewT (xs : List V) (H : Hp) (Q : VK) : Prop := ∀ p o, H p = none → o.dict = none → Q (.ref p) (upd H p (.frz o (.tup xs)))
theorem lay_end {xs : List V} {its : List Value} {Q : VK} (I : Inv X pins σ H s) (r : Vals xs its) (hz : xs.length ≤ sizeLine) (q : NewT xs H Q) : EP X pins σ Q (.ref s.heap.objs.size) { s with heap := s.heap.push (tupO its) } :=
  ⟨.ref s.heap.objs.size, _, lay_tup s.toks I r hz, rfl, q _ _ (I.hok.fresh (Nat.le_refl _)) rfl⟩
end
section
variable {X : Cx} {es : List Expr} {t : TA} {pos : Pos}
theorem pe_tupN {n} (h : PA X es t) : PE X (.Tuple es n pos) (fun σ H Q => t σ H fun xs H1 => xs.length ≤ sizeLine ∧ NewT xs H1 Q) := by
  constructor
  intro pins s σ H Q I hq
  apply wpAny_Tuple_spliced
  refine thn (h.run pos pins s σ H _ I hq) ?_
  rintro us s1 ⟨xs, H1, I1, r, z, q⟩
  refine ⟨by have := r.length; omega, lay_end I1 r z q⟩
def rTupOf (K : PySem.W.Frag) : List V → Hp → VK → Prop := fun vs H Q => ∃ p ys, vs = [.ref p] ∧ ((SqL K H p ys ∧ NewT ys H Q) ∨ (SqT K H p ys ∧ Q (.ref p) H))
theorem call_tupN : CallR X (.type "tuple") (rTupOf X.K) := by
  rintro pins s σ H vs us Q I r ⟨p, ys, rfl, h⟩
  obtain ⟨u, rfl, ru⟩ := vals1 r
  cases ru
  rcases h with ⟨hq, q⟩ | ⟨hq, q⟩
  · obtain ⟨its, rv, pl, hz⟩ := I.list hq
    have hl := rv.length
    refine call_tuple_list pl.isList (fun h1 kp => ?_) (by rw [List.size_toArray]; omega)
    exact lay_end (s := { s with heap := h1 }) (I.kept (t' := s.toks) kp) rv hz q
  · obtain ⟨its, _, pl, _⟩ := I.tuple hq
    exact call_tuple_same pl ⟨.ref p, H, I, rfl, q⟩
def rCutT (K : PySem.W.Frag) : V → Option Int → Option Int → Hp → VK → Prop := fun x lo hi H Q => ∃ a xs, x = .ref a ∧ SqT K H a xs ∧
  ((HT.sIx xs.length 0 lo = 0 ∧ HT.sIx xs.length xs.length hi = xs.length) → Q (.ref a) H) ∧ (¬ (HT.sIx xs.length 0 lo = 0 ∧ HT.sIx xs.length xs.length hi = xs.length) → NewT (cutV xs lo hi) H Q)
theorem sl_tupN : SlR X (rCutT X.K) := by
  rintro pins s σ H x v vl vu lo hi sl Q I rx hs pl pu ⟨a, xs, rfl, hx, q1, q2⟩
  cases rx
  obtain ⟨its, r, ht, hz⟩ := I.tuple hx
  have hn : its.toArray.size = xs.length := by rw [List.size_toArray, r.length]
  refine ⟨"tuple", _, PyProof.Rows.slot_tuple_getitem.lookup, ht.typeIs, ?_⟩
  by_cases hw : HT.sIx xs.length 0 lo = 0 ∧ HT.sIx xs.length xs.length hi = xs.length
  · exact getItem_tuple_whole ht hs pl pu (by rw [hn]; exact hw) ⟨.ref a, H, I, rfl, q1 hw⟩
  · apply HT.getItem_tuple_cut ht hs pl pu (by rw [hn]; exact hw) _ (by rw [hn]; exact hz)
    rw [hn]
    exact lay_end (its := List.take _ (List.drop _ its)) I ((r.drop _).take _) (Nat.le_trans (cutV_length xs lo hi) hz) (q2 hw)
def rCatN (K : PySem.W.Frag) : R2 := fun x y H Q => ∃ a b xs ys, x = .ref a ∧ y = .ref b ∧ SqT K H a xs ∧ SqT K H b ys ∧ xs.length + ys.length ≤ sizeLine ∧
  (xs = [] → Q (.ref b) H) ∧ (xs ≠ [] → ys = [] → Q (.ref a) H) ∧ (xs ≠ [] → ys ≠ [] → NewT (xs ++ ys) H Q)
theorem op_catN : OpR X (binaryOp .Add) (rCatN X.K) := by
  rintro pins s σ H x y v u Q I rx ry ⟨a, b, xs, ys, rfl, rfl, ha, hb, hz, q0, q1, q2⟩
  cases rx
  cases ry
  obtain ⟨i1, r1, p1, _⟩ := I.tuple ha
  obtain ⟨i2, r2, p2, _⟩ := I.tuple hb
  have n1 := r1.length
  have n2 := r2.length
  by_cases hx : xs = []
  · subst hx
    cases r1
    exact cat_tup0 p1 p2 ⟨.ref b, H, I, rfl, q0 rfl⟩
  · have hv : i1 ≠ [] := fun z => hx (r1.nil_iff.mp z)
    apply HT.cat_tup p1 p2 hv
    · exact fun z => ⟨.ref a, H, I, rfl, q1 hx (r2.nil_iff.mp z)⟩
    · exact fun z => lay_end I (r1.append r2) (by rw [List.length_append]; exact hz) (q2 hx fun w => z (r2.nil_iff.mpr w))
    · omega
/-- t * k -/
def rRepN (K : PySem.W.Frag) : R2 := fun x y H Q => ∃ l k xs, x = .ref l ∧ y = .int k ∧ SqT K H l xs ∧ xs ≠ [] ∧ 2 ≤ k ∧ k ≤ 1000 ∧ xs.length ≤ 1000 ∧ NewT (List.replicate k.toNat xs).flatten H Q
theorem op_repN : OpR X (binaryOp .Mult) (rRepN X.K) := by
  rintro pins s σ H x y v u Q I rx ry ⟨l, k, xs, rfl, rfl, hT, ne, k2, k3, hz, q⟩
  cases rx
  obtain ⟨t, rfl⟩ := ry
  obtain ⟨its, r, ⟨⟨cls, dd, data, sl⟩, ho, hc, n, hd⟩, _⟩ := I.tuple hT
  simp only at hc hd
  subst hc hd
  have n1 : its.length = xs.length := r.length.symm
  have n2 : ((its.toArray.size : Nat) : Int) = xs.length := by rw [List.size_toArray, n1]
  have full : its.toArray.isEmpty = false := by
    cases its with
    | cons a b => rfl
    | nil => exact absurd (List.eq_nil_of_length_eq_zero n1.symm) ne
  have bulk : k.toNat * xs.length ≤ 1000 * 1000 := Nat.mul_le_mul (by omega) hz
  have wide : (xs.length : Int) * k ≤ 1000 * k := Int.mul_le_mul_of_nonneg_right (by omega) (by omega)
  have size1 : (List.replicate k.toNat its).flatten.length ≤ sizeLine := by rw [PyProof.Rows.lm_len_rep_flat, n1, sizeLine_eq]; omega
  have a0 : (decide (k < -(2 ^ 63)) || decide (k ≥ 2 ^ 63)) = false := by simp only [Bool.or_eq_false_iff, decide_eq_false_iff_not]; omega
  have a1 : (its.toArray.isEmpty || k == 1) = false := by rw [full, Bool.false_or, beq_eq_false_iff_ne]; omega
  have a2 : (decide (k ≤ 0) || its.toArray.isEmpty) = false := by rw [full, Bool.or_false, decide_eq_false_iff_not]; omega
  have a3 : Builtin.Tuple.tupleTooMany (((its.toArray.size : Nat) : Int) * k) = false := by
    rw [n2]; unfold Builtin.Tuple.tupleTooMany; rw [sizeLine_eq, decide_eq_false_iff_not]; omega
  have a4 : ¬ ((its.toArray.size : Nat) : Int) * k ≥ 2 ^ 63 := by rw [n2]; omega
  have goal : EP X pins σ Q (.ref s.heap.objs.size) { s with heap := s.heap.push (tupO (List.replicate k.toNat its).flatten) } :=
    lay_end I (r.rep k.toNat) (by rw [PyProof.Rows.lm_len_rep_flat, sizeLine_eq]; omega) q
  refine wpAny_binaryOp_repeat_ref (U := "int") (T := "tuple") (by decide) ⟨_, ho, rfl⟩ (typeIs_int · k t) noFill_tuple_mul F.fills_int_mul F.slot_int_rmul repeat_tuple F.slot_int_index.lookup ?_
  refine call_meets F.slot_int_rmul (typeIs_int s k t) F.entry_int_rmul (F.args_int_rmul_2 _ _) (int_rmul_tuple k t l its.toArray n dd sl) ⟨ho, rfl, ⟨_, ho, rfl⟩, ?_⟩
  refine call_meets F.slot_tuple_mul ⟨_, ho, rfl⟩ F.entry_tuple_mul (F.args_tuple_mul_2 _ _) (tuple_mulW l its.toArray n dd sl k t a0 a1 a2 ?_ a3 ?_) ⟨ho, ?_⟩
  · rw [n2]; omega
  · rw [size_rep, List.size_toArray]; exact size1
  · rw [size_rep]; exact goal
end
section
variable {X : Cx} {o e : Expr} {es : List Expr} {to : TE} {t : TA} {name : Str} {apos cpos : Pos} {id : String} {r : V → List V → Hp → VK → Prop}
/-- t.m(e, ..) of a tuple -/
theorem pe_tupM (slot : Slot "tuple" name id) (hty : typeOf (.builtin id) = pure (.type "method_descriptor")) (hm : MtR X id r) (ho : PE X o to) (ha : PA X (e :: es) t)
    (hbase : attributeBase o name X.env (eval o X.env) = eval o X.env := by rfl)
    (hfew : ((backTo cpos (starEach (e :: es) X.env)).all (fun x => !x.1) && (backToKw cpos (keywordEach [] X.env)).all (fun x => x.1.isSome) && decide ((e :: es).length + ([] : List Keyword).length + (if ([] : List Keyword).isEmpty then 0 else 1) < 30)) = true := by rfl)
    (hline : (apos.endLine == cpos.line) = true := by rfl) (hs : starEach (e :: es) X.env = (false, eval e X.env) :: starEach es X.env := by rfl) (hplain : (backTo cpos (starEach es X.env)).any (·.1) = false := by rfl) :
    PE X (.Call (.Attribute o name apos) (e :: es) [] cpos) (fun σ H Q => to σ H fun x H1 => (∃ a ys, x = .ref a ∧ TupN X.K H1 a ys) ∧ t σ H1 fun xs H2 => r x xs H2 Q) := by
  constructor
  intro pins s σ H Q I h
  apply wpAny_Call_method_late hbase hfew hline rfl
  refine thn (ho.run pins s σ H _ I h) ?_
  rintro v s1 ⟨x, H1, I1, r1, ⟨a, ys, rfl, hT⟩, q1⟩
  cases r1
  obtain ⟨ob, e1, e2, e3⟩ := hT.obj I1
  refine ⟨"tuple", id, PySem.F.plainAttrs_tuple, slot, hty, ⟨ob, e1, e2⟩, fun b e => by cases e; exact ⟨ob, e1, e3⟩, ?_⟩
  have hA := ha.run cpos pins s1 σ H1 _ I1 q1
  rw [hs] at hA ⊢
  apply Calls.callWith_builtin (by show (false || (backTo cpos (starEach es X.env)).any (·.1)) = false; rw [hplain]; rfl)
  apply Calls.evalArgs_plain
  refine thn hA ?_
  rintro us s2 ⟨vs, H2, I2, r2, q2⟩
  exact hm pins s2 σ H2 (.ref a) vs (.ref a) us Q I2 rfl r2 q2
end
end VI
namespace VI
open PySem PySem.Spec PyProof.Rows L2
abbrev D := PyData
/-- what an expression gives: a datum, or a list nobody else holds -/
inductive EV where
  | dat (d : D)
  | own (ds : List D)
def EV.toD : EV → D
  | .dat d => d
  | .own ds => .list ds
/-- the end of a run over data -/
inductive Res (α : Type) where
  | ok (a : α)
  | exc (c : Str) (xs : List D)
  | bad
def Res.bind {α β : Type} : Res α → (α → Res β) → Res β
  | .ok a, f => f a
  | .exc c xs, _ => .exc c xs
  | .bad, _ => .bad
theorem Res.bind_ok {α β : Type} {r : Res α} {f : α → Res β} {b : β} (h : r.bind f = .ok b) : ∃ a, r = .ok a ∧ f a = .ok b := by
  cases r with
  | ok a => exact ⟨a, rfl, h⟩
  | exc c xs => cases h
  | bad => cases h
theorem Res.ok_bind {α β : Type} {a : α} {f : α → Res β} : (Res.ok a).bind f = f a := rfl
/-- the objects that stand for data -/
def Sq : HO → Prop
  | .lst _ => True
  | .tup _ => True
  | .frz _ _ => True
  | _ => False
/-- lists and tuples stay, nothing goes -/
structure Up (H H' : Hp) : Prop where
  sq : ∀ a o, Sq o → H a = some o → H' a = some o
  no : ∀ a, H' a = none → H a = none
theorem Up.refl (H : Hp) : Up H H := ⟨fun _ _ _ h => h, fun _ h => h⟩
theorem Up.trans {H H1 H2 : Hp} (a : Up H H1) (b : Up H1 H2) : Up H H2 :=
  ⟨fun c o s h => b.sq c o s (a.sq c o s h), fun c h => a.no c (b.no c h)⟩
/-- all stays -/
structure Ext (H H' : Hp) : Prop where
  all : ∀ a o, H a = some o → H' a = some o
theorem Ext.refl (H : Hp) : Ext H H := ⟨fun _ _ h => h⟩
theorem Ext.trans {H H1 H2 : Hp} (a : Ext H H1) (b : Ext H1 H2) : Ext H H2 := ⟨fun c o h => b.all c o (a.all c o h)⟩
theorem Ext.no {H H' : Hp} (e : Ext H H') {a : Addr} (h : H' a = none) : H a = none := by
  cases q : H a with
  | none => rfl
  | some o => rw [e.all a o q] at h; cases h
theorem Ext.up {H H' : Hp} (e : Ext H H') : Up H H' := ⟨fun a o _ h => e.all a o h, fun _ h => e.no h⟩
theorem Ext.new {H : Hp} {p : Addr} {o : HO} (h : H p = none) : Ext H (upd H p o) :=
  ⟨fun a u e => by rw [upd_ne (ne_of_none e h)]; exact e⟩
open Classical in
noncomputable def hide (P : Addr → Prop) (H : Hp) : Hp := fun a => if P a then none else H a
section
variable {P : Addr → Prop} {H H' : Hp} {a : Addr} {o : HO}
theorem hide_of (h : hide P H a = some o) : ¬ P a ∧ H a = some o := by
  unfold hide at h
  split at h
  · cases h
  · exact ⟨by assumption, h⟩
theorem hide_eq (h : ¬ P a) : hide P H a = H a := by
  unfold hide
  rw [if_neg h]
theorem hide_up (u : Up H H') : ∀ a o, Sq o → hide P H a = some o → hide P H' a = some o := fun a o s h => by
  obtain ⟨h1, h2⟩ := hide_of h
  rw [hide_eq h1]
  exact u.sq a o s h2
theorem hide_ext (u : Ext H H') : Ext (hide P H) (hide P H') := ⟨fun a o h => by
  obtain ⟨h1, h2⟩ := hide_of h
  rw [hide_eq h1]
  exact u.all a o h2⟩
theorem hide_upd (h : P a) : hide P (upd H a o) = hide P H := by
  funext b
  unfold hide
  by_cases hb : P b
  · rw [if_pos hb, if_pos hb]
  · rw [if_neg hb, if_neg hb, upd_ne (fun e => hb (by rw [e]; exact h))]
theorem hide_less {P' : Addr → Prop} (s : ∀ b, P' b → P b) : ∀ a o, hide P H a = some o → hide P' H a = some o := fun a o h => by
  obtain ⟨h1, h2⟩ := hide_of h
  rw [hide_eq fun z => h1 (s _ z)]
  exact h2
end
/-- where the feed stands: its dict, its cells; the keys of its dict -/
structure Pr where
  K : PySem.W.Frag
  fa : Addr
  ca : Addr
  k2 : Str
  k3 : Str
  k4 : Str
mutual
def Rep (p : Pr) (G : Hp) : D → V → Prop
  | .none, v => v = .non
  | .bool b, v => v = .bl b
  | .int i, v => v = .int i
  | .str x, v => v = .str x
  | .list ds, v => ∃ a xs, v = .ref a ∧ G a = some (.lst xs) ∧ RepAll p G ds xs
  | .tuple ds, v => ∃ a xs, v = .ref a ∧ TupN p.K G a xs ∧ RepAll p G ds xs
  | .dict _, v => v = .ref p.fa
def RepAll (p : Pr) (G : Hp) : List D → List V → Prop
  | [], vs => vs = []
  | d :: ds, vs => ∃ v r, vs = v :: r ∧ Rep p G d v ∧ RepAll p G ds r
end
theorem TupN.at {K : PySem.W.Frag} {G G' : Hp} {a : Addr} {xs : List V} (h : TupN K G a xs) (u : ∀ a o, Sq o → G a = some o → G' a = some o) : TupN K G' a xs := by
  rcases h with ⟨o, d, h⟩ | h
  · exact .inl ⟨o, d, u _ _ trivial h⟩
  · exact .inr h
section
variable {p : Pr} {G G' : Hp}
mutual
theorem Rep.up (u : ∀ a o, Sq o → G a = some o → G' a = some o) : ∀ {d : D} {v : V}, Rep p G d v → Rep p G' d v
  | .none, _, h => h
  | .bool _, _, h => h
  | .int _, _, h => h
  | .str _, _, h => h
  | .list _, _, h => by
    obtain ⟨a, xs, e, h1, h2⟩ := h
    exact ⟨a, xs, e, u _ _ trivial h1, RepAll.up u h2⟩
  | .tuple _, _, h => by
    obtain ⟨a, xs, e, h1, h2⟩ := h
    exact ⟨a, xs, e, TupN.at h1 u, RepAll.up u h2⟩
  | .dict _, _, h => h
theorem RepAll.up (u : ∀ a o, Sq o → G a = some o → G' a = some o) : ∀ {ds : List D} {vs : List V}, RepAll p G ds vs → RepAll p G' ds vs
  | [], _, h => h
  | _ :: _, _, h => by
    obtain ⟨v, r, e, h1, h2⟩ := h
    exact ⟨v, r, e, Rep.up u h1, RepAll.up u h2⟩
end
theorem RepAll.len : ∀ {ds : List D} {vs : List V}, RepAll p G ds vs → vs.length = ds.length
  | [], _, h => by cases h; rfl
  | _ :: ds, _, h => by
    obtain ⟨v, r, rfl, _, h2⟩ := h
    rw [List.length_cons, List.length_cons, RepAll.len h2]
theorem RepAll.get : ∀ {ds : List D} {vs : List V} {i : Nat} {d : D}, RepAll p G ds vs → ds[i]? = some d → ∃ v, vs[i]? = some v ∧ Rep p G d v
  | [], _, _, _, _, e => by simp at e
  | _ :: _, _, 0, _, h, e => by
    obtain ⟨v, r, rfl, h1, _⟩ := h
    have e' := Option.some.inj e
    subst e'
    exact ⟨v, rfl, h1⟩
  | _ :: ds, _, i + 1, _, h, e => by
    obtain ⟨v, r, rfl, _, h2⟩ := h
    obtain ⟨w, e1, e2⟩ := RepAll.get (i := i) h2 e
    exact ⟨w, e1, e2⟩
theorem RepAll.app : ∀ {ds es : List D} {vs ws : List V}, RepAll p G ds vs → RepAll p G es ws → RepAll p G (ds ++ es) (vs ++ ws)
  | [], _, _, _, h, g => by cases h; exact g
  | _ :: _, _, _, _, h, g => by
    obtain ⟨v, r, rfl, h1, h2⟩ := h
    exact ⟨v, _, rfl, h1, RepAll.app h2 g⟩
theorem RepAll.one {d : D} {v : V} (h : Rep p G d v) : RepAll p G [d] [v] := ⟨v, [], rfl, h, rfl⟩
theorem RepAll.drop : ∀ {ds : List D} {vs : List V} (n : Nat), RepAll p G ds vs → RepAll p G (ds.drop n) (vs.drop n)
  | _, _, 0, h => h
  | [], _, n + 1, h => by cases h; exact rfl
  | _ :: _, _, n + 1, h => by
    obtain ⟨v, r, rfl, _, h2⟩ := h
    exact RepAll.drop n h2
theorem RepAll.take : ∀ {ds : List D} {vs : List V} (n : Nat), RepAll p G ds vs → RepAll p G (ds.take n) (vs.take n)
  | [], _, 0, h => rfl
  | _ :: _, _, 0, h => rfl
  | [], _, n + 1, h => by cases h; exact rfl
  | _ :: _, _, n + 1, h => by
    obtain ⟨v, r, rfl, h1, h2⟩ := h
    exact ⟨v, _, rfl, h1, RepAll.take n h2⟩
theorem RepAll.rev : ∀ {ds : List D} {vs : List V}, RepAll p G ds vs → RepAll p G ds.reverse vs.reverse
  | [], _, h => by cases h; exact rfl
  | _ :: _, _, h => by
    obtain ⟨v, r, rfl, h1, h2⟩ := h
    rw [List.reverse_cons, List.reverse_cons]
    exact RepAll.app (RepAll.rev h2) (RepAll.one h1)
theorem RepAll.strs : ∀ {xs : List Str} {vs : List V}, RepAll p G (xs.map .str) vs → vs = xs.map V.str
  | [], _, h => h
  | _ :: _, _, h => by
    obtain ⟨v, r, rfl, h1, h2⟩ := h
    cases h1
    rw [List.map_cons, RepAll.strs h2]
theorem RepAll.of_strs : ∀ (xs : List Str), RepAll p G (xs.map .str) (xs.map V.str)
  | [] => rfl
  | x :: xs => ⟨.str x, xs.map V.str, rfl, rfl, RepAll.of_strs xs⟩
theorem RepAll.ints : ∀ {xs : List Int} {vs : List V}, RepAll p G (xs.map .int) vs → vs = xs.map V.int
  | [], _, h => h
  | _ :: _, _, h => by
    obtain ⟨v, r, rfl, h1, h2⟩ := h
    cases h1
    rw [List.map_cons, RepAll.ints h2]
theorem RepAll.of_ints : ∀ (xs : List Int), RepAll p G (xs.map .int) (xs.map V.int)
  | [] => rfl
  | x :: xs => ⟨.int x, xs.map V.int, rfl, rfl, RepAll.of_ints xs⟩
theorem RepAll.bools : ∀ {xs : List Bool} {vs : List V}, RepAll p G (xs.map .bool) vs → vs = xs.map V.bl
  | [], _, h => h
  | _ :: _, _, h => by
    obtain ⟨v, r, rfl, h1, h2⟩ := h
    cases h1
    rw [List.map_cons, RepAll.bools h2]
/-- in the layer's own words -/
theorem dp_of : ∀ (d : D) (v : V), d.canLay0 = true → (∀ a o, G a = some o → G' a = some o) → Rep p G d v → Dp p.K G' v d := by
  have both : (∀ (d : D) (v : V), d.canLay0 = true → (∀ a o, G a = some o → G' a = some o) → Rep p G d v → Dp p.K G' v d) := by
    intro d
    refine PyData.rec (motive_1 := fun d => ∀ v, d.canLay0 = true → (∀ a o, G a = some o → G' a = some o) → Rep p G d v → Dp p.K G' v d)
      (motive_2 := fun ds => ∀ vs, PyData.canLayAll0 ds = true → (∀ a o, G a = some o → G' a = some o) → RepAll p G ds vs → DpAll p.K G' vs ds) (motive_3 := fun _ => True) (motive_4 := fun _ => True) ?_ ?_ ?_ ?_ ?_ ?_ ?_ ?_ ?_ ?_ ?_ ?_ d
    · intro v _ _ h; cases h; exact .non
    · intro b v _ _ h; cases h; exact .bl b
    · intro i v _ _ h; cases h; exact .int i
    · intro x v _ _ h; cases h; exact .str x
    · intro ds ih v hc u h
      obtain ⟨a, xs, rfl, h1, h2⟩ := h
      exact .lst (.inl (.inl (u _ _ h1))) (ih xs (by simpa only [PyData.canLay0] using hc) u h2)
    · intro ds ih v hc u h
      obtain ⟨a, xs, rfl, h1, h2⟩ := h
      exact .tup (TupN.at h1 fun a o _ q => u a o q).sq (ih xs (by simpa only [PyData.canLay0] using hc) u h2)
    · intro kvs _ v hc; simp [PyData.canLay0] at hc
    · intro vs _ _ h; cases h; exact .nil
    · intro d ds ih1 ih2 vs hc u h
      obtain ⟨v, r, rfl, h1, h2⟩ := h
      simp only [PyData.canLayAll0, Bool.and_eq_true] at hc
      exact .cons (ih1 v hc.1 u h1) (ih2 r hc.2 u h2)
    · trivial
    · intros; trivial
    · intros; trivial
  exact both
end
structure FS where
  cells : List Int
  nx : Int
  left : Int
  dr : Int
def fsDict (p : Pr) (f : FS) : List (Key × V) := [(.inr "cells", .ref p.ca), (.inr p.k2, .int f.nx), (.inr p.k3, .int f.left), (.inr p.k4, .int f.dr)]
structure FO (p : Pr) (f : FS) (G : Hp) : Prop where
  d : G p.fa = some (.dK (fsDict p f))
  c : G p.ca = some (.lst (f.cells.map V.int))
theorem FO.ext {p : Pr} {f : FS} {G G' : Hp} (h : FO p f G) (e : Ext G G') : FO p f G' := ⟨e.all _ _ h.d, e.all _ _ h.c⟩
abbrev Env' := List (Option D)
def Live (P : Addr → Prop) (H : Hp) : Prop := ∀ a, P a → H a ≠ none
theorem Live.up {P : Addr → Prop} {H H' : Hp} (l : Live P H) (u : Up H H') : Live P H' := fun a h e => l a h (u.no a e)
structure EnvR (p : Pr) (G : Hp) (ρ : Env') (σ : L2.St) : Prop where
  len : ρ.length = σ.length
  has : ∀ (i : Nat) (d : D), ρ[i]? = some (some d) → ∃ v, σ[i]? = some (some v) ∧ Rep p G d v
theorem EnvR.up {p : Pr} {G G' : Hp} {ρ : Env'} {σ : L2.St} (h : EnvR p G ρ σ) (u : ∀ a o, Sq o → G a = some o → G' a = some o) : EnvR p G' ρ σ := ⟨h.len, fun i d e => by
  obtain ⟨v, h1, h2⟩ := h.has i d e
  exact ⟨v, h1, Rep.up u h2⟩⟩
structure At (p : Pr) (P : Addr → Prop) (H : Hp) (ρ : Env') (φ : FS) (σ : L2.St) : Prop where
  live : Live P H
  env : EnvR p (hide P H) ρ σ
  fo : FO p φ (hide P H)
theorem At.next {p : Pr} {P : Addr → Prop} {H H' : Hp} {ρ : Env'} {φ φ' : FS} {σ : L2.St} (a : At p P H ρ φ σ) (u : Up H H') (f : FO p φ' (hide P H')) : At p P H' ρ φ' σ :=
  ⟨a.live.up u, a.env.up (hide_up u), f⟩
/-- v is what e says: a datum, or a list that is new since H0 and that nobody else holds -/
def RepE (p : Pr) (P : Addr → Prop) (H0 H : Hp) : EV → V → Prop
  | .dat d, v => Rep p (hide P H) d v
  | .own ds, v => ∃ a xs, v = .ref a ∧ H0 a = none ∧ H a = some (.lst xs) ∧ RepAll p (hide (fun b => P b ∨ b = a) H) ds xs
section
variable {p : Pr} {P : Addr → Prop} {H0 H1 H H' : Hp} {e : EV} {v : V}
theorem RepE.rep (l : Live P H0) (h : RepE p P H0 H e v) : Rep p (hide P H) e.toD v := by
  cases e with
  | dat d => exact h
  | own ds =>
    obtain ⟨a, xs, rfl, h1, h2, h3⟩ := h
    exact ⟨a, xs, rfl, by rw [hide_eq fun z => l a z h1]; exact h2, RepAll.up (fun b o _ q => hide_less (fun c z => .inl z) b o q) h3⟩
theorem RepE.up (h : RepE p P H0 H e v) (u : Up H H') : RepE p P H0 H' e v := by
  cases e with
  | dat d => exact Rep.up (hide_up u) h
  | own ds =>
    obtain ⟨a, xs, rfl, h1, h2, h3⟩ := h
    exact ⟨a, xs, rfl, h1, u.sq _ _ trivial h2, RepAll.up (hide_up u) h3⟩
theorem RepE.old (h : RepE p P H1 H e v) (u : Up H0 H1) : RepE p P H0 H e v := by
  cases e with
  | dat d => exact h
  | own ds =>
    obtain ⟨a, xs, rfl, h1, h2, h3⟩ := h
    exact ⟨a, xs, rfl, u.no a h1, h2, h3⟩
end
end VI
namespace VI
open PySem PySem.Spec PyProof.Rows L2
structure Pk where
  fa : Addr
  ca : Addr
  k2 : Str
  k3 : Str
  k4 : Str
def Pk.at (q : Pk) (K : PySem.W.Frag) : Pr := ⟨K, q.fa, q.ca, q.k2, q.k3, q.k4⟩
abbrev ME := Env' → FS → Res (EV × FS)
abbrev MT := Env' → FS → Res (Bool × FS)
abbrev MA := Env' → FS → Res (List D × FS)
def tD (p : Pr) (m : ME) : TE := fun σ H Q => ∃ P ρ φ e φ', At p P H ρ φ σ ∧ m ρ φ = .ok (e, φ') ∧ ∀ v H', Up H H' → FO p φ' (hide P H') → RepE p P H H' e v → Q v H'
def tDT (p : Pr) (m : MT) : TT := fun σ H Q => ∃ P ρ φ b φ', At p P H ρ φ σ ∧ m ρ φ = .ok (b, φ') ∧ ∀ H', Up H H' → FO p φ' (hide P H') → Q b H'
def tDA (p : Pr) (m : MA) : TA := fun σ H Q => ∃ P ρ φ ds φ', At p P H ρ φ σ ∧ m ρ φ = .ok (ds, φ') ∧ ∀ vs H', Up H H' → FO p φ' (hide P H') → RepAll p (hide P H') ds vs → Q vs H'
def DE (X : Cx) (q : Pk) (e : Expr) (m : ME) : Prop := PE X e (tD (q.at X.K) m)
def DT (X : Cx) (q : Pk) (e : Expr) (m : MT) : Prop := PT X e (tDT (q.at X.K) m)
def DW (X : Cx) (q : Pk) (e : Expr) (m : MT) : Prop := PW X e (tDT (q.at X.K) m)
def DA (X : Cx) (q : Pk) (es : List Expr) (m : MA) : Prop := PA X es (tDA (q.at X.K) m)
theorem _root_.L2.PE.imp {X : Cx} {e : Expr} {t t' : TE} (h : PE X e t) (w : ∀ σ H Q, t' σ H Q → t σ H Q) : PE X e t' := ⟨fun pins s σ H Q I q => h.run pins s σ H Q I (w _ _ _ q)⟩
theorem _root_.L2.PT.imp {X : Cx} {e : Expr} {t t' : TT} (h : PT X e t) (w : ∀ σ H Q, t' σ H Q → t σ H Q) : PT X e t' := ⟨fun pins s σ H Q I q => h.run pins s σ H Q I (w _ _ _ q)⟩
theorem _root_.L2.PW.imp {X : Cx} {e : Expr} {t t' : TT} (h : PW X e t) (w : ∀ σ H Q, t' σ H Q → t σ H Q) : PW X e t' := ⟨fun wh pins s σ H Q I q => h.run wh pins s σ H Q I (w _ _ _ q)⟩
theorem _root_.L2.PA.imp {X : Cx} {es : List Expr} {t t' : TA} (h : PA X es t) (w : ∀ σ H Q, t' σ H Q → t σ H Q) : PA X es t' := ⟨fun pos pins s σ H Q I q => h.run pos pins s σ H Q I (w _ _ _ q)⟩
section
variable {p : Pr} {P : Addr → Prop} {H : Hp} {ρ : Env'} {φ φ1 : FS} {σ : L2.St}
/-- one part, then the rest -/
theorem part {m : ME} {e : EV} {Q : V → Hp → Prop} (a : At p P H ρ φ σ) (h : m ρ φ = .ok (e, φ1))
    (k : ∀ v H1, At p P H1 ρ φ1 σ → Up H H1 → RepE p P H H1 e v → Q v H1) : tD p m σ H Q :=
  ⟨P, ρ, φ, e, φ1, a, h, fun v H1 u f r => k v H1 (a.next u f) u r⟩
theorem partT {m : MT} {b : Bool} {Q : Bool → Hp → Prop} (a : At p P H ρ φ σ) (h : m ρ φ = .ok (b, φ1))
    (k : ∀ H1, At p P H1 ρ φ1 σ → Up H H1 → Q b H1) : tDT p m σ H Q :=
  ⟨P, ρ, φ, b, φ1, a, h, fun H1 u f => k H1 (a.next u f) u⟩
theorem partA {m : MA} {ds : List D} {Q : List V → Hp → Prop} (a : At p P H ρ φ σ) (h : m ρ φ = .ok (ds, φ1))
    (k : ∀ vs H1, At p P H1 ρ φ1 σ → Up H H1 → RepAll p (hide P H1) ds vs → Q vs H1) : tDA p m σ H Q :=
  ⟨P, ρ, φ, ds, φ1, a, h, fun v H1 u f r => k v H1 (a.next u f) u r⟩
end
def cD (d : D) : ME := fun _ φ => .ok (.dat d, φ)
def vD (i : Nat) : ME := fun ρ φ => match ρ[i]? with
  | some (some d) => .ok (.dat d, φ)
  | _ => .bad
section
variable {X : Cx} {q : Pk} {pos : Pos} {a b c : Expr} {ma mb mc : ME}
theorem de_const {e : Expr} {v : V} {d : D} (h : PE X e (tC v)) (r : ∀ p G, Rep p G d v) : DE X q e (cD d) := h.imp fun σ H Q w => by
  obtain ⟨P, ρ, φ, e, φ', a, h, k⟩ := w
  cases h
  exact k v H (Up.refl H) a.fo (r _ _)
theorem de_int {i j} : DE X q (.Constant (.int i) j pos) (cD (.int i)) := de_const pe_int fun _ _ => rfl
theorem de_bl {i j} : DE X q (.Constant (.bool i) j pos) (cD (.bool i)) := de_const pe_bl fun _ _ => rfl
theorem de_str {i j} : DE X q (.Constant (.str i) j pos) (cD (.str i)) := de_const pe_str fun _ _ => rfl
theorem de_non {j} : DE X q (.Constant .none j pos) (cD .none) := de_const pe_non fun _ _ => rfl
theorem de_var {i : Nat} {e : Expr} (h : PE X e (tVar i)) : DE X q e (vD i) := h.imp fun σ H Q w => by
  obtain ⟨P, ρ, φ, e, φ', a, h, k⟩ := w
  unfold vD at h
  split at h
  · rename_i d e1
    cases h
    obtain ⟨v, e2, r⟩ := a.env.has i d e1
    exact ⟨v, e2, k v H (Up.refl H) a.fo r⟩
  · cases h
def OpG (X : Cx) (q : Pk) (f : Value → Value → Sem Value) (g : D → D → Res EV) : Prop :=
  ∃ r : R2, OpR X f r ∧ ∀ (P : Addr → Prop) (H : Hp) (x y : V) (d1 d2 : D) (e : EV) (Q : VK), Live P H → Rep (q.at X.K) (hide P H) d1 x → Rep (q.at X.K) (hide P H) d2 y → g d1 d2 = .ok e →
    (∀ v H', Ext H H' → RepE (q.at X.K) P H H' e v → Q v H') → r x y H Q
def op2 (g : D → D → Res EV) (ma mb : ME) : ME := fun ρ φ => (ma ρ φ).bind fun r1 => (mb ρ r1.2).bind fun r2 => (g r1.1.toD r2.1.toD).bind fun e => .ok (e, r2.2)
theorem op2_ok {g : D → D → Res EV} {ma mb : ME} {ρ : Env'} {φ φ' : FS} {e : EV} (h : op2 g ma mb ρ φ = .ok (e, φ')) : ∃ e1 φ1 e2, ma ρ φ = .ok (e1, φ1) ∧ mb ρ φ1 = .ok (e2, φ') ∧ g e1.toD e2.toD = .ok e := by
  unfold op2 at h
  obtain ⟨⟨e1, φ1⟩, h1, h⟩ := Res.bind_ok h
  obtain ⟨⟨e2, φ2⟩, h2, h⟩ := Res.bind_ok h
  obtain ⟨e3, h3, h⟩ := Res.bind_ok h
  cases h
  exact ⟨e1, φ1, e2, h1, h2, h3⟩
theorem tOp_D {p : Pr} {r : R2} {g : D → D → Res EV} (hr : ∀ (P : Addr → Prop) (H : Hp) (x y : V) (d1 d2 : D) (e : EV) (Q : VK), Live P H → Rep p (hide P H) d1 x → Rep p (hide P H) d2 y → g d1 d2 = .ok e →
    (∀ v H', Ext H H' → RepE p P H H' e v → Q v H') → r x y H Q) (σ : L2.St) (H : Hp) (Q : VK) (w : tD p (op2 g ma mb) σ H Q) : tOp r (tD p ma) (tD p mb) σ H Q := by
  obtain ⟨P, ρ, φ, e, φ', a, h, k⟩ := w
  obtain ⟨e1, φ1, e2, h1, h2, h3⟩ := op2_ok h
  refine part a h1 fun v1 H1 a1 u1 r1 => part a1 h2 fun v2 H2 a2 u2 r2 => ?_
  refine hr P H2 v1 v2 e1.toD e2.toD e Q a2.live (Rep.up (hide_up u2) (r1.rep a.live)) (r2.rep a1.live) h3 fun v H3 x3 r3 => ?_
  exact k v H3 ((u1.trans u2).trans x3.up) (a2.fo.ext (hide_ext x3)) (r3.old (u1.trans u2))
theorem de_op {op : Operator} {g : D → D → Res EV} (h : OpG X q (binaryOp op) g) (ha : DE X q a ma) (hb : DE X q b mb) : DE X q (.BinOp a op b pos) (op2 g ma mb) := by
  obtain ⟨r, h1, h2⟩ := h
  exact (pe_op h1 ha hb).imp (tOp_D h2)
theorem de_cmp {op : CmpOp} {g : D → D → Res EV} (h : OpG X q (compareOp op) g) (ha : DE X q a ma) (hb : DE X q b mb) (hm : behindInMarks op b = false) : DE X q (.Compare a [op] [b] pos) (op2 g ma mb) := by
  obtain ⟨r, h1, h2⟩ := h
  exact (pe_cmpR h1 ha hb hm).imp (tOp_D h2)
/-- a value that is a bool, as a test -/
def tst (m : ME) : MT := fun ρ φ => (m ρ φ).bind fun r => match r.1 with
  | .dat (.bool b) => .ok (b, r.2)
  | _ => .bad
theorem tst_ok {m : ME} {ρ : Env'} {φ φ' : FS} {b : Bool} (h : tst m ρ φ = .ok (b, φ')) : m ρ φ = .ok (.dat (.bool b), φ') := by
  unfold tst at h
  obtain ⟨⟨e, φ1⟩, h1, h⟩ := Res.bind_ok h
  rcases e with d | ds
  · cases d with
    | bool b1 => cases h; exact h1
    | none => cases h
    | int i => cases h
    | str x => cases h
    | list ds => cases h
    | tuple ds => cases h
    | dict kv => cases h
  · cases h
theorem tTest_D {p : Pr} {m : ME} {t : TE} (hw : ∀ σ H Q, tD p m σ H Q → t σ H Q) (σ : L2.St) (H : Hp) (Q : Bool → Hp → Prop) (w : tDT p (tst m) σ H Q) : tTest t σ H Q := by
  obtain ⟨P, ρ, φ, b, φ', a, h, k⟩ := w
  refine hw σ H _ (part a (tst_ok h) fun v H1 a1 u1 r1 => ?_)
  cases r1
  exact ⟨b, rfl, k H1 u1 a1.fo⟩
theorem dt_cmp {op : CmpOp} {g : D → D → Res EV} (h : OpG X q (compareOp op) g) (ha : DE X q a ma) (hb : DE X q b mb) (hm : behindInMarks op b = false) : DT X q (.Compare a [op] [b] pos) (tst (op2 g ma mb)) := by
  obtain ⟨r, h1, h2⟩ := h
  exact (pt_cmpR h1 ha hb hm).imp (tTest_D (tOp_D h2))
theorem dt_val {e : Expr} {m : ME} (h : DE X q e m) (he : ∀ whole, isTrue e X.env whole = (do let v ← whole; standAt e.pos; holding [v] (truthy v))) : DT X q e (tst m) :=
  (pt_val h he).imp (tTest_D fun _ _ _ w => w)
def chn (g g' : D → D → Res EV) (ma mb mc : ME) : ME := fun ρ φ => (ma ρ φ).bind fun r1 => (mb ρ r1.2).bind fun r2 => (g r1.1.toD r2.1.toD).bind fun e => match e with
  | .dat (.bool true) => (mc ρ r2.2).bind fun r3 => (g' r2.1.toD r3.1.toD).bind fun e' => .ok (e', r3.2)
  | .dat (.bool false) => .ok (.dat (.bool false), r2.2)
  | _ => .bad
theorem chain_D {p : Pr} {r r' : R2} {g g' : D → D → Res EV} (hr : ∀ (P : Addr → Prop) (H : Hp) (x y : V) (d1 d2 : D) (e : EV) (Q : VK), Live P H → Rep p (hide P H) d1 x → Rep p (hide P H) d2 y → g d1 d2 = .ok e →
    (∀ v H', Ext H H' → RepE p P H H' e v → Q v H') → r x y H Q)
    (hr' : ∀ (P : Addr → Prop) (H : Hp) (x y : V) (d1 d2 : D) (e : EV) (Q : VK), Live P H → Rep p (hide P H) d1 x → Rep p (hide P H) d2 y → g' d1 d2 = .ok e →
    (∀ v H', Ext H H' → RepE p P H H' e v → Q v H') → r' x y H Q) (σ : L2.St) (H : Hp) (Q : VK) (w : tD p (chn g g' ma mb mc) σ H Q) : tChain r r' (tD p ma) (tD p mb) (tD p mc) σ H Q := by
  obtain ⟨P, ρ, φ, e, φ', a, h, k⟩ := w
  unfold chn at h
  obtain ⟨⟨e1, φ1⟩, h1, h⟩ := Res.bind_ok h
  obtain ⟨⟨e2, φ2⟩, h2, h⟩ := Res.bind_ok h
  obtain ⟨e3, h3, h⟩ := Res.bind_ok h
  refine part a h1 fun v1 H1 a1 u1 r1 => part a1 h2 fun v2 H2 a2 u2 r2 => ?_
  refine hr P H2 v1 v2 e1.toD e2.toD e3 _ a2.live (Rep.up (hide_up u2) (r1.rep a.live)) (r2.rep a1.live) h3 fun v H3 x3 r3 => ?_
  have a3 : At p P H3 ρ φ2 σ := a2.next x3.up (a2.fo.ext (hide_ext x3))
  dsimp only at h
  split at h
  · cases r3
    refine ⟨true, rfl, ?_⟩
    rw [if_pos rfl]
    obtain ⟨⟨e4, φ4⟩, h4, h⟩ := Res.bind_ok h
    obtain ⟨e5, h5, h⟩ := Res.bind_ok h
    cases h
    refine part a3 h4 fun v4 H4 a4 u4 r4 => ?_
    refine hr' P H4 v2 v4 e2.toD e4.toD e _ a4.live (Rep.up (hide_up (x3.up.trans u4)) (r2.rep a1.live)) (r4.rep a3.live) h5 fun v5 H5 x5 r5 => ?_
    exact k v5 H5 ((((u1.trans u2).trans x3.up).trans u4).trans x5.up) (a4.fo.ext (hide_ext x5)) (r5.old (((u1.trans u2).trans x3.up).trans u4))
  · cases r3
    cases h
    refine ⟨false, rfl, ?_⟩
    rw [if_neg Bool.false_ne_true]
    exact k _ H3 ((u1.trans u2).trans x3.up) a3.fo rfl
  · cases h
theorem de_chain {op op' : CmpOp} {g g' : D → D → Res EV} (h : OpG X q (compareOp op) g) (h' : OpG X q (compareOp op') g') (ha : DE X q a ma) (hb : DE X q b mb) (hc : DE X q c mc) (hm : lastMarks [op, op'] [b, c] = false) :
    DE X q (.Compare a [op, op'] [b, c] pos) (chn g g' ma mb mc) := by
  obtain ⟨r, h1, h2⟩ := h
  obtain ⟨r', h3, h4⟩ := h'
  exact (pe_chain h1 h3 ha hb hc hm).imp (chain_D h2 h4)
theorem dt_chain {op op' : CmpOp} {g g' : D → D → Res EV} (h : OpG X q (compareOp op) g) (h' : OpG X q (compareOp op') g') (ha : DE X q a ma) (hb : DE X q b mb) (hc : DE X q c mc) (hm : lastMarks [op, op'] [b, c] = false) :
    DT X q (.Compare a [op, op'] [b, c] pos) (tst (chn g g' ma mb mc)) := by
  obtain ⟨r, h1, h2⟩ := h
  obtain ⟨r', h3, h4⟩ := h'
  exact (pt_chain h1 h3 ha hb hc hm).imp (tTest_D (chain_D h2 h4))
variable {rest : List Expr} {ta tb : MT}
def andT (s t : MT) : MT := fun ρ φ => (s ρ φ).bind fun r => if r.1 = true then t ρ r.2 else .ok (false, r.2)
def orT (s t : MT) : MT := fun ρ φ => (s ρ φ).bind fun r => if r.1 = true then .ok (true, r.2) else t ρ r.2
def notT (s : MT) : MT := fun ρ φ => (s ρ φ).bind fun r => .ok (!r.1, r.2)
theorem dt_w {e : Expr} (h : DW X q e ta) : DT X q e ta := h.pt
theorem dw_and1 (h : DT X q a ta) : DW X q (.BoolOp .And [a] pos) ta := pw_and1 h
theorem dw_or1 (h : DT X q a ta) : DW X q (.BoolOp .Or [a] pos) ta := pw_or1 h
theorem dw_and (ha : DT X q a ta) (hb : DW X q (.BoolOp .And (b :: rest) pos) tb) : DW X q (.BoolOp .And (a :: b :: rest) pos) (andT ta tb) := (pw_and ha hb).imp fun σ H Q w => by
  obtain ⟨P, ρ, φ, c, φ', a, h, k⟩ := w
  obtain ⟨⟨c1, φ1⟩, h1, h⟩ := Res.bind_ok h
  refine partT a h1 fun H1 a1 u1 => ?_
  cases c1 with
  | true => exact partT a1 h fun H2 a2 u2 => k H2 (u1.trans u2) a2.fo
  | false => cases h; exact k H1 u1 a1.fo
theorem dw_or (ha : DT X q a ta) (hb : DW X q (.BoolOp .Or (b :: rest) pos) tb) : DW X q (.BoolOp .Or (a :: b :: rest) pos) (orT ta tb) := (pw_or ha hb).imp fun σ H Q w => by
  obtain ⟨P, ρ, φ, c, φ', a, h, k⟩ := w
  obtain ⟨⟨c1, φ1⟩, h1, h⟩ := Res.bind_ok h
  refine partT a h1 fun H1 a1 u1 => ?_
  cases c1 with
  | true => cases h; exact k H1 u1 a1.fo
  | false => exact partT a1 h fun H2 a2 u2 => k H2 (u1.trans u2) a2.fo
theorem dt_not (ha : DT X q a ta) : DT X q (.UnaryOp .Not a pos) (notT ta) := (pt_not ha).imp fun σ H Q w => by
  obtain ⟨P, ρ, φ, c, φ', a, h, k⟩ := w
  obtain ⟨⟨c1, φ1⟩, h1, h⟩ := Res.bind_ok h
  cases h
  exact partT a h1 fun H1 a1 u1 => k H1 u1 a1.fo
def andM (ma mb : ME) : ME := fun ρ φ => (ma ρ φ).bind fun r => match r.1 with
  | .dat (.bool true) => mb ρ r.2
  | .dat (.bool false) => .ok (.dat (.bool false), r.2)
  | _ => .bad
def orM (ma mb : ME) : ME := fun ρ φ => (ma ρ φ).bind fun r => match r.1 with
  | .dat (.bool true) => .ok (.dat (.bool true), r.2)
  | .dat (.bool false) => mb ρ r.2
  | _ => .bad
def notM (ma : ME) : ME := fun ρ φ => (ma ρ φ).bind fun r => match r.1 with
  | .dat (.bool b) => .ok (.dat (.bool (!b)), r.2)
  | _ => .bad
theorem de_one {op} (h : DE X q a ma) : DE X q (.BoolOp op [a] pos) ma := pe_one h
theorem de_and (ha : DE X q a ma) (hb : DE X q (.BoolOp .And (b :: rest) pos) mb) : DE X q (.BoolOp .And (a :: b :: rest) pos) (andM ma mb) := (pe_and ha hb).imp fun σ H Q w => by
  obtain ⟨P, ρ, φ, c, φ', a, h, k⟩ := w
  obtain ⟨⟨c1, φ1⟩, h1, h⟩ := Res.bind_ok h
  refine part a h1 fun v H1 a1 u1 r1 => ?_
  dsimp only at h
  split at h
  · cases r1
    refine ⟨true, rfl, ?_⟩
    rw [if_pos rfl]
    exact part a1 h fun v H2 a2 u2 r2 => k v H2 (u1.trans u2) a2.fo (r2.old u1)
  · cases r1
    cases h
    refine ⟨false, rfl, ?_⟩
    rw [if_neg Bool.false_ne_true]
    exact k _ H1 u1 a1.fo rfl
  · cases h
theorem de_or (ha : DE X q a ma) (hb : DE X q (.BoolOp .Or (b :: rest) pos) mb) : DE X q (.BoolOp .Or (a :: b :: rest) pos) (orM ma mb) := (pe_or ha hb).imp fun σ H Q w => by
  obtain ⟨P, ρ, φ, c, φ', a, h, k⟩ := w
  obtain ⟨⟨c1, φ1⟩, h1, h⟩ := Res.bind_ok h
  refine part a h1 fun v H1 a1 u1 r1 => ?_
  dsimp only at h
  split at h
  · cases r1
    cases h
    refine ⟨true, rfl, ?_⟩
    rw [if_pos rfl]
    exact k _ H1 u1 a1.fo rfl
  · cases r1
    refine ⟨false, rfl, ?_⟩
    rw [if_neg Bool.false_ne_true]
    exact part a1 h fun v H2 a2 u2 r2 => k v H2 (u1.trans u2) a2.fo (r2.old u1)
  · cases h
theorem de_not (ha : DE X q a ma) : DE X q (.UnaryOp .Not a pos) (notM ma) := (pe_not ha).imp fun σ H Q w => by
  obtain ⟨P, ρ, φ, c, φ', a, h, k⟩ := w
  obtain ⟨⟨c1, φ1⟩, h1, h⟩ := Res.bind_ok h
  refine part a h1 fun v H1 a1 u1 r1 => ?_
  dsimp only at h
  split at h
  · cases r1
    cases h
    exact ⟨_, rfl, k _ H1 u1 a1.fo rfl⟩
  · cases h
def ifM (tc : MT) (ma mb : ME) : ME := fun ρ φ => (tc ρ φ).bind fun r => if r.1 = true then ma ρ r.2 else mb ρ r.2
theorem de_if (hc : DT X q c ta) (ha : DE X q a ma) (hb : DE X q b mb) : DE X q (.IfExp c a b pos) (ifM ta ma mb) := (pe_ifExp hc ha hb).imp fun σ H Q w => by
  obtain ⟨P, ρ, φ, e, φ', a, h, k⟩ := w
  obtain ⟨⟨c1, φ1⟩, h1, h⟩ := Res.bind_ok h
  refine partT a h1 fun H1 a1 u1 => ?_
  cases c1 with
  | true => exact part a1 h fun v H2 a2 u2 r2 => k v H2 (u1.trans u2) a2.fo (r2.old u1)
  | false => exact part a1 h fun v H2 a2 u2 r2 => k v H2 (u1.trans u2) a2.fo (r2.old u1)
variable {es : List Expr} {ms : MA}
def nilA : MA := fun _ φ => .ok ([], φ)
def consA (m : ME) (ms : MA) : MA := fun ρ φ => (m ρ φ).bind fun r => (ms ρ r.2).bind fun r2 => .ok (r.1.toD :: r2.1, r2.2)
theorem da_nil : DA X q [] nilA := pa_nil.imp fun σ H Q w => by
  obtain ⟨P, ρ, φ, e, φ', a, h, k⟩ := w
  cases h
  exact k [] H (Up.refl H) a.fo rfl
theorem da_cons (ha : DE X q a ma) (hs : DA X q es ms) (hst : starEach (a :: es) X.env = (false, eval a X.env) :: starEach es X.env := by rfl) : DA X q (a :: es) (consA ma ms) := (pa_cons ha hs hst).imp fun σ H Q w => by
  obtain ⟨P, ρ, φ, e, φ', a, h, k⟩ := w
  obtain ⟨⟨e1, φ1⟩, h1, h⟩ := Res.bind_ok h
  obtain ⟨⟨e2, φ2⟩, h2, h⟩ := Res.bind_ok h
  cases h
  refine part a h1 fun v H1 a1 u1 r1 => partA a1 h2 fun vs H2 a2 u2 r2 => ?_
  exact k (v :: vs) H2 (u1.trans u2) a2.fo ⟨v, vs, rfl, Rep.up (hide_up u2) (r1.rep a.live), r2⟩
def tupM (ms : MA) : ME := fun ρ φ => (ms ρ φ).bind fun r => if r.1.length ≤ 1000000 then .ok (.dat (.tuple r.1), r.2) else .bad
def lstM (ms : MA) : ME := fun ρ φ => (ms ρ φ).bind fun r => if r.1.length ≤ 1000000 then .ok (.own r.1, r.2) else .bad
theorem small6 {n : Nat} (h : n ≤ 1000000) : n ≤ sizeLine := by rw [sizeLine_eq]; omega
/-- a new object, seen -/
theorem rep_newT {p : Pr} {P : Addr → Prop} {H : Hp} {a : Addr} {o : Obj} {ds : List D} {vs : List V} (l : Live P H) (h : RepAll p (hide P H) ds vs) (n : H a = none) (hd : o.dict = none) : Rep p (hide P (upd H a (.frz o (.tup vs)))) (.tuple ds) (.ref a) := by
  refine ⟨a, vs, rfl, .inl ⟨o, hd, ?_⟩, RepAll.up (hide_up (Ext.new n).up) h⟩
  rw [hide_eq fun z => l a z n]
  exact upd_same
/-- a new tuple is what was wanted -/
theorem newT_of {p : Pr} {P : Addr → Prop} {H : Hp} {ds : List D} {vs : List V} {Q : VK} (l : Live P H) (h : RepAll p (hide P H) ds vs) (k : ∀ v H', Ext H H' → RepE p P H H' (.dat (.tuple ds)) v → Q v H') : NewT vs H Q := fun a o n hd =>
  k _ _ (Ext.new n) (rep_newT l h n hd)
theorem rep_newL {p : Pr} {P : Addr → Prop} {H0 H : Hp} {a : Addr} {ds : List D} {vs : List V} (h : RepAll p (hide P H) ds vs) (u : Up H0 H) (n : H a = none) : RepE p P H0 (upd H a (.lst vs)) (.own ds) (.ref a) := by
  refine ⟨a, vs, rfl, u.no a n, upd_same, ?_⟩
  rw [hide_upd (.inr rfl)]
  refine RepAll.up (fun b o _ e => ?_) h
  obtain ⟨e1, e2⟩ := hide_of e
  rw [hide_eq fun z => ?_]
  · exact e2
  · rcases z with z | z
    · exact e1 z
    · rw [z, n] at e2; cases e2
theorem de_tup {n} (h : DA X q es ms) : DE X q (.Tuple es n pos) (tupM ms) := (pe_tupN h).imp fun σ H Q w => by
  obtain ⟨P, ρ, φ, e, φ', a, h, k⟩ := w
  obtain ⟨⟨ds, φ1⟩, h1, h⟩ := Res.bind_ok h
  dsimp only at h
  split at h
  · cases h
    refine partA a h1 fun vs H1 a1 u1 r1 => ⟨by rw [r1.len]; exact small6 (by assumption), newT_of a1.live r1 fun v H2 x r => ?_⟩
    exact k _ _ (u1.trans x.up) (a1.fo.ext (hide_ext x)) (r.old u1)
  · cases h
theorem de_lst (h : DA X q es ms) : DE X q (.List es pos) (lstM ms) := (pe_lst h).imp fun σ H Q w => by
  obtain ⟨P, ρ, φ, e, φ', a, h, k⟩ := w
  obtain ⟨⟨ds, φ1⟩, h1, h⟩ := Res.bind_ok h
  dsimp only at h
  split at h
  · cases h
    refine partA a h1 fun vs H1 a1 u1 r1 => ⟨by rw [r1.len]; exact small6 (by assumption), fun t nt => ?_⟩
    exact k _ _ (u1.trans (Ext.new nt).up) (a1.fo.ext (hide_ext (Ext.new nt))) (rep_newL r1 u1 nt)
  · cases h
end
end VI
namespace VI
open PySem PySem.Spec PyProof.Rows L2
def rb (b : Bool) : Res EV := .ok (.dat (.bool b))
def addG : D → D → Res EV
  | .int i, .int j => .ok (.dat (.int (i + j)))
  | .str x, .str y => if x.length + y.length ≤ 1000000 then .ok (.dat (.str (x ++ y))) else .bad
  | .list xs, .list ys => if xs.length + ys.length ≤ 1000000 then .ok (.own (xs ++ ys)) else .bad
  | .tuple xs, .tuple ys => if xs.length + ys.length ≤ 1000000 then .ok (.dat (.tuple (xs ++ ys))) else .bad
  | _, _ => .bad
def subG : D → D → Res EV
  | .int i, .int j => .ok (.dat (.int (i - j)))
  | _, _ => .bad
def mulG : D → D → Res EV
  | .int i, .int j => if (-(2 ^ 64) < i ∧ i < 2 ^ 64) ∨ (-(2 ^ 64) < j ∧ j < 2 ^ 64) then .ok (.dat (.int (i * j))) else .bad
  | .tuple xs, .int k => if xs ≠ [] ∧ 2 ≤ k ∧ k ≤ 1000 ∧ xs.length ≤ 1000 then .ok (.dat (.tuple (List.replicate k.toNat xs).flatten)) else .bad
  | .list xs, .int k => if 0 ≤ k ∧ k ≤ 1000 ∧ xs.length ≤ 1000 then .ok (.own (List.replicate k.toNat xs).flatten) else .bad
  | _, _ => .bad
def modG : D → D → Res EV
  | .int i, .int j => if 0 < j then .ok (.dat (.int (i % j))) else .bad
  | _, _ => .bad
section
variable {X : Cx} {q : Pk}
theorem rep_none {p : Pr} {G : Hp} {v : V} : Rep p G .none v ↔ v = .non := Iff.rfl
theorem RepAll.cat {p : Pr} {G : Hp} {ds : List D} {vs : List V} (h : RepAll p G ds vs) : ∀ n : Nat, RepAll p G (List.replicate n ds).flatten (List.replicate n vs).flatten
  | 0 => rfl
  | n + 1 => by
    rw [List.replicate_succ, List.replicate_succ, List.flatten_cons, List.flatten_cons]
    exact RepAll.app h (RepAll.cat h n)
theorem RepAll.nil_iff {p : Pr} {G : Hp} {ds : List D} {vs : List V} (h : RepAll p G ds vs) : vs = [] ↔ ds = [] := by
  rw [← List.length_eq_zero_iff, h.len, List.length_eq_zero_iff]
theorem og_add : OpG X q (binaryOp .Add) addG := by
  refine ⟨_, ((op_add.or op_add_str).or op_cat).or op_catN, ?_⟩
  intro P H x y d1 d2 e Q l r1 r2 h k
  unfold addG at h
  split at h
  · cases h; cases r1; cases r2
    exact .inl (.inl (.inl ⟨_, _, rfl, rfl, k _ H (Ext.refl H) rfl⟩))
  · split at h
    · cases h; cases r1; cases r2
      rename_i hz
      exact .inl (.inl (.inr ⟨_, _, rfl, rfl, small6 hz, k _ H (Ext.refl H) rfl⟩))
    · cases h
  · split at h
    · cases h
      rename_i hz
      obtain ⟨a, xs, rfl, h1, h2⟩ := r1
      obtain ⟨b, ys, rfl, h3, h4⟩ := r2
      refine .inl (.inr ⟨a, b, xs, ys, rfl, rfl, (hide_of h1).2, (hide_of h3).2, by rw [h2.len, h4.len]; exact small6 hz, fun p np => ?_⟩)
      exact k _ _ (Ext.new np) (rep_newL (RepAll.app h2 h4) (Up.refl H) np)
    · cases h
  · split at h
    · cases h
      rename_i hz
      obtain ⟨a, xs, rfl, h1, h2⟩ := r1
      obtain ⟨b, ys, rfl, h3, h4⟩ := r2
      refine .inr ⟨a, b, xs, ys, rfl, rfl, (TupN.at h1 fun c o _ z => (hide_of z).2).sq, (TupN.at h3 fun c o _ z => (hide_of z).2).sq, by rw [h2.len, h4.len]; exact small6 hz, fun e1 => ?_, fun _ e2 => ?_, fun _ _ => ?_⟩
      · have e0 := (RepAll.nil_iff h2).mp e1
        subst e0
        exact k _ H (Ext.refl H) ⟨b, ys, rfl, h3, h4⟩
      · have e0 := (RepAll.nil_iff h4).mp e2
        subst e0
        refine k _ H (Ext.refl H) ⟨a, xs, rfl, h1, ?_⟩
        rw [List.append_nil]
        exact h2
      · exact newT_of l (RepAll.app h2 h4) fun v H' x r => k v H' x r
    · cases h
  · cases h
theorem og_sub : OpG X q (binaryOp .Sub) subG := by
  refine ⟨_, op_sub, ?_⟩
  intro P H x y d1 d2 e Q l r1 r2 h k
  unfold subG at h
  split at h
  · cases h; cases r1; cases r2
    exact ⟨_, _, rfl, rfl, k _ H (Ext.refl H) rfl⟩
  · cases h
theorem og_mul : OpG X q (binaryOp .Mult) mulG := by
  refine ⟨_, (op_mul.or op_repN).or op_rep, ?_⟩
  intro P H x y d1 d2 e Q l r1 r2 h k
  unfold mulG at h
  split at h
  · split at h
    · cases h; cases r1; cases r2
      rename_i hz
      exact .inl (.inl ⟨_, _, rfl, rfl, hz, k _ H (Ext.refl H) rfl⟩)
    · cases h
  · split at h
    · cases h; cases r2
      rename_i hz
      obtain ⟨a, xs, rfl, h1, h2⟩ := r1
      exact .inl (.inr ⟨a, _, xs, rfl, rfl, (TupN.at h1 fun c o _ z => (hide_of z).2).sq, fun z => hz.1 ((RepAll.nil_iff h2).mp z), hz.2.1, hz.2.2.1, by rw [h2.len]; exact hz.2.2.2, newT_of l (RepAll.cat h2 _) fun v H' x r => k v H' x r⟩)
    · cases h
  · split at h
    · cases h; cases r2
      rename_i hz
      obtain ⟨a, xs, rfl, h1, h2⟩ := r1
      refine .inr ⟨a, _, xs, rfl, rfl, (hide_of h1).2, by omega, by omega, ?_, fun p np => k _ _ (Ext.new np) (rep_newL (RepAll.cat h2 _) (Up.refl H) np)⟩
      rw [h2.len]
      exact small6 (Nat.mul_le_mul hz.2.2 (Int.toNat_le.mpr hz.2.1))
    · cases h
  · cases h
theorem og_mod : OpG X q (binaryOp .Mod) modG := by
  refine ⟨_, op_mod, ?_⟩
  intro P H x y d1 d2 e Q l r1 r2 h k
  unfold modG at h
  split at h
  · split at h
    · cases h; cases r1; cases r2
      exact ⟨_, _, rfl, rfl, by assumption, k _ H (Ext.refl H) rfl⟩
    · cases h
  · cases h
def ltG : D → D → Res EV
  | .int i, .int j => rb (decide (i < j))
  | .str x, .str y => rb (decide (x.cps.toList < y.cps.toList))
  | _, _ => .bad
def leG : D → D → Res EV
  | .int i, .int j => rb (decide (i ≤ j))
  | .str x, .str y => rb (!decide (y.cps.toList < x.cps.toList))
  | _, _ => .bad
def gtG : D → D → Res EV
  | .int i, .int j => rb (decide (j < i))
  | _, _ => .bad
def geG : D → D → Res EV
  | .int i, .int j => rb (decide (j ≤ i))
  | _, _ => .bad
def eqG (d e : D) : Res EV := if SeqAt.shaped d = true ∧ SeqAt.shaped e = true then rb (PyData.eqv d e) else .bad
def neG (d e : D) : Res EV := if SeqAt.shaped d = true ∧ SeqAt.shaped e = true then rb (!PyData.eqv d e) else .bad
def inG (neg : Bool) : D → D → Res EV
  | d, .list xs => if SeqAt.shaped d = true ∧ SeqAt.shaped (.list xs) = true then rb (neg ^^ xs.any fun z => PyData.eqv z d) else .bad
  | d, .tuple xs => if SeqAt.shaped d = true ∧ SeqAt.shaped (.list xs) = true then rb (neg ^^ xs.any fun z => PyData.eqv z d) else .bad
  | .str x, .str y => rb (neg ^^ !(Builtin.Str.occurrences y x 0 y.length 1).isEmpty)
  | _, _ => .bad
theorem op_le_str : OpR X (compareOp .LtE) (fun x y H Q => ∃ i j, x = .str i ∧ y = .str j ∧ Q (.bl (!decide (j.cps.toList < i.cps.toList))) H) := by
  rintro pins s σ H x y v u Q I rx ry ⟨i, j, rfl, rfl, q⟩
  obtain ⟨t, rfl⟩ := rx
  obtain ⟨t', rfl⟩ := ry
  exact PySem.P.le_str ⟨.bl _, H, I, rfl, q⟩
theorem og_lt : OpG X q (compareOp .Lt) ltG := by
  refine ⟨_, op_lt.or op_lt_str, ?_⟩
  intro P H x y d1 d2 e Q l r1 r2 h k
  unfold ltG rb at h
  split at h
  · cases h; cases r1; cases r2
    exact .inl ⟨_, _, rfl, rfl, k _ H (Ext.refl H) rfl⟩
  · cases h; cases r1; cases r2
    exact .inr ⟨_, _, rfl, rfl, k _ H (Ext.refl H) rfl⟩
  · cases h
theorem og_le : OpG X q (compareOp .LtE) leG := by
  refine ⟨_, op_le.or op_le_str, ?_⟩
  intro P H x y d1 d2 e Q l r1 r2 h k
  unfold leG rb at h
  split at h
  · cases h; cases r1; cases r2
    exact .inl ⟨_, _, rfl, rfl, k _ H (Ext.refl H) rfl⟩
  · cases h; cases r1; cases r2
    exact .inr ⟨_, _, rfl, rfl, k _ H (Ext.refl H) rfl⟩
  · cases h
theorem og_gt : OpG X q (compareOp .Gt) gtG := by
  refine ⟨_, op_gt, ?_⟩
  intro P H x y d1 d2 e Q l r1 r2 h k
  unfold gtG rb at h
  split at h
  · cases h; cases r1; cases r2
    exact ⟨_, _, rfl, rfl, k _ H (Ext.refl H) rfl⟩
  · cases h
theorem og_ge : OpG X q (compareOp .GtE) geG := by
  refine ⟨_, op_ge, ?_⟩
  intro P H x y d1 d2 e Q l r1 r2 h k
  unfold geG rb at h
  split at h
  · cases h; cases r1; cases r2
    exact ⟨_, _, rfl, rfl, k _ H (Ext.refl H) rfl⟩
  · cases h
theorem og_eq (hu : X.A.units + 64 < cLine) : OpG X q (compareOp .Eq) eqG := by
  refine ⟨_, op_eqD hu, ?_⟩
  intro P H x y d1 d2 e Q l r1 r2 h k
  unfold eqG rb at h
  split at h
  · cases h
    rename_i hs
    exact ⟨d1, d2, dp_of d1 x (SeqAt.canLay_of_shaped hs.1) (fun a o z => (hide_of z).2) r1, dp_of d2 y (SeqAt.canLay_of_shaped hs.2) (fun a o z => (hide_of z).2) r2, hs.1, hs.2, k _ H (Ext.refl H) rfl⟩
  · cases h
theorem og_ne (hu : X.A.units + 64 < cLine) : OpG X q (compareOp .NotEq) neG := by
  refine ⟨_, op_neD hu, ?_⟩
  intro P H x y d1 d2 e Q l r1 r2 h k
  unfold neG rb at h
  split at h
  · cases h
    rename_i hs
    exact ⟨d1, d2, dp_of d1 x (SeqAt.canLay_of_shaped hs.1) (fun a o z => (hide_of z).2) r1, dp_of d2 y (SeqAt.canLay_of_shaped hs.2) (fun a o z => (hide_of z).2) r2, hs.1, hs.2, k _ H (Ext.refl H) rfl⟩
  · cases h
/-- x in a tuple of data -/
def rInTD (K : PySem.W.Frag) (neg : Bool) : R2 := fun x y H Q => ∃ d ds, Dp K H x d ∧ Dp K H y (.tuple ds) ∧ SeqAt.shaped d = true ∧ SeqAt.shaped (.list ds) = true ∧ Q (.bl (neg ^^ ds.any fun z => PyData.eqv z d)) H
theorem op_inTD (hu : X.A.units + 65 < cLine) : OpR X (compareOp .In) (rInTD X.K false) := by
  rintro pins s σ H x y v u Q I rx ry ⟨d, ds, hd, he, sd, se, w⟩
  obtain ⟨as, r1⟩ := Dp.reads I d x v hd rx
  obtain ⟨bs, r2⟩ := Dp.reads I (.tuple ds) y u he ry
  refine SeqAt.in_tuple_reads r2 r1 (SeqAt.canLay_of_shaped se) (SeqAt.canLay_of_shaped sd) (room_in_shaped sd hu) ⟨.bl _, H, I, rfl, ?_⟩
  rw [Bool.false_xor] at w
  exact w
theorem op_notInTD (hu : X.A.units + 65 < cLine) : OpR X (compareOp .NotIn) (rInTD X.K true) := by
  rintro pins s σ H x y v u Q I rx ry ⟨d, ds, hd, he, sd, se, w⟩
  obtain ⟨as, r1⟩ := Dp.reads I d x v hd rx
  obtain ⟨bs, r2⟩ := Dp.reads I (.tuple ds) y u he ry
  refine SeqAt.notIn_tuple_reads r2 r1 (SeqAt.canLay_of_shaped se) (SeqAt.canLay_of_shaped sd) (room_in_shaped sd hu) ⟨.bl _, H, I, rfl, ?_⟩
  rw [Bool.true_xor] at w
  exact w
theorem og_in (hu : X.A.units + 65 < cLine) : OpG X q (compareOp .In) (inG false) := by
  refine ⟨_, ((op_inD hu).or (op_inTD hu)).or op_in_str, ?_⟩
  intro P H x y d1 d2 e Q l r1 r2 h k
  unfold inG rb at h
  split at h
  · split at h
    · cases h
      rename_i hs
      refine .inl (.inl ⟨d1, _, dp_of d1 x (SeqAt.canLay_of_shaped hs.1) (fun a o z => (hide_of z).2) r1, dp_of _ y (SeqAt.canLay_of_shaped hs.2) (fun a o z => (hide_of z).2) r2, hs.1, hs.2, ?_⟩)
      exact k _ H (Ext.refl H) (by rw [Bool.false_xor]; rfl)
    · cases h
  · split at h
    · cases h
      rename_i hs
      refine .inl (.inr ⟨d1, _, dp_of d1 x (SeqAt.canLay_of_shaped hs.1) (fun a o z => (hide_of z).2) r1, dp_of (.tuple _) y ?_ (fun a o z => (hide_of z).2) r2, hs.1, hs.2, k _ H (Ext.refl H) rfl⟩)
      have hc := SeqAt.canLay_of_shaped hs.2
      simpa only [PyData.canLay0] using hc
    · cases h
  · cases h; cases r1; cases r2
    refine .inr ⟨_, _, rfl, rfl, k _ H (Ext.refl H) (by rw [Bool.false_xor]; rfl)⟩
  · cases h
theorem og_notIn (hu : X.A.units + 65 < cLine) : OpG X q (compareOp .NotIn) (inG true) := by
  refine ⟨_, ((op_notInD hu).or (op_notInTD hu)).or op_notin_str, ?_⟩
  intro P H x y d1 d2 e Q l r1 r2 h k
  unfold inG rb at h
  split at h
  · split at h
    · cases h
      rename_i hs
      refine .inl (.inl ⟨d1, _, dp_of d1 x (SeqAt.canLay_of_shaped hs.1) (fun a o z => (hide_of z).2) r1, dp_of _ y (SeqAt.canLay_of_shaped hs.2) (fun a o z => (hide_of z).2) r2, hs.1, hs.2, ?_⟩)
      exact k _ H (Ext.refl H) (by rw [Bool.true_xor]; rfl)
    · cases h
  · split at h
    · cases h
      rename_i hs
      refine .inl (.inr ⟨d1, _, dp_of d1 x (SeqAt.canLay_of_shaped hs.1) (fun a o z => (hide_of z).2) r1, dp_of (.tuple _) y ?_ (fun a o z => (hide_of z).2) r2, hs.1, hs.2, k _ H (Ext.refl H) rfl⟩)
      have hc := SeqAt.canLay_of_shaped hs.2
      simpa only [PyData.canLay0] using hc
    · cases h
  · cases h; cases r1; cases r2
    refine .inr ⟨_, _, rfl, rfl, k _ H (Ext.refl H) (by rw [Bool.true_xor]; rfl)⟩
  · cases h
end
end VI
namespace VI
open PySem PySem.Spec PyProof.Rows L2
def CallG (X : Cx) (q : Pk) (f : Value) (g : List D → Res EV) : Prop :=
  ∃ r, CallR X f r ∧ ∀ (P : Addr → Prop) (H : Hp) (xs : List V) (ds : List D) (e : EV) (Q : VK), Live P H → RepAll (q.at X.K) (hide P H) ds xs → g ds = .ok e →
    (∀ v H', Ext H H' → RepE (q.at X.K) P H H' e v → Q v H') → r xs H Q
def callM (g : List D → Res EV) (ms : MA) : ME := fun ρ φ => (ms ρ φ).bind fun r => (g r.1).bind fun e => .ok (e, r.2)
theorem callM_ok {g : List D → Res EV} {ms : MA} {ρ : Env'} {φ φ' : FS} {e : EV} (h : callM g ms ρ φ = .ok (e, φ')) : ∃ ds, ms ρ φ = .ok (ds, φ') ∧ g ds = .ok e := by
  obtain ⟨⟨ds, φ1⟩, h1, h⟩ := Res.bind_ok h
  obtain ⟨e1, h2, h⟩ := Res.bind_ok h
  cases h
  exact ⟨ds, h1, h2⟩
section
variable {X : Cx} {q : Pk} {x : Str} {p pos p2 p3 : Pos} {a b e : Expr} {es : List Expr} {ma mb : ME} {ms : MA} {g : List D → Res EV} {id T : String}
theorem tCB_D {pr : Pr} {r : List V → Hp → VK → Prop} (hr : ∀ (P : Addr → Prop) (H : Hp) (xs : List V) (ds : List D) (e : EV) (Q : VK), Live P H → RepAll pr (hide P H) ds xs → g ds = .ok e →
    (∀ v H', Ext H H' → RepE pr P H H' e v → Q v H') → r xs H Q) (σ : L2.St) (H : Hp) (Q : VK) (w : tD pr (callM g ms) σ H Q) : tCB r (tDA pr ms) σ H Q := by
  obtain ⟨P, ρ, φ, e, φ', a, h, k⟩ := w
  obtain ⟨ds, h1, h2⟩ := callM_ok h
  refine partA a h1 fun vs H1 a1 u1 r1 => hr P H1 vs ds e Q a1.live r1 h2 fun v H2 x2 r2 => ?_
  exact k v H2 (u1.trans x2.up) (a1.fo.ext (hide_ext x2)) (r2.old u1)
theorem de_callB (h : CallG X q (.builtin id) g) (hg : Gl X x) (hm : X.mg x = none) (hv : bootBuiltins x = some (.builtin id)) (ha : DA X q (e :: es) ms) (hn : x ≠ "__name__" := by decide) (hdb : (x == ("__debug__" : Str)) = false := by decide)
    (he : starEach (e :: es) X.env = (false, eval e X.env) :: starEach es X.env := by rfl) (hpl : (backTo pos (starEach es X.env)).any (·.1) = false := by rfl) : DE X q (.Call (.Name x p) (e :: es) [] pos) (callM g ms) := by
  obtain ⟨r, h1, h2⟩ := h
  exact (pe_callB h1 hg hm hv ha hn hdb he hpl).imp (tCB_D h2)
theorem de_callT (h : CallG X q (.type T) g) (hg : Gl X x) (hm : X.mg x = none) (hv : bootBuiltins x = some (.type T)) (ha : DA X q (e :: es) ms) (hn : x ≠ "__name__" := by decide) (hdb : (x == ("__debug__" : Str)) = false := by decide)
    (he : starEach (e :: es) X.env = (false, eval e X.env) :: starEach es X.env := by rfl) (hpl : (backTo pos (starEach es X.env)).any (·.1) = false := by rfl) : DE X q (.Call (.Name x p) (e :: es) [] pos) (callM g ms) := by
  obtain ⟨r, h1, h2⟩ := h
  exact (pe_callTy h1 hg hm hv ha hn hdb he hpl).imp (tCB_D h2)
def lenG : List D → Res EV
  | [.list ds] => .ok (.dat (.int ds.length))
  | [.tuple ds] => .ok (.dat (.int ds.length))
  | [.str x] => if x.length ≤ 1000000 then .ok (.dat (.int x.length)) else .bad
  | _ => .bad
theorem cg_len : CallG X q (.builtin "len") lenG := by
  refine ⟨_, call_len_seq.or call_len_str, ?_⟩
  intro P H xs ds e Q l r h k
  unfold lenG at h
  split at h
  · cases h
    obtain ⟨v, r', rfl, ⟨a, ys, rfl, h1, h2⟩, rfl⟩ := r
    exact .inl ⟨a, ys, rfl, .inl (SqL.of (hide_of h1).2), by rw [h2.len]; exact k _ H (Ext.refl H) rfl⟩
  · cases h
    obtain ⟨v, r', rfl, ⟨a, ys, rfl, h1, h2⟩, rfl⟩ := r
    exact .inl ⟨a, ys, rfl, .inr (TupN.at h1 fun c o _ z => (hide_of z).2).sq, by rw [h2.len]; exact k _ H (Ext.refl H) rfl⟩
  · split at h
    · cases h
      obtain ⟨v, r', rfl, h1, rfl⟩ := r
      cases h1
      exact .inr ⟨_, rfl, small6 (by assumption), k _ H (Ext.refl H) rfl⟩
    · cases h
  · cases h
/-- the bools of a list -/
def boolsOf : List D → Option (List Bool)
  | [] => some []
  | .bool b :: r => (boolsOf r).map (b :: ·)
  | _ :: _ => none
theorem boolsOf_eq : ∀ {ds : List D} {bs : List Bool}, boolsOf ds = some bs → ds = bs.map .bool
  | [], bs, h => by cases h; rfl
  | .bool b :: r, bs, h => by
    unfold boolsOf at h
    cases e : boolsOf r with
    | none => rw [e] at h; cases h
    | some cs => rw [e] at h; cases h; rw [boolsOf_eq e]; rfl
  | .none :: _, _, h => by cases h
  | .int _ :: _, _, h => by cases h
  | .str _ :: _, _, h => by cases h
  | .list _ :: _, _, h => by cases h
  | .tuple _ :: _, _, h => by cases h
  | .dict _ :: _, _, h => by cases h
def allG : List D → Res EV
  | [.list ds] => match boolsOf ds with
    | some bs => rb (bs.all fun b => b)
    | none => .bad
  | _ => .bad
def anyG : List D → Res EV
  | [.list ds] => match boolsOf ds with
    | some bs => rb (bs.any fun b => b)
    | none => .bad
  | _ => .bad
theorem cg_all (hc : X.calm = true) : CallG X q (.builtin "all") allG := by
  refine ⟨_, cr_all hc, ?_⟩
  intro P H xs ds e Q l r h k
  unfold allG rb at h
  split at h
  · split at h
    · rename_i hb
      cases h
      obtain ⟨v, r', rfl, ⟨a, ys, rfl, h1, h2⟩, rfl⟩ := r
      rw [boolsOf_eq hb] at h2
      rw [RepAll.bools h2] at h1
      exact ⟨a, _, rfl, SqL.of (hide_of h1).2, k _ H (Ext.refl H) rfl⟩
    · cases h
  · cases h
theorem cg_any (hc : X.calm = true) : CallG X q (.builtin "any") anyG := by
  refine ⟨_, cr_any hc, ?_⟩
  intro P H xs ds e Q l r h k
  unfold anyG rb at h
  split at h
  · split at h
    · rename_i hb
      cases h
      obtain ⟨v, r', rfl, ⟨a, ys, rfl, h1, h2⟩, rfl⟩ := r
      rw [boolsOf_eq hb] at h2
      rw [RepAll.bools h2] at h1
      exact ⟨a, _, rfl, SqL.of (hide_of h1).2, k _ H (Ext.refl H) rfl⟩
    · cases h
  · cases h
def tupleG : List D → Res EV
  | [.list ds] => .ok (.dat (.tuple ds))
  | [.tuple ds] => .ok (.dat (.tuple ds))
  | _ => .bad
theorem cg_tuple : CallG X q (.type "tuple") tupleG := by
  refine ⟨_, call_tupN, ?_⟩
  intro P H xs ds e Q l r h k
  unfold tupleG at h
  split at h
  · cases h
    obtain ⟨v, r', rfl, ⟨a, ys, rfl, h1, h2⟩, rfl⟩ := r
    exact ⟨a, ys, rfl, .inl ⟨SqL.of (hide_of h1).2, newT_of l h2 k⟩⟩
  · cases h
    obtain ⟨v, r', rfl, ⟨a, ys, rfl, h1, h2⟩, rfl⟩ := r
    exact ⟨a, ys, rfl, .inr ⟨(TupN.at h1 fun c o _ z => (hide_of z).2).sq, k _ H (Ext.refl H) ⟨a, ys, rfl, h1, h2⟩⟩⟩
  · cases h
def listG : List D → Res EV
  | [.list ds] => .ok (.own ds)
  | [.tuple ds] => .ok (.own ds)
  | _ => .bad
theorem cg_list : CallG X q (.type "list") listG := by
  refine ⟨_, call_list_of, ?_⟩
  intro P H xs ds e Q l r h k
  unfold listG at h
  split at h
  · cases h
    obtain ⟨v, r', rfl, ⟨a, ys, rfl, h1, h2⟩, rfl⟩ := r
    exact ⟨a, ys, rfl, .inl (SqL.of (hide_of h1).2), fun n nn => k _ _ (Ext.new nn) (rep_newL h2 (Up.refl H) nn)⟩
  · cases h
    obtain ⟨v, r', rfl, ⟨a, ys, rfl, h1, h2⟩, rfl⟩ := r
    exact ⟨a, ys, rfl, .inr (TupN.at h1 fun c o _ z => (hide_of z).2).sq, fun n nn => k _ _ (Ext.new nn) (rep_newL h2 (Up.refl H) nn)⟩
  · cases h
def min2G : List D → Res EV
  | [.int i, .int j] => .ok (.dat (.int (if j < i then j else i)))
  | _ => .bad
theorem cg_min2 (hc : X.calm = true) : CallG X q (.builtin "min") min2G := by
  refine ⟨_, call_min2 hc, ?_⟩
  intro P H xs ds e Q l r h k
  unfold min2G at h
  split at h
  · cases h
    obtain ⟨v, r', rfl, h1, v2, r2, rfl, h2, rfl⟩ := r
    cases h1; cases h2
    exact ⟨_, _, rfl, k _ H (Ext.refl H) rfl⟩
  · cases h
def intG : List D → Res EV
  | [.int i] => .ok (.dat (.int i))
  | _ => .bad
theorem cg_int : CallG X q (.type "int") intG := by
  refine ⟨_, call_int1, ?_⟩
  intro P H xs ds e Q l r h k
  unfold intG at h
  split at h
  · cases h
    obtain ⟨v, r', rfl, h1, rfl⟩ := r
    cases h1
    exact .inl ⟨_, rfl, k _ H (Ext.refl H) rfl⟩
  · cases h
def intsOf : List D → Option (List Int)
  | [] => some []
  | .int b :: r => (intsOf r).map (b :: ·)
  | _ :: _ => none
theorem intsOf_eq : ∀ {ds : List D} {bs : List Int}, intsOf ds = some bs → ds = bs.map .int
  | [], bs, h => by cases h; rfl
  | .int b :: r, bs, h => by
    unfold intsOf at h
    cases e : intsOf r with
    | none => rw [e] at h; cases h
    | some cs => rw [e] at h; cases h; rw [intsOf_eq e]; rfl
  | .none :: _, _, h => by cases h
  | .bool _ :: _, _, h => by cases h
  | .str _ :: _, _, h => by cases h
  | .list _ :: _, _, h => by cases h
  | .tuple _ :: _, _, h => by cases h
  | .dict _ :: _, _, h => by cases h
def sumG : List D → Res EV
  | [.list ds] => match intsOf ds with
    | some bs => .ok (.dat (.int bs.sum))
    | none => .bad
  | _ => .bad
theorem cg_sum (hc : X.calm = true) : CallG X q (.builtin "sum") sumG := by
  refine ⟨_, cr_sum hc, ?_⟩
  intro P H xs ds e Q l r h k
  unfold sumG at h
  split at h
  · split at h
    · rename_i hb
      cases h
      obtain ⟨v, r', rfl, ⟨a, ys, rfl, h1, h2⟩, rfl⟩ := r
      rw [intsOf_eq hb] at h2
      rw [RepAll.ints h2] at h1
      exact ⟨a, _, rfl, SqL.of (hide_of h1).2, k _ H (Ext.refl H) rfl⟩
    · cases h
  · cases h
/-- repr, where none is under way -/
def reprG : List D → Res EV
  | [d] => if SeqAt.shaped d = true ∧ d.showable = true ∧ d.shown.length ≤ sizeLine then .ok (.dat (.str d.shown)) else .bad
  | _ => .bad
theorem call_repr_D (hG : X.A.guards = some []) (hu : X.A.units + 66 < cLine) : CallR X (.builtin "repr") (fun xs H Q => ∃ x d, xs = [x] ∧ Dp X.K H x d ∧ SeqAt.shaped d = true ∧ d.showable = true ∧ d.shown.length ≤ sizeLine ∧ Q (.str d.shown) H) := by
  rintro pins s σ H xs us Q I r ⟨x, d, rfl, hd, hs, hsh, hz, q⟩
  obtain ⟨u, rfl, rx⟩ := vals1 r
  obtain ⟨as, rd⟩ := Dp.reads I d x u hd rx
  have hdep := SeqAt.depth_of_shaped hs
  have hno := PyData.hasDict_of_canLay d (SeqAt.canLay_of_shaped hs)
  cases hd with
  | non => cases rx; exact PySem.P.repr_of_none ⟨.str PyData.none.shown, H, I.tok _, ⟨_, rfl⟩, q⟩
  | bl b => cases rx; exact PySem.P.repr_of_bool ⟨.str (PyData.bool b).shown, H, I.tok _, ⟨_, rfl⟩, q⟩
  | int i => obtain ⟨t, rfl⟩ := rx; exact PySem.P.repr_of_int (of_decide_eq_true hsh) ⟨.str (PyData.int i).shown, H, I.tok _, ⟨_, rfl⟩, q⟩
  | str y => obtain ⟨t, rfl⟩ := rx; exact PySem.P.repr_of_str ⟨.str (PyData.str y).shown, H, I.tok _, ⟨_, rfl⟩, q⟩ hz
  | lst h1 h2 => cases rx; exact repr_of_reads' rd hsh (PyData.noDict_hsm hno) hG (by omega) (fun _ _ e => e) (fun h' u tk hk => ⟨.str (PyData.shown _), H, I.kept (t' := tk) hk, ⟨_, rfl⟩, q⟩) hz
  | tup h1 h2 => cases rx; exact repr_of_reads' rd hsh (PyData.noDict_hsm hno) hG (by omega) (fun _ _ e => e) (fun h' u tk hk => ⟨.str (PyData.shown _), H, I.kept (t' := tk) hk, ⟨_, rfl⟩, q⟩) hz
theorem cg_repr (hG : X.A.guards = some []) (hu : X.A.units + 66 < cLine) : CallG X q (.builtin "repr") reprG := by
  refine ⟨_, call_repr_D hG hu, ?_⟩
  intro P H xs ds e Q l r h k
  unfold reprG at h
  split at h
  · split at h
    · rename_i hz
      cases h
      obtain ⟨v, r', rfl, h1, rfl⟩ := r
      exact ⟨v, _, rfl, dp_of _ v (SeqAt.canLay_of_shaped hz.1) (fun a o z => (hide_of z).2) h1, hz.1, hz.2.1, hz.2.2, k _ H (Ext.refl H) rfl⟩
    · cases h
  · cases h
def tyN : D → String
  | .none => "NoneType"
  | .bool _ => "bool"
  | .int _ => "int"
  | .str _ => "str"
  | .list _ => "list"
  | .tuple _ => "tuple"
  | .dict _ => "dict"
def isiN (T t : String) : Bool := t == T || (T == "int" && t == "bool")
def isiB (T : String) (d : D) : Bool := isiN T (tyN d)
def isiM (T : String) (m : ME) : ME := fun ρ φ => (m ρ φ).bind fun r => .ok (.dat (.bool (isiB T r.1.toD)), r.2)
def tyOk (T : String) : Prop := T = "int" ∨ T = "bool" ∨ T = "str" ∨ T = "tuple" ∨ T = "list"
theorem tyN_cases (d : D) : tyN d = "NoneType" ∨ tyN d = "bool" ∨ tyN d = "int" ∨ tyN d = "str" ∨ tyN d = "list" ∨ tyN d = "tuple" ∨ tyN d = "dict" := by
  cases d <;> simp [tyN]
theorem kit_data {K : PySem.W.Frag} {T : String} (h : tyOk T) (d : D) : PySem.W.kitOne K (.type (tyN d)) (.type T) = some (isiB T d) := by
  unfold isiB
  rcases h with rfl | rfl | rfl | rfl | rfl <;> rcases tyN_cases d with e | e | e | e | e | e | e <;> rw [e] <;> exact kit_ty (by decide +kernel)
theorem ty_data {p : Pr} {P : Addr → Prop} {H : Hp} {f : FS} (fo : FO p f (hide P H)) : ∀ {d : D} {v : V}, Rep p (hide P H) d v → TyX p.K H v (.type (tyN d))
  | .none, _, h => by cases h; exact .base .non
  | .bool _, _, h => by cases h; exact .base (.bl _)
  | .int _, _, h => by cases h; exact .base (.int _)
  | .str _, _, h => by cases h; exact .base (.str _)
  | .list _, _, h => by obtain ⟨a, xs, rfl, h1, _⟩ := h; exact .base (.lst (hide_of h1).2)
  | .tuple _, _, h => by
    obtain ⟨a, xs, rfl, h1, _⟩ := h
    rcases h1 with ⟨o, _, e⟩ | ⟨o, its, n, e, _, e2, _⟩
    · exact .fTuple (hide_of e).2
    · exact .kTuple e e2
  | .dict _, _, h => by cases h; exact .base (.dK (hide_of fo.d).2)
theorem de_isi {k : Expr} (hT : tyOk T) (he : DE X q e ma) (hk : PE X k (tC (.ty T))) (hg : Gl X "isinstance") (hm : X.mg "isinstance" = none)
    (h0 : starEach [e, k] X.env = (false, eval e X.env) :: starEach [k] X.env := by rfl) (h1 : starEach [k] X.env = (false, eval k X.env) :: starEach [] X.env := by rfl) (hpl : (backTo pos (starEach [k] X.env)).any (·.1) = false := by rfl) :
    DE X q (.Call (.Name "isinstance" p) [e, k] [] pos) (isiM T ma) :=
  (pe_callB call_isi hg hm (by decide +kernel) (pa_cons he (pa_cons hk pa_nil h1) h0) (by decide) (by decide) h0 hpl).imp fun σ H Q w => by
    obtain ⟨P, ρ, φ, e, φ', a, h, kk⟩ := w
    obtain ⟨⟨e1, φ1⟩, h1, h⟩ := Res.bind_ok h
    cases h
    refine part a h1 fun v H1 a1 u1 r1 => ?_
    have r2 := r1.rep a.live
    exact ⟨v, .ty T, .type (tyN e1.toD), .type T, isiB T e1.toD, rfl, .ty T, ty_data a1.fo r2, kit_data hT _, kk _ H1 u1 a1.fo rfl⟩
def atD (ds : List D) (i : Int) : Res EV := match atI ds i with
  | some d => .ok (.dat d)
  | none => .bad
def ixG : D → D → Res EV
  | .list ds, .int i => atD ds i
  | .tuple ds, .int i => atD ds i
  | .str x, .int i => if x.length ≤ 1000000 then (match atI x.cps.toList i with
    | some c => .ok (.dat (.str ⟨#[c]⟩))
    | none => .bad) else .bad
  | _, _ => .bad
theorem atI_rep {p : Pr} {G : Hp} {ds : List D} {vs : List V} {i : Int} {d : D} (r : RepAll p G ds vs) (h : atI ds i = some d) : ∃ v, atI vs i = some v ∧ Rep p G d v := by
  unfold atI at h ⊢
  rw [r.len]
  cases e : ixN ds.length i with
  | none => rw [e] at h; cases h
  | some j =>
    rw [e] at h
    exact RepAll.get r h
theorem atD_ok {ds : List D} {i : Int} {e : EV} (h : atD ds i = .ok e) : ∃ d, e = .dat d ∧ atI ds i = some d := by
  unfold atD at h
  split at h
  · cases h
    exact ⟨_, rfl, by assumption⟩
  · cases h
theorem de_ix (ha : DE X q a ma) (hb : DE X q b mb) (hs : PlainIx b) : DE X q (.Subscript a b pos) (op2 ixG ma mb) := (pe_ix ix_seq ha hb hs).imp (tOp_D fun P H x y d1 d2 e Q l r1 r2 h k => by
  unfold ixG at h
  split at h
  · obtain ⟨d, rfl, hd⟩ := atD_ok h
    obtain ⟨c, xs, rfl, h1, h2⟩ := r1
    cases r2
    obtain ⟨v, e1, e2⟩ := atI_rep h2 hd
    exact .inl ⟨c, xs, _, v, rfl, rfl, SqL.of (hide_of h1).2, e1, k v H (Ext.refl H) e2⟩
  · obtain ⟨d, rfl, hd⟩ := atD_ok h
    obtain ⟨c, xs, rfl, h1, h2⟩ := r1
    cases r2
    obtain ⟨v, e1, e2⟩ := atI_rep h2 hd
    exact .inr (.inl ⟨c, xs, _, v, rfl, rfl, (TupN.at h1 fun c o _ z => (hide_of z).2).sq, e1, k v H (Ext.refl H) e2⟩)
  · split at h
    · split at h
      · cases h
        cases r1
        cases r2
        exact .inr (.inr ⟨_, _, _, rfl, rfl, small6 (by assumption), by assumption, k _ H (Ext.refl H) rfl⟩)
      · cases h
    · cases h
  · cases h)
def cutD {α : Type} (xs : List α) (lo hi : Option Int) : List α := (xs.drop (HT.sIx xs.length 0 lo)).take (HT.sIx xs.length xs.length hi - HT.sIx xs.length 0 lo)
def slG : D → Option Int → Option Int → Res EV
  | .list ds, lo, hi => .ok (.own (cutD ds lo hi))
  | .tuple ds, lo, hi => .ok (.dat (.tuple (cutD ds lo hi)))
  | _, _, _ => .bad
abbrev MO := Env' → FS → Res (Option Int × FS)
def noM : MO := fun _ φ => .ok (none, φ)
def soM (m : ME) : MO := fun ρ φ => (m ρ φ).bind fun r => match r.1 with
  | .dat (.int i) => .ok (some i, r.2)
  | _ => .bad
def tDO (p : Pr) (m : MO) : TO := fun σ H Q => ∃ P ρ φ o φ', At p P H ρ φ σ ∧ m ρ φ = .ok (o, φ') ∧ ∀ H', Up H H' → FO p φ' (hide P H') → Q o H'
def DO (X : Cx) (q : Pk) (e : Option Expr) (m : MO) : Prop := PO X e (tDO (q.at X.K) m)
theorem po_imp {e : Option Expr} {t t' : TO} (h : PO X e t) (w : ∀ σ H Q, t' σ H Q → t σ H Q) : PO X e t' := ⟨fun pins s σ H Q I z => h.run pins s σ H Q I (w _ _ _ z)⟩
theorem do_none : DO X q none noM := po_imp po_none fun σ H Q w => by
  obtain ⟨P, ρ, φ, o, φ', a, h, k⟩ := w
  cases h
  exact k H (Up.refl H) a.fo
theorem do_some (h : DE X q e ma) : DO X q (some e) (soM ma) := po_imp (po_some h) fun σ H Q w => by
  obtain ⟨P, ρ, φ, o, φ', a, h, k⟩ := w
  obtain ⟨⟨e1, φ1⟩, h1, h⟩ := Res.bind_ok h
  refine part a h1 fun v H1 a1 u1 r1 => ?_
  dsimp only at h
  split at h
  · cases h
    cases r1
    exact ⟨_, rfl, k H1 u1 a1.fo⟩
  · cases h
def slM (m : ME) (lo hi : MO) : ME := fun ρ φ => (m ρ φ).bind fun r => (lo ρ r.2).bind fun r1 => (hi ρ r1.2).bind fun r2 => (slG r.1.toD r1.1 r2.1).bind fun e => .ok (e, r2.2)
theorem RepAll.cut {p : Pr} {G : Hp} {ds : List D} {vs : List V} (r : RepAll p G ds vs) (lo hi : Option Int) : RepAll p G (cutD ds lo hi) (cutV vs lo hi) := by
  unfold cutD cutV
  rw [r.len]
  exact (r.drop _).take _
theorem cutD_whole {α : Type} {xs : List α} {lo hi : Option Int} (h : HT.sIx xs.length 0 lo = 0 ∧ HT.sIx xs.length xs.length hi = xs.length) : cutD xs lo hi = xs := by
  unfold cutD
  rw [h.1, h.2, List.drop_zero, Nat.sub_zero, List.take_length]
theorem de_sl {lo hi : Option Expr} {ml mh : MO} (ha : DE X q a ma) (hl : DO X q lo ml) (hh : DO X q hi mh) : DE X q (.Subscript a (.Slice lo hi none p2) pos) (slM ma ml mh) := (pe_slice (sl_list.or sl_tupN) ha hl hh).imp fun σ H Q w => by
  obtain ⟨P, ρ, φ, e, φ', a, h, k⟩ := w
  obtain ⟨⟨e1, φ1⟩, h1, h⟩ := Res.bind_ok h
  obtain ⟨⟨e2, φ2⟩, h2, h⟩ := Res.bind_ok h
  obtain ⟨⟨e3, φ3⟩, h3, h⟩ := Res.bind_ok h
  obtain ⟨e4, h4, h⟩ := Res.bind_ok h
  cases h
  refine part a h1 fun v H1 a1 u1 r1 => ⟨P, ρ, φ1, e2, φ2, a1, h2, fun H2 u2 f2 => ?_⟩
  have a2 := a1.next u2 f2
  refine ⟨P, ρ, φ2, e3, φ3, a2, h3, fun H3 u3 f3 => ?_⟩
  have a3 := a2.next u3 f3
  have r3 := Rep.up (hide_up (u2.trans u3)) (r1.rep a.live)
  have uu := (u1.trans u2).trans u3
  dsimp only at h4
  generalize e1.toD = d at r3 h4
  cases d with
  | list ds =>
    cases h4
    obtain ⟨c, xs, rfl, g1, g2⟩ := r3
    exact .inl ⟨c, xs, rfl, SqL.of (hide_of g1).2, fun n nn => k _ _ (uu.trans (Ext.new nn).up) (a3.fo.ext (hide_ext (Ext.new nn))) (rep_newL (g2.cut _ _) uu nn)⟩
  | tuple ds =>
    cases h4
    obtain ⟨c, xs, rfl, g1, g2⟩ := r3
    refine .inr ⟨c, xs, rfl, (TupN.at g1 fun c o _ z => (hide_of z).2).sq, fun hw => ?_, fun _ => newT_of a3.live (g2.cut _ _) fun v' H4 x4 r4 => ?_⟩
    · refine k _ H3 uu a3.fo ?_
      rw [g2.len] at hw
      rw [cutD_whole hw]
      exact ⟨c, xs, rfl, g1, g2⟩
    · exact k _ _ (uu.trans x4.up) (a3.fo.ext (hide_ext x4)) (r4.old uu)
  | none => cases h4
  | bool b => cases h4
  | int i => cases h4
  | str x => cases h4
  | dict kv => cases h4
def revM (m : ME) : ME := fun ρ φ => (m ρ φ).bind fun r => match r.1.toD with
  | .list ds => .ok (.own ds.reverse, r.2)
  | _ => .bad
theorem de_rev {k : Nat} (ha : DE X q a ma) : DE X q (.Subscript a (.Slice none none (some (.UnaryOp .USub (.Constant (.int 1) k p) p2)) p3) pos) (revM ma) := (pe_revL ha).imp fun σ H Q w => by
  obtain ⟨P, ρ, φ, e, φ', a, h, kk⟩ := w
  obtain ⟨⟨e1, φ1⟩, h1, h⟩ := Res.bind_ok h
  refine part a h1 fun v H1 a1 u1 r1 => ?_
  have r2 := r1.rep a.live
  dsimp only at h
  generalize e1.toD = d at r2 h
  cases d with
  | list ds =>
    cases h
    obtain ⟨c, xs, rfl, g1, g2⟩ := r2
    exact ⟨c, xs, rfl, SqL.of (hide_of g1).2, fun n nn => kk _ _ (u1.trans (Ext.new nn).up) (a1.fo.ext (hide_ext (Ext.new nn))) (rep_newL g2.rev u1 nn)⟩
  | tuple ds => cases h
  | none => cases h
  | bool b => cases h
  | int i => cases h
  | str x => cases h
  | dict kv => cases h
end
end VI
namespace VI
open PySem PySem.Spec PyProof.Rows L2
abbrev MF := List D → FS → Res (EV × FS)
/-- a def's promise over data -/
def spF (K : PySem.W.Frag) (k2 k3 k4 : Str) (n : Nat) (m : MF) : Sp := fun vs H Q _ => ∃ (fa ca : Addr) (P : Addr → Prop) (φ : FS) (ds : List D) (e : EV) (φ' : FS), ds.length = n ∧ Live P H ∧ FO ⟨K, fa, ca, k2, k3, k4⟩ φ (hide P H) ∧
  RepAll ⟨K, fa, ca, k2, k3, k4⟩ (hide P H) ds vs ∧ m ds φ = .ok (e, φ') ∧ ∀ v H', Up H H' → FO ⟨K, fa, ca, k2, k3, k4⟩ φ' (hide P H') → RepE ⟨K, fa, ca, k2, k3, k4⟩ P H H' e v → Q v H'
theorem spF_len {K : PySem.W.Frag} {k2 k3 k4 : Str} {n : Nat} {m : MF} : ∀ vs H Q E, spF K k2 k3 k4 n m vs H Q E → vs.length = n := fun vs H Q E h => by
  obtain ⟨fa, ca, P, φ, ds, e, φ', h1, _, _, h2, _⟩ := h
  exact h2.len.trans h1
def appM (n : Nat) (m : MF) (ms : MA) : ME := fun ρ φ => (ms ρ φ).bind fun r => if r.1.length = n then m r.1 r.2 else .bad
def appN (is : List Nat) (n : Nat) (m : MF) (ms : MA) : ME := fun ρ φ => (ms ρ φ).bind fun r => if (pick is r.1).length = n then m (pick is r.1) r.2 else .bad
theorem RepAll.pick {p : Pr} {G : Hp} : ∀ {is : List Nat} {ds : List D} {vs : List V}, RepAll p G ds vs → RepAll p G (VI.pick is ds) (VI.pick is vs)
  | [], _, _, _ => rfl
  | i :: is, ds, vs, r => by
    unfold VI.pick
    rw [List.filterMap_cons, List.filterMap_cons]
    cases e : ds[i]? with
    | none =>
      have e2 : vs[i]? = none := by
        have := r.len
        rw [List.getElem?_eq_none_iff] at e ⊢
        omega
      rw [e2]
      exact RepAll.pick r
    | some d =>
      obtain ⟨v, e2, r2⟩ := r.get e
      rw [e2]
      exact ⟨v, _, rfl, r2, RepAll.pick r⟩
section
variable {X : Cx} {q : Pk} {k n : Nat} {f : Addr} {fd : FuncData} {ps ks : List Str} {E : XK} {x : Str} {p pos : Pos} {a b e : Expr} {es : List Expr} {kws : List Keyword} {ms : MA} {m : MF} {ma mb : ME}
theorem de_call (F : FnG X.prog X.w X.K X.mg X.base CX0 k f fd ps (spF X.K q.k2 q.k3 q.k4 n m)) (hG : X.A.guards = some []) (hr : Room k X.A) (hg : Gl X x) (hm : X.mg x = some (.ref f)) (hk : PySem.W.keepIn X.K (.ref f) = true) (hb : Binds X.K fd ps [])
    (ha : DA X q (e :: es) ms) (hdb : (x == ("__debug__" : Str)) = false := by decide) (he : starEach (e :: es) X.env = (false, eval e X.env) :: starEach es X.env := by rfl) (hpl : (backTo pos (starEach es X.env)).any (·.1) = false := by rfl) :
    DE X q (.Call (.Name x p) (e :: es) [] pos) (appM n m ms) := (pe_callG F hG hr hg hm hk hb pass0 ha hdb he hpl).imp fun σ H Q w => by
  obtain ⟨P, ρ, φ, e, φ', a, h, kk⟩ := w
  obtain ⟨⟨ds, φ1⟩, h1, h⟩ := Res.bind_ok h
  dsimp only at h
  split at h
  · refine partA a h1 fun vs H1 a1 u1 r1 => ⟨q.fa, q.ca, P, φ1, ds, e, φ', by assumption, a1.live, a1.fo, r1, h, fun v H2 u2 f2 r2 => ?_⟩
    exact kk v H2 (u1.trans u2) f2 (r2.old u1)
  · cases h
theorem de_call0 (F : FnG X.prog X.w X.K X.mg X.base CX0 k f fd [] (spF X.K q.k2 q.k3 q.k4 0 m)) (hG : X.A.guards = some []) (hr : Room k X.A) (hg : Gl X x) (hm : X.mg x = some (.ref f)) (hk : PySem.W.keepIn X.K (.ref f) = true) (hb : Binds X.K fd [] [])
    (hdb : (x == ("__debug__" : Str)) = false := by decide) : DE X q (.Call (.Name x p) [] [] pos) (appM 0 m nilA) := (pe_callG0 F hG hr hg hm hk hb pass0 hdb).imp fun σ H Q w => by
  obtain ⟨P, ρ, φ, e, φ', a, h, kk⟩ := w
  exact ⟨q.fa, q.ca, P, φ, [], e, φ', rfl, a.live, a.fo, rfl, h, kk⟩
def DK (X : Cx) (q : Pk) (kws : List Keyword) (m : MA) : Prop := PK X kws (tDA (q.at X.K) m)
theorem pk_imp {kws : List Keyword} {t t' : TA} (h : PK X kws t) (w : ∀ σ H Q, t' σ H Q → t σ H Q) : PK X kws t' := ⟨fun pos pins s σ H Q I z => h.run pos pins s σ H Q I (w _ _ _ z)⟩
theorem dk_nil : DK X q [] nilA := pk_imp pk_nil fun σ H Q w => by
  obtain ⟨P, ρ, φ, e, φ', a, h, k⟩ := w
  cases h
  exact k [] H (Up.refl H) a.fo rfl
theorem dk_cons {nm : Option Str} {kpos : Pos} (ha : DE X q a ma) (hs : DK X q kws ms) : DK X q (⟨nm, a, kpos⟩ :: kws) (consA ma ms) := pk_imp (pk_cons ha hs) fun σ H Q w => by
  obtain ⟨P, ρ, φ, e, φ', a, h, k⟩ := w
  obtain ⟨⟨e1, φ1⟩, h1, h⟩ := Res.bind_ok h
  obtain ⟨⟨e2, φ2⟩, h2, h⟩ := Res.bind_ok h
  cases h
  refine part a h1 fun v H1 a1 u1 r1 => partA a1 h2 fun vs H2 a2 u2 r2 => ?_
  exact k (v :: vs) H2 (u1.trans u2) a2.fo ⟨v, vs, rfl, Rep.up (hide_up u2) (r1.rep a.live), r2⟩
theorem de_callN {is : List Nat} (F : FnG X.prog X.w X.K X.mg X.base CX0 k f fd ps (spF X.K q.k2 q.k3 q.k4 n m)) (hG : X.A.guards = some []) (hr : Room k X.A) (hg : Gl X x) (hm : X.mg x = some (.ref f)) (hk : PySem.W.keepIn X.K (.ref f) = true) (hb : NBinds fd ps ks is)
    (hkw : DK X q kws ms) (hln : ks.length = kws.length) (hms : ∀ ρ φ ds φ', ms ρ φ = .ok (ds, φ') → ds.length = ks.length) (hall : (backToKw pos (keywordEach kws X.env)).all (·.1.isSome) = true := by rfl) (hks : (backToKw pos (keywordEach kws X.env)).filterMap (·.1) = ks := by rfl)
    (hdb : (x == ("__debug__" : Str)) = false := by decide) (hpl : ((backTo pos (starEach [] X.env)).any (·.1) || (backToKw pos (keywordEach kws X.env)).any (·.1.isNone)) = false := by rfl) :
    DE X q (.Call (.Name x p) [] kws pos) (appN is n m ms) := (pe_callGN F hG hr hg hm hk hb pass0 hkw hln hall hks hdb hpl).imp fun σ H Q w => by
  obtain ⟨P, ρ, φ, e, φ', a, h, kk⟩ := w
  obtain ⟨⟨ds, φ1⟩, h1, h⟩ := Res.bind_ok h
  dsimp only at h
  split at h
  · refine partA a h1 fun vs H1 a1 u1 r1 => ⟨r1.len.trans (hms _ _ _ _ h1), q.fa, q.ca, P, φ1, _, e, φ', by assumption, a1.live, a1.fo, r1.pick, h, fun v H2 u2 f2 r2 => ?_⟩
    exact kk v H2 (u1.trans u2) f2 (r2.old u1)
  · cases h
def strsOf : List D → Option (List Str)
  | [] => some []
  | .str b :: r => (strsOf r).map (b :: ·)
  | _ :: _ => none
theorem strsOf_eq : ∀ {ds : List D} {bs : List Str}, strsOf ds = some bs → ds = bs.map .str
  | [], bs, h => by cases h; rfl
  | .str b :: r, bs, h => by
    unfold strsOf at h
    cases e : strsOf r with
    | none => rw [e] at h; cases h
    | some cs => rw [e] at h; cases h; rw [strsOf_eq e]; rfl
  | .none :: _, _, h => by cases h
  | .bool _ :: _, _, h => by cases h
  | .int _ :: _, _, h => by cases h
  | .list _ :: _, _, h => by cases h
  | .tuple _ :: _, _, h => by cases h
  | .dict _ :: _, _, h => by cases h
theorem strsOf_map : ∀ bs : List Str, strsOf (bs.map .str) = some bs
  | [] => rfl
  | b :: r => by
    show (strsOf (r.map .str)).map (b :: ·) = _
    rw [strsOf_map r]
    rfl
def idxG : D → D → Res EV
  | .tuple ds, .str z => match strsOf ds with
    | some ys => (match ys.findIdx? (· == z) with
      | some j => .ok (.dat (.int j))
      | none => .bad)
    | none => .bad
  | _, _ => .bad
theorem de_tupIndex {apos : Pos} (ha : DE X q a ma) (hb : DE X q b mb) (hbase : attributeBase a "index" X.env (eval a X.env) = eval a X.env := by rfl)
    (hfew : ((backTo pos (starEach [b] X.env)).all (fun x => !x.1) && (backToKw pos (keywordEach [] X.env)).all (fun x => x.1.isSome) && decide ([b].length + ([] : List Keyword).length + (if ([] : List Keyword).isEmpty then 0 else 1) < 30)) = true := by rfl)
    (hline : (apos.endLine == pos.line) = true := by rfl) (hs : starEach [b] X.env = (false, eval b X.env) :: starEach [] X.env := by rfl) : DE X q (.Call (.Attribute a "index" apos) [b] [] pos) (op2 idxG ma mb) :=
  (pe_tupM PySem.F.slot_tuple_index PySem.F.type_tuple_index mt_tup_index ha (pa_cons hb pa_nil hs) hbase hfew hline hs).imp fun σ H Q w => by
    obtain ⟨P, ρ, φ, e, φ', a, h, k⟩ := w
    obtain ⟨e1, φ1, e2, h1, h2, h3⟩ := op2_ok h
    unfold idxG at h3
    split at h3
    · rename_i ds z he1 he2
      split at h3
      · rename_i ys hys
        split at h3
        · rename_i j hj
          cases h3
          refine part a h1 fun v1 H1 a1 u1 r1 => ?_
          have r1 := r1.rep a.live
          rw [he1] at r1
          obtain ⟨c, xs, rfl, g1, g2⟩ := r1
          refine ⟨⟨c, xs, rfl, TupN.at g1 fun c o _ z => (hide_of z).2⟩, ?_⟩
          refine part a1 h2 fun v2 H2 a2 u2 r2 => ?_
          have r2 := r2.rep a1.live
          rw [he2] at r2
          cases r2
          rw [strsOf_eq hys] at g2
          rw [RepAll.strs g2] at g1
          obtain ⟨h5, h6, h7⟩ := List.findIdx?_eq_some_iff_getElem.mp hj
          refine ⟨c, ys, z, j, rfl, rfl, (TupN.at g1 fun b o s w => u2.sq b o s (hide_of w).2).sq, ?_, fun i hi e => ?_, k _ H2 (u1.trans u2) a2.fo rfl⟩
          · rw [List.getElem?_eq_getElem h5]
            exact congrArg some (by simpa using h6)
          · have hi2 : i < ys.length := Nat.lt_trans hi h5
            rw [List.getElem?_eq_getElem hi2] at e
            have := h7 i hi
            simp at this
            exact this (Option.some.inj e)
        · cases h3
      · cases h3
    · cases h3
end
end VI
namespace VI
open PySem PySem.Spec PyProof.Rows L2
/-- what was seen ahead of some new objects is seen with them out of sight -/
theorem later {P P' : Addr → Prop} {H H' : Hp} (u : Up H H') (n : ∀ a, P' a → P a ∨ H a = none) : ∀ a o, Sq o → hide P H a = some o → hide P' H' a = some o := fun a o s h => by
  obtain ⟨h1, h2⟩ := hide_of h
  rw [hide_eq fun z => ?_]
  · exact u.sq a o s h2
  · rcases n a z with z | z
    · exact h1 z
    · rw [z] at h2; cases h2
/-- the slots at vs alone may differ -/
def Chg (vs : List Nat) (σ σ' : L2.St) : Prop := σ'.length = σ.length ∧ ∀ i, i ∉ vs → σ'[i]? = σ[i]?
theorem wipe_get {σ : L2.St} : ∀ {vs : List Nat} {i : Nat}, i ∈ vs → i < σ.length → (wipe σ vs)[i]? = some none
  | v :: vs, i, h, hl => by
    unfold wipe
    by_cases e : v = i
    · subst e
      rw [List.getElem?_set_self (by rw [wipe_length]; exact hl)]
    · rw [List.getElem?_set_ne e]
      rcases List.mem_cons.mp h with z | z
      · exact absurd z.symm e
      · exact wipe_get z hl
theorem Chg.wipe {vs own : List Nat} {σ σ' : L2.St} (h : Chg vs σ σ') (s : ∀ i ∈ vs, i ∈ own) : wipe σ' own = wipe σ own := by
  apply List.ext_getElem?
  intro i
  by_cases hi : i ∈ own
  · by_cases hl : i < σ.length
    · rw [wipe_get hi hl, wipe_get hi (by rw [h.1]; exact hl)]
    · rw [List.getElem?_eq_none (by rw [wipe_length, h.1]; omega), List.getElem?_eq_none (by rw [wipe_length]; omega)]
  · rw [wipe_out hi, wipe_out hi]
    exact h.2 i fun z => hi (s i z)
def wipeD (ρ : Env') : List Nat → Env'
  | [] => ρ
  | v :: vs => (wipeD ρ vs).set v none
theorem EnvR.wipe {p : Pr} {G : Hp} {ρ : Env'} {σ : L2.St} (h : EnvR p G ρ σ) : ∀ vs : List Nat, EnvR p G (wipeD ρ vs) (L2.wipe σ vs)
  | [] => h
  | v :: vs => by
    have ih := EnvR.wipe h vs
    refine ⟨by unfold wipeD L2.wipe; rw [List.length_set, List.length_set, ih.len], fun i d e => ?_⟩
    unfold wipeD at e
    unfold L2.wipe
    by_cases hi : v = i
    · subst hi
      by_cases hl : v < (wipeD ρ vs).length
      · rw [List.getElem?_set_self hl] at e; cases e
      · rw [List.getElem?_eq_none (by simpa using hl)] at e; cases e
    · rw [List.getElem?_set_ne hi] at e
      rw [List.getElem?_set_ne hi]
      exact ih.has i d e
theorem EnvR.set {p : Pr} {G : Hp} {ρ : Env'} {σ : L2.St} {i : Nat} {d : D} {v : V} (h : EnvR p G ρ σ) (r : Rep p G d v) : EnvR p G (ρ.set i (some d)) (σ.set i (some v)) := by
  refine ⟨by rw [List.length_set, List.length_set, h.len], fun j e1 he => ?_⟩
  by_cases hj : i = j
  · subst hj
    by_cases hl : i < ρ.length
    · rw [List.getElem?_set_self hl] at he
      cases he
      rw [List.getElem?_set_self (by rw [← h.len]; exact hl)]
      exact ⟨v, rfl, r⟩
    · rw [List.getElem?_eq_none (by rw [List.length_set]; omega)] at he; cases he
  · rw [List.getElem?_set_ne hj] at he
    rw [List.getElem?_set_ne hj]
    exact h.has j e1 he
theorem Chg.set {σ : L2.St} {i : Nat} {x : Option V} {vs : List Nat} (h : i ∈ vs) : Chg vs σ (σ.set i x) :=
  ⟨List.length_set, fun j hj => List.getElem?_set_ne fun e => hj (by rw [← e]; exact h)⟩
theorem Chg.trans {vs : List Nat} {σ σ1 σ2 : L2.St} (a : Chg vs σ σ1) (b : Chg vs σ1 σ2) : Chg vs σ σ2 := ⟨b.1.trans a.1, fun i h => (b.2 i h).trans (a.2 i h)⟩
abbrev RI (α : Type) := (Addr → Prop) → Hp → α → V → Prop
def R1 (p : Pr) : RI D := fun P H d v => Rep p (hide P H) d v
def R2 (p : Pr) : RI (D × D) := fun P H d v => ∃ T x y, v = .ref T ∧ SqT p.K H T [x, y] ∧ Rep p (hide P H) d.1 x ∧ Rep p (hide P H) d.2 y
/-- a target: what it stores -/
def DG {α : Type} (X : Cx) (p : Pr) (tg : Expr) (R : RI α) (set : α → Env' → Option Env') (vs : List Nat) : Prop :=
  ∃ g, PG X tg g ∧ ∀ (P : Addr → Prop) (H : Hp) (ρ : Env') (σ : L2.St) (a : α) (v : V) (ρ' : Env') (Q : L2.St → Hp → Prop), EnvR p (hide P H) ρ σ → R P H a v → set a ρ = some ρ' →
    (∀ σ', EnvR p (hide P H) ρ' σ' → Chg vs σ σ' → (∀ i, i ∉ vs → ρ'[i]? = ρ[i]?) → Q σ' H) → g v σ H Q
def setN (i : Nat) : D → Env' → Option Env' := fun d ρ => some (ρ.set i (some d))
def setAll : List Nat → List D → Env' → Option Env'
  | [], [], ρ => some ρ
  | i :: is, d :: ds, ρ => setAll is ds (ρ.set i (some d))
  | _, _, _ => none
def setT (is : List Nat) : D → Env' → Option Env'
  | .tuple ds, ρ => setAll is ds ρ
  | _, _ => none
def setP (i j : Nat) : D × D → Env' → Option Env' := fun d ρ => some ((ρ.set i (some d.1)).set j (some d.2))
section
variable {X : Cx} {p : Pr} {tg : Expr} {pos pos2 pos3 : Pos} {x y : Str} {i j k : Nat}
theorem dg_name (h : PG X tg (gName i)) : DG X p tg (R1 p) (setN i) [i] := ⟨_, h, fun P H ρ σ a v ρ' Q e r s k => by
  cases s
  exact k _ (e.set r) (Chg.set (by simp)) fun j hj => List.getElem?_set_ne fun e => hj (by simp [e])⟩
theorem dg_pair {es : List Expr} (h : PG X tg (gTup p.K 2 (gCons (gName i) (gCons (gName j) gNil)))) : DG X p tg (R2 p) (setP i j) [i, j] := ⟨_, h, fun P H ρ σ a v ρ' Q e r s k => by
  cases s
  obtain ⟨T, x, y, rfl, h1, r1, r2⟩ := r
  refine ⟨T, [x, y], rfl, h1, rfl, x, [y], rfl, y, [], rfl, rfl, ?_⟩
  refine k _ ((e.set r1).set r2) ((Chg.set (by simp)).trans (Chg.set (by simp))) fun m hm => ?_
  rw [List.getElem?_set_ne fun e => hm (by simp [e]), List.getElem?_set_ne fun e => hm (by simp [e])]⟩
/-- slots one behind another -/
def gAll : List Nat → TGs
  | [] => gNil
  | i :: is => gCons (gName i) (gAll is)
theorem gAll_ok : ∀ {is : List Nat} {P : Addr → Prop} {H : Hp} {ρ ρ' : Env'} {σ : L2.St} {ds : List D} {vs : List V} {Q : L2.St → Hp → Prop}, EnvR p (hide P H) ρ σ → RepAll p (hide P H) ds vs → setAll is ds ρ = some ρ' →
    (∀ σ', EnvR p (hide P H) ρ' σ' → Chg is σ σ' → (∀ i, i ∉ is → ρ'[i]? = ρ[i]?) → Q σ' H) → gAll is vs σ H Q
  | [], _, _, _, _, _, ds, vs, _, e, r, s, k => by
    cases ds with
    | nil => cases r; cases s; exact ⟨rfl, k _ e ⟨rfl, fun _ _ => rfl⟩ fun _ _ => rfl⟩
    | cons d ds => cases s
  | i :: is, _, _, _, _, _, ds, vs, _, e, r, s, k => by
    cases ds with
    | nil => cases s
    | cons d ds =>
      obtain ⟨v, r', rfl, r1, r2⟩ := r
      refine ⟨v, r', rfl, gAll_ok (is := is) (e.set r1) r2 s fun σ' e' c c2 => k σ' e' ?_ fun m hm => ?_⟩
      · refine Chg.trans (Chg.set List.mem_cons_self) ⟨c.1, fun m hm => c.2 m fun z => hm (List.mem_cons_of_mem _ z)⟩
      · rw [c2 m fun z => hm (List.mem_cons_of_mem _ z), List.getElem?_set_ne fun z => hm (by simp [z])]
theorem dg_tup {is : List Nat} (h : PG X tg (gTup p.K is.length (gAll is))) : DG X p tg (R1 p) (setT is) is := ⟨_, h, fun P H ρ σ a v ρ' Q e r s k => by
  cases a with
  | tuple ds =>
    obtain ⟨c, xs, rfl, h1, h2⟩ := r
    have hl : ∀ {is : List Nat} {ds : List D} {ρ : Env'}, setAll is ds ρ = some ρ' → ds.length = is.length := by
      intro is
      induction is with
      | nil => intro ds ρ s; cases ds with
        | nil => rfl
        | cons d ds => cases s
      | cons i is ih => intro ds ρ s; cases ds with
        | nil => cases s
        | cons d ds => exact congrArg (· + 1) (ih (ds := ds) s)
    exact ⟨c, xs, rfl, (TupN.at h1 fun b o _ z => (hide_of z).2).sq, by rw [h2.len]; exact hl s, gAll_ok e h2 s k⟩
  | none => cases s
  | bool b => cases s
  | int i => cases s
  | str x => cases s
  | list ds => cases s
  | dict kv => cases s⟩
end
theorem sq_lst {xs : List V} : Sq (.lst xs) := trivial
/-- what was seen is seen, and as it was -/
def Seen (P : Addr → Prop) (H : Hp) (P' : Addr → Prop) (H' : Hp) : Prop := ∀ a o, Sq o → hide P H a = some o → hide P' H' a = some o
theorem Seen.trans {P P1 P2 : Addr → Prop} {H H1 H2 : Hp} (a : Seen P H P1 H1) (b : Seen P1 H1 P2 H2) : Seen P H P2 H2 := fun c o s h => b c o s (a c o s h)
def ItD {α : Type} (R : RI α) (P : Addr → Prop) (H : Hp) (as : List α) (J : It) : Prop :=
  ∀ (i : Nat) (H1 : Hp) (P' : Addr → Prop), Seen P H P' H1 →
    (∀ d, as[i]? = some d → J.go i H1 ∧ ∀ x H2, J.yld i H1 x H2 → Ext H1 H2 ∧ R P' H2 d x) ∧ (as.length ≤ i → J.stop i H1)
abbrev MI (α : Type) := Env' → FS → Res (List α × FS)
def DI {α : Type} (X : Cx) (q : Pk) (tg iter : Expr) (R : RI α) (m : MI α) : Prop :=
  ∃ wi, PI X tg iter wi ∧ ∀ (σ : L2.St) (H : Hp) (C : It → Hp → Prop), (∃ P ρ φ as φ', At (q.at X.K) P H ρ φ σ ∧ m ρ φ = .ok (as, φ') ∧
    ∀ J H', Up H H' → FO (q.at X.K) φ' (hide P H') → ItD R P H' as J → C J H') → wi σ H C
def seqI (m : ME) : MI D := fun ρ φ => (m ρ φ).bind fun r => match r.1.toD with
  | .list ds => .ok (ds, r.2)
  | .tuple ds => .ok (ds, r.2)
  | .str x => .ok (x.cps.toList.map fun c => .str ⟨#[c]⟩, r.2)
  | _ => .bad
def rng1I (m : ME) : MI D := fun ρ φ => (m ρ φ).bind fun r => match r.1.toD with
  | .int n => if n < 1000000 ∧ -1000000 < n then .ok ((List.range n.toNat).map fun (i : Nat) => PyData.int (0 + (i : Int)), r.2) else .bad
  | _ => .bad
def rng2I (ma mb : ME) : MI D := fun ρ φ => (ma ρ φ).bind fun r => (mb ρ r.2).bind fun r2 => match r.1.toD, r2.1.toD with
  | .int m, .int n => if m < 1000000 ∧ -1000000 < m ∧ n < 1000000 ∧ -1000000 < n then .ok ((List.range (n - m).toNat).map fun (i : Nat) => PyData.int (m + (i : Int)), r2.2) else .bad
  | _, _ => .bad
def zipI (ma mb : ME) : MI (D × D) := fun ρ φ => (ma ρ φ).bind fun r => (mb ρ r.2).bind fun r2 => match r.1.toD, r2.1.toD with
  | .list a, .list b => .ok (a.zip b, r2.2)
  | .tuple a, .tuple b => .ok (a.zip b, r2.2)
  | _, _ => .bad
section
variable {X : Cx} {q : Pk} {tg e e2 : Expr} {pos p tpos : Pos} {m ma mb : ME}
theorem pi_or {w1 w2 : TI} (h1 : PI X tg e w1) (h2 : PI X tg e w2) : PI X tg e (fun σ H R => w1 σ H R ∨ w2 σ H R) := ⟨fun pins s σ H R I h => h.elim (h1.run pins s σ H R I) (h2.run pins s σ H R I)⟩
theorem itd_list {p : Pr} {P : Addr → Prop} {H : Hp} {a : Addr} {xs : List V} {ds : List D} (h : hide P H a = some (.lst xs)) (r : RepAll p (hide P H) ds xs) : ItD (R1 p) P H ds (Itl p.K a) := fun i H1 P' u => by
  have h1 : SqL p.K H1 a xs := SqL.of (hide_of (u _ _ sq_lst h)).2
  refine ⟨fun d e => ?_, fun hl => ⟨xs, h1, by rw [r.len]; exact hl⟩⟩
  obtain ⟨v, e1, r1⟩ := r.get e
  refine ⟨⟨xs, v, h1, e1⟩, fun x H2 y => ?_⟩
  obtain ⟨rfl, y⟩ := y
  have e3 := (y xs h1).symm.trans e1
  cases e3
  exact ⟨Ext.refl _, Rep.up u r1⟩
theorem itd_tup {p : Pr} {P : Addr → Prop} {H : Hp} {a : Addr} {xs : List V} {ds : List D} (h : TupN p.K (hide P H) a xs) (r : RepAll p (hide P H) ds xs) : ItD (R1 p) P H ds (Itt p.K a) := fun i H1 P' u => by
  have h1 : SqT p.K H1 a xs := (TupN.at h fun c o s z => (hide_of (u c o s z)).2).sq
  refine ⟨fun d e => ?_, fun hl => ⟨xs, h1, by rw [r.len]; exact hl⟩⟩
  obtain ⟨v, e1, r1⟩ := r.get e
  refine ⟨⟨xs, v, h1, e1⟩, fun x H2 y => ?_⟩
  obtain ⟨rfl, y⟩ := y
  have e3 := (y xs h1).symm.trans e1
  cases e3
  exact ⟨Ext.refl _, Rep.up u r1⟩
theorem itd_str {p : Pr} {P : Addr → Prop} {H : Hp} {x : Str} : ItD (R1 p) P H (x.cps.toList.map fun c => .str ⟨#[c]⟩) (Its x) := fun i H1 P' u => by
  refine ⟨fun d e => ?_, fun hl => ?_⟩
  · rw [List.getElem?_map] at e
    have hi : i < x.cps.size := by
      by_cases z : i < x.cps.size
      · exact z
      · rw [List.getElem?_eq_none (by rw [Array.length_toList]; omega)] at e; cases e
    refine ⟨hi, fun y H2 w => ?_⟩
    obtain ⟨rfl, c, hc, rfl⟩ := w
    rw [Array.getElem?_toList, hc] at e
    cases e
    exact ⟨Ext.refl _, rfl⟩
  · rw [List.length_map, Array.length_toList] at hl
    exact hl
theorem itd_rng {p : Pr} {P : Addr → Prop} {H : Hp} {lo : Int} {n : Nat} : ItD (R1 p) P H ((List.range n).map fun (i : Nat) => PyData.int (lo + (i : Int))) (Itr lo n) := fun i H1 P' u => by
  refine ⟨fun d e => ?_, fun hl => by rw [List.length_map, List.length_range] at hl; exact hl⟩
  rw [List.getElem?_map] at e
  by_cases z : i < n
  · rw [List.getElem?_range z] at e
    cases e
    refine ⟨z, fun y H2 w => ?_⟩
    obtain ⟨rfl, rfl⟩ := w
    exact ⟨Ext.refl _, rfl⟩
  · rw [List.getElem?_eq_none (by rw [List.length_range]; omega)] at e; cases e
theorem di_seq (h : DE X q e m) : DI X q tg e (R1 (q.at X.K)) (seqI m) := by
  refine ⟨_, pi_or (pi_or (pi_list (tg := tg) h) (pi_tup h)) (pi_str h), fun σ H C w => ?_⟩
  obtain ⟨P, ρ, φ, as, φ', a, hm, k⟩ := w
  obtain ⟨⟨e1, φ1⟩, h1, hm⟩ := Res.bind_ok hm
  dsimp only at hm
  generalize he : e1.toD = d at hm
  have go : ∀ v H1, At (q.at X.K) P H1 ρ φ1 σ → Up H H1 → RepE (q.at X.K) P H H1 e1 v → Rep (q.at X.K) (hide P H1) d v := fun v H1 a1 u1 r1 => he ▸ r1.rep a.live
  cases d with
  | list ds =>
    cases hm
    refine .inl (.inl (part a h1 fun v H1 a1 u1 r1 => ?_))
    obtain ⟨c, xs, rfl, g1, g2⟩ := go v H1 a1 u1 r1
    exact ⟨c, rfl, ⟨xs, SqL.of (hide_of g1).2⟩, k _ H1 u1 a1.fo (itd_list (p := q.at X.K) g1 g2)⟩
  | tuple ds =>
    cases hm
    refine .inl (.inr (part a h1 fun v H1 a1 u1 r1 => ?_))
    obtain ⟨c, xs, rfl, g1, g2⟩ := go v H1 a1 u1 r1
    have g3 := TupN.at g1 fun b o _ z => (hide_of z).2
    exact ⟨c, rfl, ⟨xs, g3.sq⟩, k _ H1 u1 a1.fo (itd_tup (p := q.at X.K) g1 g2)⟩
  | str x =>
    cases hm
    refine .inr (part a h1 fun v H1 a1 u1 r1 => ?_)
    cases go v H1 a1 u1 r1
    exact ⟨x, rfl, k _ H1 u1 a1.fo itd_str⟩
  | none => cases hm
  | bool b => cases hm
  | int i => cases hm
  | dict kv => cases hm
theorem di_rng1 (hg : Gl X "range") (hm : X.mg "range" = none) (ha : DE X q e ma) (hs : starEach [e] X.env = (false, eval e X.env) :: starEach [] X.env) : DI X q tg (.Call (.Name "range" p) [e] [] pos) (R1 (q.at X.K)) (rng1I ma) := by
  refine ⟨_, pi_range1 hg hm (pa_cons ha pa_nil hs) hs, fun σ H C w => ?_⟩
  obtain ⟨P, ρ, φ, as, φ', a, hm, k⟩ := w
  obtain ⟨⟨e1, φ1⟩, h1, hm⟩ := Res.bind_ok hm
  dsimp only at hm
  split at hm
  · rename_i he
    split at hm
    · rename_i hb
      cases hm
      refine part a h1 fun v H1 a1 u1 r1 => ?_
      have r2 := r1.rep a.live
      rw [he] at r2
      cases r2
      exact ⟨_, rfl, by omega, by omega, k _ H1 u1 a1.fo itd_rng⟩
    · cases hm
  · cases hm
theorem di_rng2 (hg : Gl X "range") (hm : X.mg "range" = none) (ha : DE X q e ma) (hb : DE X q e2 mb) (hs : starEach [e, e2] X.env = (false, eval e X.env) :: starEach [e2] X.env) (hs2 : starEach [e2] X.env = (false, eval e2 X.env) :: starEach [] X.env) :
    DI X q tg (.Call (.Name "range" p) [e, e2] [] pos) (R1 (q.at X.K)) (rng2I ma mb) := by
  refine ⟨_, pi_range2 hg hm (pa_cons ha (pa_cons hb pa_nil hs2) hs) (hs.trans (by rw [hs2]; rfl)) hs2, fun σ H C w => ?_⟩
  obtain ⟨P, ρ, φ, as, φ', a, hm, k⟩ := w
  obtain ⟨⟨e1, φ1⟩, h1, hm⟩ := Res.bind_ok hm
  obtain ⟨⟨e2, φ2⟩, h2, hm⟩ := Res.bind_ok hm
  dsimp only at hm
  split at hm
  · rename_i he he2
    split at hm
    · rename_i hb
      cases hm
      refine part a h1 fun v H1 a1 u1 r1 => part a1 h2 fun v2 H2 a2 u2 r2 => ?_
      have r1 := r1.rep a.live
      have r2 := r2.rep a1.live
      rw [he] at r1
      rw [he2] at r2
      cases r1
      cases r2
      exact ⟨_, _, rfl, ⟨by omega, by omega, by omega, by omega⟩, k _ H2 (u1.trans u2) a2.fo itd_rng⟩
    · cases hm
  · cases hm
theorem zip_get {α β : Type} {xs : List α} {ys : List β} {i : Nat} {z : α × β} (h : (xs.zip ys)[i]? = some z) : xs[i]? = some z.1 ∧ ys[i]? = some z.2 := List.getElem?_zip_eq_some.mp h
theorem di_zip {elts : List Expr} {kk : Nat} (hg : Gl X "zip") (hm : X.mg "zip" = none) (ha : DE X q e ma) (hb : DE X q e2 mb) (hs : starEach [e, e2] X.env = (false, eval e X.env) :: starEach [e2] X.env) (hs2 : starEach [e2] X.env = (false, eval e2 X.env) :: starEach [] X.env) :
    DI X q (.Tuple elts kk tpos) (.Call (.Name "zip" p) [e, e2] [] pos) (R2 (q.at X.K)) (zipI ma mb) := by
  refine ⟨_, RZ.pi_zipA hg hm (pa_cons ha (pa_cons hb pa_nil hs2) hs) hs (by rw [hs2]; rfl), fun σ H C w => ?_⟩
  obtain ⟨P, ρ, φ, as, φ', a, hm, k⟩ := w
  obtain ⟨⟨e1, φ1⟩, h1, hm⟩ := Res.bind_ok hm
  obtain ⟨⟨e2, φ2⟩, h2, hm⟩ := Res.bind_ok hm
  dsimp only at hm
  split at hm
  · rename_i he he2
    cases hm
    refine part a h1 fun v H1 a1 u1 r1 => part a1 h2 fun v2 H2 a2 u2 r2 => ?_
    have r1 := r1.rep a.live
    have r2 := r2.rep a1.live
    rw [he] at r1
    rw [he2] at r2
    obtain ⟨c, xs, rfl, g1, g2⟩ := r1
    obtain ⟨d, ys, rfl, g3, g4⟩ := r2
    have g5 := hide_up u2 _ _ sq_lst g1
    have g6 := g3
    refine ⟨c, d, xs, ys, rfl, .inl ⟨SqL.of (hide_of g5).2, SqL.of (hide_of g6).2, k _ H2 (u1.trans u2) a2.fo fun i H3 P' u => ⟨fun z hz => ?_, fun hl => ?_⟩⟩⟩
    · obtain ⟨z1, z2⟩ := zip_get hz
      obtain ⟨v1, e1, q1⟩ := g2.get z1
      obtain ⟨v2, e2, q2⟩ := g4.get z2
      have g7 : H3 c = some (.lst xs) := (hide_of (u _ _ sq_lst g5)).2
      have g8 : H3 d = some (.lst ys) := (hide_of (u _ _ sq_lst g6)).2
      refine ⟨⟨xs, ys, v1, v2, SqL.of g7, SqL.of g8, e1, e2⟩, fun x H4 w => ?_⟩
      obtain ⟨T, x1, x2, rfl, nT, rfl, w1, w2⟩ := w
      have f1 := (w1 xs (SqL.of g7)).symm.trans e1
      have f2 := (w2 ys (SqL.of g8)).symm.trans e2
      cases f1
      cases f2
      refine ⟨Ext.new nT, T, _, _, rfl, SqT.of upd_same, Rep.up (hide_up (Ext.new nT).up) (Rep.up u (Rep.up (hide_up u2) q1)), Rep.up (hide_up (Ext.new nT).up) (Rep.up u q2)⟩
    · refine ⟨xs, ys, SqL.of (hide_of (u _ _ sq_lst g5)).2, SqL.of (hide_of (u _ _ sq_lst g6)).2, ?_⟩
      rw [List.length_zip] at hl
      rw [g2.len, g4.len]
      omega
  · rename_i he he2
    cases hm
    refine part a h1 fun v H1 a1 u1 r1 => part a1 h2 fun v2 H2 a2 u2 r2 => ?_
    have r1 := r1.rep a.live
    have r2 := r2.rep a1.live
    rw [he] at r1
    rw [he2] at r2
    obtain ⟨c, xs, rfl, g1, g2⟩ := r1
    obtain ⟨d, ys, rfl, g3, g4⟩ := r2
    have g5 := TupN.at g1 (hide_up u2)
    have g6 := g3
    have sh := fun (G : Hp) (P : Addr → Prop) (b : Addr) (o : HO) (_ : Sq o) (z : hide P G b = some o) => (hide_of z).2
    refine ⟨c, d, xs, ys, rfl, .inr ⟨(TupN.at g5 (sh _ _)).sq, (TupN.at g6 (sh _ _)).sq, k _ H2 (u1.trans u2) a2.fo fun i H3 P' u => ⟨fun z hz => ?_, fun hl => ?_⟩⟩⟩
    · obtain ⟨z1, z2⟩ := zip_get hz
      obtain ⟨v1, e1, q1⟩ := g2.get z1
      obtain ⟨v2, e2, q2⟩ := g4.get z2
      have g7 := (TupN.at (TupN.at g5 u) (sh _ _)).sq
      have g8 := (TupN.at (TupN.at g6 u) (sh _ _)).sq
      refine ⟨⟨xs, ys, v1, v2, g7, g8, e1, e2⟩, fun x H4 w => ?_⟩
      obtain ⟨T, x1, x2, rfl, nT, rfl, w1, w2⟩ := w
      have f1 := (w1 xs g7).symm.trans e1
      have f2 := (w2 ys g8).symm.trans e2
      cases f1
      cases f2
      refine ⟨Ext.new nT, T, _, _, rfl, SqT.of upd_same, Rep.up (hide_up (Ext.new nT).up) (Rep.up u (Rep.up (hide_up u2) q1)), Rep.up (hide_up (Ext.new nT).up) (Rep.up u q2)⟩
    · refine ⟨xs, ys, (TupN.at (TupN.at g5 u) (sh _ _)).sq, (TupN.at (TupN.at g6 u) (sh _ _)).sq, ?_⟩
      rw [List.length_zip] at hl
      rw [g2.len, g4.len]
      omega
  · cases hm
end
end VI
namespace VI
open PySem PySem.Spec PyProof.Rows L2
def lcGo {α : Type} (set : α → Env' → Option Env') (mt : MT) (me : ME) (ρ0 : Env') : List α → FS → Res (List D × FS)
  | [], φ => .ok ([], φ)
  | a :: as, φ => match set a ρ0 with
    | none => .bad
    | some ρ1 => (mt ρ1 φ).bind fun r => if r.1 = true then (me ρ1 r.2).bind fun r1 => (lcGo set mt me ρ0 as r1.2).bind fun r2 => .ok (r1.1.toD :: r2.1, r2.2) else lcGo set mt me ρ0 as r.2
def lcM {α : Type} (own : List Nat) (mi : MI α) (set : α → Env' → Option Env') (mt : MT) (me : ME) : ME := fun ρ φ =>
  (mi ρ φ).bind fun r => if r.1.length ≤ 1000000 then (lcGo set mt me (wipeD ρ own) r.1 r.2).bind fun r2 => .ok (.own r2.1, r2.2) else .bad
def yesT : MT := fun _ φ => .ok (true, φ)
/-- the tests of a clause -/
def DTs (X : Cx) (q : Pk) (ifs : List Expr) (m : MT) : Prop := PTs X ifs (tDT (q.at X.K) m)
theorem pts_imp {X : Cx} {ifs : List Expr} {t t' : TT} (h : PTs X ifs t) (w : ∀ σ H Q, t' σ H Q → t σ H Q) : PTs X ifs t' := ⟨fun pins s σ H Q I z => h.run pins s σ H Q I (w _ _ _ z)⟩
theorem dts_nil {X : Cx} {q : Pk} : DTs X q [] yesT := pts_imp pts_nil fun σ H Q w => by
  obtain ⟨P, ρ, φ, b, φ', a, h, k⟩ := w
  cases h
  exact k H (Up.refl H) a.fo
theorem dts_one {X : Cx} {q : Pk} {c : Expr} {m : MT} (h : DT X q c m) : DTs X q [c] m := pts_one h
/-- the list in the making out of sight -/
abbrev And1 (P : Addr → Prop) (d : Addr) : Addr → Prop := fun b => P b ∨ b = d
theorem wish_lc {α : Type} {p : Pr} {wi : TI} {R : RI α} {mi : MI α} {g : TG} {set : α → Env' → Option Env'} {vs own : List Nat} {mt : MT} {me : ME}
    (hi : ∀ (σ : L2.St) (H : Hp) (C : It → Hp → Prop), (∃ P ρ φ as φ', At p P H ρ φ σ ∧ mi ρ φ = .ok (as, φ') ∧ ∀ J H', Up H H' → FO p φ' (hide P H') → ItD R P H' as J → C J H') → wi σ H C)
    (hg : ∀ (P : Addr → Prop) (H : Hp) (ρ : Env') (σ : L2.St) (a : α) (v : V) (ρ' : Env') (Q : L2.St → Hp → Prop), EnvR p (hide P H) ρ σ → R P H a v → set a ρ = some ρ' →
      (∀ σ', EnvR p (hide P H) ρ' σ' → Chg vs σ σ' → (∀ i, i ∉ vs → ρ'[i]? = ρ[i]?) → Q σ' H) → g v σ H Q) (hvs : ∀ i ∈ vs, i ∈ own)
    (σ : L2.St) (H : Hp) (Q : VK) (w : tD p (lcM own mi set mt me) σ H Q) : tLc wi g (tDT p mt) (tD p me) own σ H Q := by
  obtain ⟨P, ρ, φ, e, φ', a, h, k⟩ := w
  obtain ⟨⟨as, φ1⟩, h1, h⟩ := Res.bind_ok h
  dsimp only at h
  split at h
  · rename_i hz
    obtain ⟨⟨fin, φ2⟩, h2, h⟩ := Res.bind_ok h
    cases h
    refine hi σ H _ ⟨P, ρ, φ, as, φ1, a, h1, fun J H1 u1 f1 it => ?_⟩
    intro d nd
    have a1 := a.next u1 f1
    have up0 : Up H1 (upd H1 d (.lst [])) := (Ext.new nd).up
    -- the state behind i turns
    refine ⟨fun i m Hc => m = as.length - i ∧ i ≤ as.length ∧ ∃ φc accD accV rest, Up H1 Hc ∧ Hc d = some (.lst accV) ∧ RepAll p (hide (And1 P d) Hc) accD accV ∧ FO p φc (hide (And1 P d) Hc) ∧
      lcGo set mt me (wipeD ρ own) (as.drop i) φc = .ok (rest, φ2) ∧ accD ++ rest = fin ∧ accD.length ≤ i, ⟨as.length, ?_⟩, ?_⟩
    · refine ⟨by omega, Nat.zero_le _, φ1, [], [], fin, up0, upd_same, rfl, ?_, by rw [List.drop_zero]; exact h2, rfl, Nat.le_refl _⟩
      rw [hide_upd (.inr rfl)]
      have fa : p.fa ≠ d := fun z => by have q1 := (hide_of f1.d).2; rw [z, nd] at q1; cases q1
      have ca : p.ca ≠ d := fun z => by have q1 := (hide_of f1.c).2; rw [z, nd] at q1; cases q1
      have vis : ∀ b, b ≠ d → ∀ o, hide P H1 b = some o → hide (And1 P d) H1 b = some o := fun b hb o q1 => by
        obtain ⟨q2, q3⟩ := hide_of q1
        rw [hide_eq fun z => z.elim q2 hb]
        exact q3
      exact ⟨vis _ fa _ f1.d, vis _ ca _ f1.c⟩
    · rintro i m Hc ⟨rfl, hi', φc, accD, accV, rest, uc, hd, ra, fc, hgo, hfin, hlen⟩
      have live : Live (And1 P d) Hc := fun b hb => by
        rcases hb with hb | hb
        · exact (a1.live.up uc) b hb
        · rw [hb, hd]; intro z; cases z
      have newer : ∀ b, And1 P d b → P b ∨ H1 b = none := fun b hb => hb.imp id fun z => by rw [z]; exact nd
      obtain ⟨go, stop⟩ := it i Hc (And1 P d) (later uc newer)
      by_cases hlt : i < as.length
      · have ei : as[i]? = some as[i] := List.getElem?_eq_getElem hlt
        obtain ⟨go1, go2⟩ := go as[i] ei
        rw [List.drop_eq_getElem_cons hlt] at hgo
        unfold lcGo at hgo
        split at hgo
        · cases hgo
        · rename_i ρ1 hset
          obtain ⟨⟨b, φ3⟩, h3, hgo⟩ := Res.bind_ok hgo
          dsimp only at hgo
          refine .inr ⟨go1, fun Hn => ∃ φc accD accV rest, Up H1 Hn ∧ Hn d = some (.lst accV) ∧ RepAll p (hide (And1 P d) Hn) accD accV ∧ FO p φc (hide (And1 P d) Hn) ∧
            lcGo set mt me (wipeD ρ own) (as.drop (i + 1)) φc = .ok (rest, φ2) ∧ accD ++ rest = fin ∧ accD.length ≤ i + 1, fun Hn hn => ⟨as.length - (i + 1), by omega, rfl, hlt, hn⟩, fun x H2 hy => ?_⟩
          obtain ⟨x2, rx⟩ := go2 x H2 hy
          have env : EnvR p (hide (And1 P d) H2) (wipeD ρ own) (wipe σ own) := (a1.env.up (later (uc.trans x2.up) newer)).wipe own
          refine hg (And1 P d) H2 (wipeD ρ own) (wipe σ own) as[i] x ρ1 _ env rx hset fun σ2 env2 chg _ => ?_
          have wp : wipe σ2 own = wipe (wipe σ own) own := chg.wipe hvs
          have ww : wipe (wipe σ own) own = wipe σ own := by
            apply List.ext_getElem?
            intro j
            by_cases hj : j ∈ own
            · by_cases hl : j < σ.length
              · rw [wipe_get hj (by rw [wipe_length]; exact hl), wipe_get hj hl]
              · rw [List.getElem?_eq_none (by rw [wipe_length, wipe_length]; omega), List.getElem?_eq_none (by rw [wipe_length]; omega)]
            · rw [wipe_out hj]
          refine ⟨wp.trans ww, ?_⟩
          have a2 : At p (And1 P d) H2 ρ1 φc σ2 := ⟨live.up x2.up, env2, fc.ext (hide_ext x2)⟩
          refine partT a2 h3 fun H3 a3 u3 => ?_
          have hd2 := x2.all _ _ hd
          have hd3 : H3 d = some (.lst accV) := u3.sq _ _ trivial hd2
          have ra3 := RepAll.up (hide_up (x2.up.trans u3)) ra
          cases b with
          | false =>
            rw [if_neg Bool.false_ne_true]
            rw [if_neg Bool.false_ne_true] at hgo
            exact ⟨φ3, accD, accV, rest, (uc.trans x2.up).trans u3, hd3, ra3, a3.fo, hgo, hfin, by omega⟩
          | true =>
            rw [if_pos rfl]
            rw [if_pos rfl] at hgo
            obtain ⟨⟨e4, φ4⟩, h4, hgo⟩ := Res.bind_ok hgo
            obtain ⟨⟨r5, φ5⟩, h5, hgo⟩ := Res.bind_ok hgo
            cases hgo
            refine part a3 h4 fun v4 H4 a4 u4 r4 => ?_
            have hd4 : H4 d = some (.lst accV) := u4.sq _ _ trivial hd3
            refine ⟨accV, hd4, by rw [ra.len, sizeLine_eq]; omega, φ4, accD ++ [e4.toD], accV ++ [v4], r5, ?_, upd_same, ?_, ?_, h5, by rw [List.append_assoc]; exact hfin, by rw [List.length_append, List.length_singleton]; omega⟩
            · have uu := ((uc.trans x2.up).trans u3).trans u4
              refine ⟨fun b o s q1 => ?_, fun b q1 => ?_⟩
              · have hb : b ≠ d := fun z => by rw [z, nd] at q1; cases q1
                rw [upd_ne hb]
                exact uu.sq b o s q1
              · have hb : b ≠ d := fun z => by rw [z, upd_same] at q1; cases q1
                rw [upd_ne hb] at q1
                exact uu.no b q1
            · rw [hide_upd (.inr rfl)]
              exact RepAll.app (RepAll.up (hide_up u4) ra3) (RepAll.one (r4.rep a3.live))
            · rw [hide_upd (.inr rfl)]
              exact a4.fo
      · have ei : i = as.length := by omega
        subst ei
        rw [List.drop_length] at hgo
        cases hgo
        rw [List.append_nil] at hfin
        subst hfin
        refine .inl ⟨stop (Nat.le_refl _), k _ Hc (u1.trans uc) ?_ ⟨d, accV, rfl, u1.no _ nd, hd, ra⟩⟩
        have vis : ∀ b o, hide (And1 P d) Hc b = some o → hide P Hc b = some o := fun b o q1 => by
          obtain ⟨q2, q3⟩ := hide_of q1
          rw [hide_eq fun z => q2 (.inl z)]
          exact q3
        exact ⟨vis _ _ fc.d, vis _ _ fc.c⟩
  · cases h
section
variable {X : Cx} {q : Pk} {elt tg iter : Expr} {ifs : List Expr} {scope : Scope} {own : List (Str × Nat)} {pos : Pos} {α : Type} {R : RI α} {mi : MI α} {set : α → Env' → Option Env'} {vs : List Nat} {mt : MT} {me : ME}
theorem de_lc (hc : X.calm = true) (hN : X.N.Nodup) (hi : DI X q tg iter R mi) (ok : BlkOk X.N X.env.scope scope own) (hvs : ∀ i ∈ vs, i ∈ own.map (·.2))
    (hg : ∃ g : TG, (∀ (s : Shared) (H : Hp) (C : Addr) (cl : List (Str × Addr)) (fp : List Addr), PG (X.blk s H scope (compEnvC scope cl C X.env) fp) tg g) ∧
      ∀ (P : Addr → Prop) (H : Hp) (ρ : Env') (σ : L2.St) (a : α) (v : V) (ρ' : Env') (Q : L2.St → Hp → Prop), EnvR (q.at X.K) (hide P H) ρ σ → R P H a v → set a ρ = some ρ' →
        (∀ σ', EnvR (q.at X.K) (hide P H) ρ' σ' → Chg vs σ σ' → (∀ i, i ∉ vs → ρ'[i]? = ρ[i]?) → Q σ' H) → g v σ H Q)
    (ht : ∀ (s : Shared) (H : Hp) (C : Addr) (cl : List (Str × Addr)) (fp : List Addr), DTs (X.blk s H scope (compEnvC scope cl C X.env) fp) q ifs mt)
    (he : ∀ (s : Shared) (H : Hp) (C : Addr) (cl : List (Str × Addr)) (fp : List Addr), DE (X.blk s H scope (compEnvC scope cl C X.env) fp) q elt me) (hs : ∀ x, foldedSetIterable iter X.env x = pure x) :
    DE X q (.ListComp elt [⟨tg, iter, ifs, 0⟩] scope pos) (lcM (own.map (·.2)) mi set mt me) := by
  obtain ⟨wi, h1, h2⟩ := hi
  obtain ⟨g, h3, h4⟩ := hg
  exact (pe_lc (tt := tDT (q.at X.K) mt) (te := tD (q.at X.K) me) hc hN h1 ok h3 ht he hs).imp (wish_lc h2 h4 hvs)
/-- name = [..] on one line -/
def tAsgD (p : Pr) (m : ME) (i : Nat) : TS := fun D σ H => tD p m σ H fun x H1 => D.nx (σ.set i (some x)) H1
end
end VI
namespace VI
open PySem PySem.Spec PyProof.Rows L2
abbrev EnvS := List (Option EV)
inductive Fl where
  | nx
  | ret (e : EV)
  | bk
  | ct
abbrev MS := EnvS → FS → Res (Fl × EnvS × FS)
mutual
def lfD : D → Bool
  | .none => true
  | .bool _ => true
  | .int _ => true
  | .str _ => true
  | .list _ => false
  | .tuple ds => lfAll ds
  | .dict _ => true
def lfAll : List D → Bool
  | [] => true
  | d :: ds => lfD d && lfAll ds
end
def lfE : EV → Bool
  | .dat d => lfD d
  | .own ds => lfAll ds
section
variable {p : Pr} {G G' : Hp}
mutual
theorem Rep.lf (u : ∀ a o xs, G a = some (.frz o (.tup xs)) → G' a = some (.frz o (.tup xs))) : ∀ {d : D} {v : V}, lfD d = true → Rep p G d v → Rep p G' d v
  | .none, _, _, h => h
  | .bool _, _, _, h => h
  | .int _, _, _, h => h
  | .str _, _, _, h => h
  | .list _, _, l, _ => by cases l
  | .tuple _, _, l, h => by
    obtain ⟨a, xs, e, h1, h2⟩ := h
    refine ⟨a, xs, e, ?_, RepAll.lf u l h2⟩
    rcases h1 with ⟨o, d, h1⟩ | h1
    · exact .inl ⟨o, d, u _ _ _ h1⟩
    · exact .inr h1
  | .dict _, _, _, h => h
theorem RepAll.lf (u : ∀ a o xs, G a = some (.frz o (.tup xs)) → G' a = some (.frz o (.tup xs))) : ∀ {ds : List D} {vs : List V}, lfAll ds = true → RepAll p G ds vs → RepAll p G' ds vs
  | [], _, _, h => h
  | _ :: _, _, l, h => by
    obtain ⟨v, r, e, h1, h2⟩ := h
    unfold lfAll at l
    rw [Bool.and_eq_true] at l
    exact ⟨v, r, e, Rep.lf u l.1 h1, RepAll.lf u l.2 h2⟩
end
end
def OwnS (ρ : EnvS) (σ : L2.St) (i : Nat) (a : Addr) : Prop := (∃ ds, ρ[i]? = some (some (.own ds))) ∧ σ[i]? = some (some (.ref a))
/-- out of sight: what the caller hides, and this frame's own lists -/
def Hid (P0 : Addr → Prop) (ρ : EnvS) (σ : L2.St) : Addr → Prop := fun a => P0 a ∨ ∃ i, OwnS ρ σ i a
structure Sl (p : Pr) (H0 : Hp) (P0 : Addr → Prop) (H : Hp) (ρ : EnvS) (σ : L2.St) : Prop where
  len : ρ.length = σ.length
  live : Live P0 H0
  up : Up H0 H
  dat : ∀ (i : Nat) (d : D), ρ[i]? = some (some (EV.dat d)) → ∃ v : V, σ[i]? = some (some v) ∧ Rep p (hide (Hid P0 ρ σ) H) d v
  own : ∀ (i : Nat) (ds : List D), ρ[i]? = some (some (EV.own ds)) → ∃ (a : Addr) (xs : List V), σ[i]? = some (some (V.ref a)) ∧ H0 a = none ∧ H a = some (.lst xs) ∧ RepAll p (hide (Hid P0 ρ σ) H) ds xs
  one : ∀ i j a, OwnS ρ σ i a → OwnS ρ σ j a → i = j
structure StR (p : Pr) (H0 : Hp) (P0 : Addr → Prop) (H : Hp) (ρ : EnvS) (φ : FS) (σ : L2.St) : Prop where
  sl : Sl p H0 P0 H ρ σ
  fo : FO p φ (hide (Hid P0 ρ σ) H)
def soft1 (vs : List Nat) (i : Nat) : Option EV → Option D
  | some (.dat d) => some d
  | some (.own ds) => if i ∈ vs then some (.list ds) else none
  | none => none
def soft (vs : List Nat) (ρ : EnvS) : Env' := ρ.mapIdx (soft1 vs)
def settle1 (vs : List Nat) (i : Nat) : Option EV → Option EV
  | some (.own ds) => if i ∈ vs then some (.dat (.list ds)) else some (.own ds)
  | x => x
def settle (vs : List Nat) (ρ : EnvS) : EnvS := ρ.mapIdx (settle1 vs)
def aft (vs : List Nat) (e : EV) (ρ : EnvS) : EnvS := if lfE e = true then ρ else settle vs ρ
theorem settle_len (vs : List Nat) (ρ : EnvS) : (settle vs ρ).length = ρ.length := List.length_mapIdx
theorem soft_len (vs : List Nat) (ρ : EnvS) : (soft vs ρ).length = ρ.length := List.length_mapIdx
theorem settle_get (vs : List Nat) (ρ : EnvS) (i : Nat) : (settle vs ρ)[i]? = (ρ[i]?).map (settle1 vs i) := List.getElem?_mapIdx
theorem soft_get (vs : List Nat) (ρ : EnvS) (i : Nat) : (soft vs ρ)[i]? = (ρ[i]?).map (soft1 vs i) := List.getElem?_mapIdx
theorem settle_own {vs : List Nat} {ρ : EnvS} {i : Nat} {ds : List D} (h : (settle vs ρ)[i]? = some (some (.own ds))) : ρ[i]? = some (some (.own ds)) ∧ i ∉ vs := by
  rw [settle_get] at h
  cases e : ρ[i]? with
  | none => rw [e] at h; cases h
  | some o =>
    rw [e] at h
    cases o with
    | none => cases h
    | some ev =>
      cases ev with
      | dat d => cases h
      | own es =>
        have h : some (if i ∈ vs then some (EV.dat (.list es)) else some (EV.own es)) = some (some (EV.own ds)) := h
        split at h
        · cases h
        · cases h; exact ⟨rfl, by assumption⟩
theorem settle_dat {vs : List Nat} {ρ : EnvS} {i : Nat} {d : D} (h : (settle vs ρ)[i]? = some (some (.dat d))) : ρ[i]? = some (some (.dat d)) ∨ ∃ ds, ρ[i]? = some (some (.own ds)) ∧ i ∈ vs ∧ d = .list ds := by
  rw [settle_get] at h
  cases e : ρ[i]? with
  | none => rw [e] at h; cases h
  | some o =>
    rw [e] at h
    cases o with
    | none => cases h
    | some ev =>
      cases ev with
      | dat d' => cases h; exact .inl rfl
      | own es =>
        have h : some (if i ∈ vs then some (EV.dat (.list es)) else some (EV.own es)) = some (some (EV.dat d)) := h
        split at h
        · cases h; exact .inr ⟨es, rfl, by assumption, rfl⟩
        · cases h
theorem soft_some {vs : List Nat} {ρ : EnvS} {i : Nat} {d : D} (h : (soft vs ρ)[i]? = some (some d)) : (settle vs ρ)[i]? = some (some (.dat d)) := by
  rw [soft_get] at h
  rw [settle_get]
  cases e : ρ[i]? with
  | none => rw [e] at h; cases h
  | some o =>
    rw [e] at h
    cases o with
    | none => cases h
    | some ev =>
      cases ev with
      | dat d' => cases h; rfl
      | own es =>
        have h : some (if i ∈ vs then some (PyData.list es) else none) = some (some d) := h
        show some (if i ∈ vs then some (EV.dat (.list es)) else some (EV.own es)) = _
        split at h
        · rename_i hi; cases h; rw [if_pos hi]
        · cases h
theorem hid_settle {P0 : Addr → Prop} {vs : List Nat} {ρ : EnvS} {σ : L2.St} : ∀ b, Hid P0 (settle vs ρ) σ b → Hid P0 ρ σ b := fun b h => by
  rcases h with h | ⟨i, ⟨ds, h1⟩, h2⟩
  · exact .inl h
  · exact .inr ⟨i, ⟨ds, (settle_own h1).1⟩, h2⟩
section
variable {p : Pr} {H0 H H' : Hp} {P0 : Addr → Prop} {ρ : EnvS} {φ φ' : FS} {σ : L2.St} {vs : List Nat} {e : EV} {v : V}
theorem FO.see {P P' : Addr → Prop} {H : Hp} {φ : FS} (h : FO p φ (hide P H)) (n : ¬ P' p.fa) (n2 : ¬ P' p.ca) : FO p φ (hide P' H) :=
  ⟨by rw [hide_eq n]; exact (hide_of h.d).2, by rw [hide_eq n2]; exact (hide_of h.c).2⟩
theorem FO.nfa {P : Addr → Prop} {H : Hp} {φ : FS} (h : FO p φ (hide P H)) : ¬ P p.fa ∧ H p.fa ≠ none := ⟨(hide_of h.d).1, by rw [(hide_of h.d).2]; intro z; cases z⟩
theorem FO.nca {P : Addr → Prop} {H : Hp} {φ : FS} (h : FO p φ (hide P H)) : ¬ P p.ca ∧ H p.ca ≠ none := ⟨(hide_of h.c).1, by rw [(hide_of h.c).2]; intro z; cases z⟩
theorem Sl.liveH (S : Sl p H0 P0 H ρ σ) : Live (Hid P0 ρ σ) H := fun b h => by
  rcases h with h | ⟨i, ⟨ds, h1⟩, h2⟩
  · exact S.live.up S.up b h
  · obtain ⟨a, xs, e1, e2, e3, e4⟩ := S.own i ds h1
    rw [h2] at e1
    cases e1
    rw [e3]
    intro z; cases z
/-- own lists may be held as data from now on -/
theorem Sl.settled (S : Sl p H0 P0 H ρ σ) (vs : List Nat) : Sl p H0 P0 H (settle vs ρ) σ where
  len := by rw [settle_len]; exact S.len
  live := S.live
  up := S.up
  dat := fun i d h => by
    rcases settle_dat h with h7 | ⟨ds, h7, hi, rfl⟩
    · obtain ⟨v, e1, e2⟩ := S.dat i d h7
      exact ⟨v, e1, Rep.up (fun a o _ z => hide_less hid_settle a o z) e2⟩
    · obtain ⟨a, xs, e1, e2, e3, e4⟩ := S.own i ds h7
      refine ⟨.ref a, e1, a, xs, rfl, ?_, RepAll.up (fun a o _ z => hide_less hid_settle a o z) e4⟩
      rw [hide_eq fun z => ?_]
      · exact e3
      · rcases z with z | ⟨j, ⟨es, h1⟩, h2⟩
        · exact S.live a z e2
        · obtain ⟨h3, h4⟩ := settle_own h1
          have := S.one i j a ⟨⟨ds, h7⟩, e1⟩ ⟨⟨es, h3⟩, h2⟩
          rw [← this] at h4
          exact h4 hi
  own := fun i ds h => by
    obtain ⟨h, _⟩ := settle_own h
    obtain ⟨a, xs, e1, e2, e3, e4⟩ := S.own i ds h
    exact ⟨a, xs, e1, e2, e3, RepAll.up (fun a o _ z => hide_less hid_settle a o z) e4⟩
  one := fun i j a h1 h2 => by
    obtain ⟨⟨ds, h1⟩, h3⟩ := h1
    obtain ⟨⟨es, h2⟩, h4⟩ := h2
    exact S.one i j a ⟨⟨ds, (settle_own h1).1⟩, h3⟩ ⟨⟨es, (settle_own h2).1⟩, h4⟩
theorem FO.less {P P' : Addr → Prop} {H : Hp} {φ : FS} (h : FO p φ (hide P H)) (s : ∀ b, P' b → P b) : FO p φ (hide P' H) := h.see (fun z => h.nfa.1 (s _ z)) fun z => h.nca.1 (s _ z)
theorem StR.settled (S : StR p H0 P0 H ρ φ σ) (vs : List Nat) : StR p H0 P0 H (settle vs ρ) φ σ := ⟨S.sl.settled vs, S.fo.less hid_settle⟩
/-- an expression may read what is named -/
theorem StR.moment (S : StR p H0 P0 H ρ φ σ) (vs : List Nat) : At p (Hid P0 (settle vs ρ) σ) H (soft vs ρ) φ σ where
  live := (S.sl.settled vs).liveH
  env := ⟨by rw [soft_len]; exact S.sl.len, fun i d h => (S.sl.settled vs).dat i d (soft_some h)⟩
  fo := S.fo.less hid_settle
theorem StR.upTo (S : StR p H0 P0 H ρ φ σ) (u : Up H H') (f : FO p φ' (hide (Hid P0 ρ σ) H')) : StR p H0 P0 H' ρ φ' σ :=
  ⟨⟨S.sl.len, S.sl.live, S.sl.up.trans u, fun i d h => by
    obtain ⟨v, e1, e2⟩ := S.sl.dat i d h
    exact ⟨v, e1, Rep.up (hide_up u) e2⟩, fun i ds h => by
    obtain ⟨a, xs, e1, e2, e3, e4⟩ := S.sl.own i ds h
    exact ⟨a, xs, e1, e2, u.sq _ _ sq_lst e3, RepAll.up (hide_up u) e4⟩, S.sl.one⟩, f⟩
theorem hid_lst (S : Sl p H0 P0 H ρ σ) (u : Up H H') {b : Addr} (h : Hid P0 ρ σ b) : Hid P0 (settle vs ρ) σ b ∨ ∃ xs, H' b = some (.lst xs) := by
  rcases h with h | ⟨i, ⟨ds, h1⟩, h2⟩
  · exact .inl (.inl h)
  · obtain ⟨a, xs, e1, e2, e3, e4⟩ := S.own i ds h1
    rw [h2] at e1
    cases e1
    exact .inr ⟨xs, u.sq _ _ sq_lst e3⟩
/-- behind an expression: the frame, and its value -/
theorem StR.behind (S : StR p H0 P0 H ρ φ σ) (u : Up H H') (f : FO p φ' (hide (Hid P0 (settle vs ρ) σ) H')) (r : RepE p (Hid P0 (settle vs ρ) σ) H H' e v) :
    FO p φ' (hide (Hid P0 (aft vs e ρ) σ) H') ∧ RepE p (Hid P0 (aft vs e ρ) σ) H H' e v ∧ StR p H0 P0 H (aft vs e ρ) φ σ := by
  unfold aft
  by_cases hl : lfE e = true
  · rw [if_pos hl]
    refine ⟨f.see S.fo.nfa.1 S.fo.nca.1, ?_, S⟩
    have tups : ∀ (Z : Addr → Prop) a o xs, hide (fun b => Hid P0 (settle vs ρ) σ b ∨ Z b) H' a = some (.frz o (.tup xs)) → hide (fun b => Hid P0 ρ σ b ∨ Z b) H' a = some (.frz o (.tup xs)) := fun Z a o xs h => by
      obtain ⟨h1, h2⟩ := hide_of h
      rw [hide_eq fun z => ?_]
      · exact h2
      · rcases z with z | z
        · rcases hid_lst (vs := vs) S.sl u z with z | ⟨ys, z⟩
          · exact h1 (.inl z)
          · rw [z] at h2; cases h2
        · exact h1 (.inr z)
    have noZ : ∀ (Q : Addr → Prop), hide (fun b => Q b ∨ False) H' = hide Q H' := fun Q => by
      congr 1
      funext b
      exact propext ⟨fun z => z.elim id False.elim, .inl⟩
    cases e with
    | dat d =>
      refine Rep.lf (fun a o xs h => ?_) hl r
      have := tups (fun _ => False) a o xs (by rw [noZ]; exact h)
      rw [noZ] at this
      exact this
    | own ds =>
      obtain ⟨a, xs, rfl, h1, h2, h3⟩ := r
      exact ⟨a, xs, rfl, h1, h2, RepAll.lf (tups fun b => b = a) hl h3⟩
  · rw [if_neg hl]
    exact ⟨f, r, S.settled vs⟩
/-- more in sight -/
theorem RepE.less {P P' : Addr → Prop} (h : RepE p P H H' e v) (s : ∀ b, P' b → P b) : RepE p P' H H' e v := by
  cases e with
  | dat d => exact Rep.up (fun a o _ z => hide_less s a o z) h
  | own ds =>
    obtain ⟨a, xs, rfl, h1, h2, h3⟩ := h
    exact ⟨a, xs, rfl, h1, h2, RepAll.up (fun b o _ z => hide_less (fun c w => w.imp (s c) id) b o z) h3⟩
/-- the address of an own list -/
def OwnV : EV → V → Addr → Prop
  | .own _, v, a => v = .ref a
  | .dat _, _, _ => False
theorem hid_set {i : Nat} {b : Addr} (h : Hid P0 (ρ.set i (some e)) (σ.set i (some v)) b) : Hid P0 ρ σ b ∨ OwnV e v b := by
  rcases h with h | ⟨j, ⟨ds, h1⟩, h2⟩
  · exact .inl (.inl h)
  · by_cases hj : i = j
    · subst hj
      rw [List.getElem?_set] at h1 h2
      split at h1
      · split at h1
        · cases h1
          split at h2
          · split at h2
            · cases h2; exact .inr rfl
            · cases h2
          · rename_i z; exact absurd rfl z
        · cases h1
      · rename_i z; exact absurd rfl z
    · rw [List.getElem?_set_ne hj] at h1 h2
      exact .inl (.inr ⟨j, ⟨ds, h1⟩, h2⟩)
/-- a slot is stored -/
theorem Sl.set (S : Sl p H0 P0 H ρ σ) {i : Nat} (u : Up H H') (r : RepE p (Hid P0 ρ σ) H H' e v) : Sl p H0 P0 H' (ρ.set i (some e)) (σ.set i (some v)) := by
  have nw : ∀ b, Hid P0 (ρ.set i (some e)) (σ.set i (some v)) b → Hid P0 ρ σ b ∨ H b = none := fun b h => by
    rcases hid_set h with h | h
    · exact .inl h
    · cases e with
      | dat d => exact h.elim
      | own ds =>
        obtain ⟨a, xs, rfl, h1, _⟩ := r
        cases h
        exact .inr h1
  have sn := later u nw
  have fresh : ∀ {a : Addr}, OwnV e v a → H a = none ∧ ∃ xs, H' a = some (.lst xs) := fun {a} h => by
    cases e with
    | dat d => exact h.elim
    | own ds =>
      obtain ⟨a', xs, rfl, h1, h2, _⟩ := r
      cases h
      exact ⟨h1, xs, h2⟩
  have oldA : ∀ {j a}, OwnS ρ σ j a → ∃ xs, H a = some (.lst xs) := fun {j a} h => by
    obtain ⟨⟨ds, h1⟩, h2⟩ := h
    obtain ⟨a', xs, e1, _, e3, _⟩ := S.own j ds h1
    rw [h2] at e1
    cases e1
    exact ⟨xs, e3⟩
  have cases_own : ∀ {j a}, OwnS (ρ.set i (some e)) (σ.set i (some v)) j a → (j ≠ i ∧ OwnS ρ σ j a) ∨ (j = i ∧ OwnV e v a) := fun {j a} h => by
    obtain ⟨⟨ds, h1⟩, h2⟩ := h
    by_cases hj : i = j
    · subst hj
      rw [List.getElem?_set] at h1 h2
      split at h1
      · split at h1
        · cases h1
          split at h2
          · split at h2
            · cases h2; exact .inr ⟨rfl, rfl⟩
            · cases h2
          · rename_i z; exact absurd rfl z
        · cases h1
      · rename_i z; exact absurd rfl z
    · rw [List.getElem?_set_ne hj] at h1 h2
      exact .inl ⟨fun z => hj z.symm, ⟨ds, h1⟩, h2⟩
  have less_of : ∀ b, Hid P0 (ρ.set i (some e)) (σ.set i (some v)) b → Hid P0 ρ σ b ∨ OwnV e v b := fun b h => hid_set h
  refine ⟨by rw [List.length_set, List.length_set, S.len], S.live, S.up.trans u, fun j d h => ?_, fun j ds h => ?_, fun j k a h1 h2 => ?_⟩
  · by_cases hj : i = j
    · subst hj
      rw [List.getElem?_set] at h
      split at h
      · split at h
        · rename_i hlt
          cases h
          rw [List.getElem?_set_self (by rw [← S.len]; exact hlt)]
          exact ⟨v, rfl, Rep.up (fun a o _ z => hide_less (fun b w => (less_of b w).elim id fun z => z.elim) a o z) r⟩
        · cases h
      · rename_i z; exact absurd rfl z
    · rw [List.getElem?_set_ne hj] at h ⊢
      obtain ⟨v', e1, e2⟩ := S.dat j d h
      exact ⟨v', e1, Rep.up sn e2⟩
  · by_cases hj : i = j
    · subst hj
      rw [List.getElem?_set] at h
      split at h
      · split at h
        · rename_i hlt
          cases h
          rw [List.getElem?_set_self (by rw [← S.len]; exact hlt)]
          obtain ⟨a, xs, rfl, h1, h2, h3⟩ := r
          exact ⟨a, xs, rfl, S.up.no a h1, h2, RepAll.up (fun b o _ z => hide_less (fun c w => (less_of c w).imp id fun z => by cases z; rfl) b o z) h3⟩
        · cases h
      · rename_i z; exact absurd rfl z
    · rw [List.getElem?_set_ne hj] at h ⊢
      obtain ⟨a, xs, e1, e2, e3, e4⟩ := S.own j ds h
      exact ⟨a, xs, e1, e2, u.sq _ _ sq_lst e3, RepAll.up sn e4⟩
  · rcases cases_own h1 with ⟨n1, h1⟩ | ⟨n1, h1⟩ <;> rcases cases_own h2 with ⟨n2, h2⟩ | ⟨n2, h2⟩
    · exact S.one j k a h1 h2
    · obtain ⟨xs, e1⟩ := oldA h1
      rw [(fresh h2).1] at e1; cases e1
    · obtain ⟨xs, e1⟩ := oldA h2
      rw [(fresh h1).1] at e1; cases e1
    · rw [n1, n2]
theorem StR.set (S : StR p H0 P0 H ρ φ σ) {i : Nat} (u : Up H H') (f : FO p φ' (hide (Hid P0 ρ σ) H')) (r : RepE p (Hid P0 ρ σ) H H' e v) : StR p H0 P0 H' (ρ.set i (some e)) φ' (σ.set i (some v)) := by
  refine ⟨S.sl.set u r, f.see (fun z => ?_) fun z => ?_⟩
  · rcases hid_set z with z | z
    · exact S.fo.nfa.1 z
    · cases e with
      | dat d => exact z
      | own ds => obtain ⟨a, xs, rfl, h1, _⟩ := r; cases z; exact S.fo.nfa.2 h1
  · rcases hid_set z with z | z
    · exact S.fo.nca.1 z
    · cases e with
      | dat d => exact z
      | own ds => obtain ⟨a, xs, rfl, h1, _⟩ := r; cases z; exact S.fo.nca.2 h1
theorem seen_set {i : Nat} (u : Up H H') (r : RepE p (Hid P0 ρ σ) H H' e v) : Seen (Hid P0 ρ σ) H (Hid P0 (ρ.set i (some e)) (σ.set i (some v))) H' := later u fun b h => by
  rcases hid_set h with h | h
  · exact .inl h
  · cases e with
    | dat d => exact h.elim
    | own ds =>
      obtain ⟨a, xs, rfl, h1, _⟩ := r
      cases h
      exact .inr h1
theorem seen_less {P P' : Addr → Prop} (s : ∀ b, P' b → P b) : Seen P H P' H := fun a o _ z => hide_less s a o z
theorem seen_up {P : Addr → Prop} (u : Up H H') : Seen P H P H' := hide_up u
theorem aft_less : ∀ b, Hid P0 (aft vs e ρ) σ b → Hid P0 ρ σ b := fun b h => by
  unfold aft at h
  split at h
  · exact h
  · exact hid_settle b h
end
end VI
namespace VI
open PySem PySem.Spec PyProof.Rows L2
def EndOk (p : Pr) (H0 : Hp) (P0 : Addr → Prop) (D : Ends) (P : Addr → Prop) (H : Hp) : Fl × EnvS × FS → Prop
  | (.nx, ρ', φ') => ∀ (σ' : L2.St) (H' : Hp), StR p H0 P0 H' ρ' φ' σ' → Seen P H (Hid P0 ρ' σ') H' → D.nx σ' H'
  | (.bk, ρ', φ') => ∀ (σ' : L2.St) (H' : Hp), StR p H0 P0 H' ρ' φ' σ' → Seen P H (Hid P0 ρ' σ') H' → D.bk σ' H'
  | (.ct, ρ', φ') => ∀ (σ' : L2.St) (H' : Hp), StR p H0 P0 H' ρ' φ' σ' → Seen P H (Hid P0 ρ' σ') H' → D.ct σ' H'
  | (.ret e, _, φ') => ∀ (v : V) (H' : Hp), Up H0 H' → FO p φ' (hide P0 H') → RepE p P0 H0 H' e v → D.rt v H'
def tS (p : Pr) (m : MS) : L2.TS := fun D σ H => ∃ H0 P0 ρ φ r, StR p H0 P0 H ρ φ σ ∧ m ρ φ = .ok r ∧ EndOk p H0 P0 D (Hid P0 ρ σ) H r
def DS (X : Cx) (q : Pk) (st : Stmt) (m : MS) : Prop := PS X st (tS (q.at X.K) m)
def DSs (X : Cx) (q : Pk) (st : List Stmt) (m : MS) : Prop := PSs X st (tS (q.at X.K) m)
theorem ps_imp {X : Cx} {st : Stmt} {t t' : L2.TS} (h : PS X st t) (w : ∀ D σ H, t' D σ H → t D σ H) : PS X st t' := ⟨fun pins s σ H D I z => h.run pins s σ H D I (w _ _ _ z)⟩
theorem pss_imp {X : Cx} {st : List Stmt} {t t' : L2.TS} (h : PSs X st t) (w : ∀ D σ H, t' D σ H → t D σ H) : PSs X st t' := ⟨fun pins s σ H D I z => h.run pins s σ H D I (w _ _ _ z)⟩
theorem EndOk.seen {p : Pr} {H0 : Hp} {P0 : Addr → Prop} {D : Ends} {P P1 : Addr → Prop} {H H1 : Hp} {r : Fl × EnvS × FS} (h : EndOk p H0 P0 D P H r) (s : Seen P H P1 H1) : EndOk p H0 P0 D P1 H1 r := by
  obtain ⟨fl, ρ', φ'⟩ := r
  cases fl with
  | nx => exact fun σ' H' a b => h σ' H' a (s.trans b)
  | bk => exact fun σ' H' a b => h σ' H' a (s.trans b)
  | ct => exact fun σ' H' a b => h σ' H' a (s.trans b)
  | ret e => exact h
def nxM : MS := fun ρ φ => .ok (.nx, ρ, φ)
def badM : MS := fun _ _ => .bad
def seqM (m1 m2 : MS) : MS := fun ρ φ => (m1 ρ φ).bind fun r => match r.1 with
  | .nx => m2 r.2.1 r.2.2
  | _ => .ok r
section
variable {X : Cx} {q : Pk} {st : Stmt} {rest : List Stmt} {m m1 m2 : MS} {pos : Pos}
theorem dss_nil : DSs X q [] nxM := pss_imp pss_nil fun D σ H w => by
  obtain ⟨H0, P0, ρ, φ, r, S, h, k⟩ := w
  cases h
  exact k σ H S fun _ _ _ z => z
theorem dss_one (h : DS X q st m) : DSs X q [st] m := pss_one h
theorem dss_cons (h1 : DS X q st m1) (h2 : DSs X q rest m2) : DSs X q (st :: rest) (seqM m1 m2) := pss_imp (pss_cons h1 h2) fun D σ H w => by
  obtain ⟨H0, P0, ρ, φ, r, S, h, k⟩ := w
  obtain ⟨⟨fl, ρ1, φ1⟩, h1, h⟩ := Res.bind_ok h
  refine ⟨H0, P0, ρ, φ, (fl, ρ1, φ1), S, h1, ?_⟩
  cases fl with
  | nx => exact fun σ1 H1 S1 s1 => ⟨H0, P0, ρ1, φ1, r, S1, h, k.seen s1⟩
  | bk => cases h; exact k
  | ct => cases h; exact k
  | ret e => cases h; exact k
/-- what is never come to -/
theorem ds_bad : DS X q st badM := ps_imp ps_never fun D σ H w => by
  obtain ⟨H0, P0, ρ, φ, r, S, h, k⟩ := w
  cases h
theorem ds_pass : DS X q (.Pass pos) nxM := ps_imp ps_pass fun D σ H w => by
  obtain ⟨H0, P0, ρ, φ, r, S, h, k⟩ := w
  cases h
  exact k σ H S fun _ _ _ z => z
def bkM : MS := fun ρ φ => .ok (.bk, ρ, φ)
def ctM : MS := fun ρ φ => .ok (.ct, ρ, φ)
theorem ds_break : DS X q (.Break pos) bkM := ps_imp ps_break fun D σ H w => by
  obtain ⟨H0, P0, ρ, φ, r, S, h, k⟩ := w
  cases h
  exact k σ H S fun _ _ _ z => z
theorem ds_continue : DS X q (.Continue pos) ctM := ps_imp ps_continue fun D σ H w => by
  obtain ⟨H0, P0, ρ, φ, r, S, h, k⟩ := w
  cases h
  exact k σ H S fun _ _ _ z => z
def ifS (vs : List Nat) (mt : MT) (ma mb : MS) : MS := fun ρ φ => (mt (soft vs ρ) φ).bind fun r => if r.1 = true then ma ρ r.2 else mb ρ r.2
variable {c e : Expr} {a b : List Stmt} {mt : MT} {ma mb : MS} {me : ME}
theorem ds_if (vs : List Nat) (hc : DT X q c mt) (ha : DSs X q a ma) (hb : DSs X q b mb) : DS X q (.If c a b pos) (ifS vs mt ma mb) := ps_imp (ps_if hc ha hb) fun D σ H w => by
  obtain ⟨H0, P0, ρ, φ, r, S, h, k⟩ := w
  obtain ⟨⟨c1, φ1⟩, h1, h⟩ := Res.bind_ok h
  refine ⟨_, _, _, c1, φ1, S.moment vs, h1, fun H1 u1 f1 => ?_⟩
  have S1 : StR (q.at X.K) H0 P0 H1 ρ φ1 σ := S.upTo u1 (f1.see S.fo.nfa.1 S.fo.nca.1)
  cases c1 with
  | true => exact ⟨H0, P0, ρ, φ1, r, S1, h, k.seen (seen_up u1)⟩
  | false => exact ⟨H0, P0, ρ, φ1, r, S1, h, k.seen (seen_up u1)⟩
/-- the value is stored -/
def asgM (vs : List Nat) (i : Nat) (me : ME) : MS := fun ρ φ => (me (soft vs ρ) φ).bind fun r => if i < ρ.length then .ok (.nx, (aft vs r.1 ρ).set i (some r.1), r.2) else .bad
theorem ds_asg_of {i : Nat} {te : TE} (vs : List Nat) (h : PS X st (tAsg te (gName i))) (w : ∀ σ H Q, tD (q.at X.K) me σ H Q → te σ H Q) : DS X q st (asgM vs i me) := ps_imp h fun D σ H z => by
  obtain ⟨H0, P0, ρ, φ, r, S, h, k⟩ := z
  obtain ⟨⟨e1, φ1⟩, h1, h⟩ := Res.bind_ok h
  dsimp only at h
  split at h
  · cases h
    refine w σ H _ ⟨_, _, _, e1, φ1, S.moment vs, h1, fun v H1 u1 f1 r1 => ?_⟩
    obtain ⟨f2, r2, S2⟩ := S.behind u1 f1 r1
    exact k _ _ (S2.set u1 f2 r2) ((seen_less aft_less).trans (seen_set u1 r2))
  · cases h
theorem ds_set {i : Nat} {x : Str} {pos' : Pos} (vs : List Nat) (he : DE X q e me) (hN : X.N.Nodup) (hi : X.N[i]? = some x) (hx : Loc X.env.scope x) (hs : swapsWith e (some (.Name x pos')) pos.line X.env = pure false)
    (hf : X.fn x = true ∨ X.env.scope.names.lookup x = some .local) : DS X q (.Assign [.Name x pos'] e pos) (asgM vs i me) :=
  ds_asg_of vs (ps_set hN hi hx he hs hf) fun _ _ _ z => z
def Pn (P : Addr → Prop) (e : EV) (v : V) : Addr → Prop := fun b => P b ∨ OwnV e v b
def RepEs (p : Pr) : (Addr → Prop) → Hp → Hp → List EV → List V → Prop
  | _, _, _, [], vs => vs = []
  | P, H0, H, e :: es, vs => ∃ v r H1, vs = v :: r ∧ Up H0 H1 ∧ Up H1 H ∧ RepE p P H0 H1 e v ∧ RepEs p (Pn P e v) H1 H es r
abbrev MAE := Env' → FS → Res (List EV × FS)
def tDAE (p : Pr) (m : MAE) : TA := fun σ H Q => ∃ P ρ φ es φ', At p P H ρ φ σ ∧ m ρ φ = .ok (es, φ') ∧ ∀ vs H', Up H H' → FO p φ' (hide P H') → RepEs p P H H' es vs → Q vs H'
def DAE (X : Cx) (q : Pk) (es : List Expr) (m : MAE) : Prop := PA X es (tDAE (q.at X.K) m)
def nilE : MAE := fun _ φ => .ok ([], φ)
def consE (m : ME) (ms : MAE) : MAE := fun ρ φ => (m ρ φ).bind fun r => (ms ρ r.2).bind fun r2 => .ok (r.1 :: r2.1, r2.2)
variable {es : List Expr} {ms : MAE}
theorem dae_nil : DAE X q [] nilE := pa_nil.imp fun σ H Q w => by
  obtain ⟨P, ρ, φ, e, φ', a, h, k⟩ := w
  cases h
  exact k [] H (Up.refl H) a.fo rfl
theorem dae_cons (ha : DE X q e me) (hs : DAE X q es ms) (hst : starEach (e :: es) X.env = (false, eval e X.env) :: starEach es X.env) : DAE X q (e :: es) (consE me ms) := (pa_cons ha hs hst).imp fun σ H Q w => by
  obtain ⟨P, ρ, φ, e, φ', a, h, k⟩ := w
  obtain ⟨⟨e1, φ1⟩, h1, h⟩ := Res.bind_ok h
  obtain ⟨⟨e2, φ2⟩, h2, h⟩ := Res.bind_ok h
  cases h
  refine part a h1 fun v H1 a1 u1 r1 => ?_
  have nw : ∀ b, Pn P e1 v b → P b ∨ H b = none := fun b hb => by
    rcases hb with hb | hb
    · exact .inl hb
    · cases e1 with
      | dat d => exact hb.elim
      | own ds => obtain ⟨c, xs, rfl, g1, _⟩ := r1; cases hb; exact .inr g1
  have lv : Live (Pn P e1 v) H1 := fun b hb => by
    rcases hb with hb | hb
    · exact a1.live b hb
    · cases e1 with
      | dat d => exact hb.elim
      | own ds => obtain ⟨c, xs, rfl, _, g2, _⟩ := r1; cases hb; rw [g2]; intro z; cases z
  have f2 : FO (q.at X.K) φ1 (hide (Pn P e1 v) H1) := a1.fo.see (fun z => (nw _ z).elim a.fo.nfa.1 a.fo.nfa.2) fun z => (nw _ z).elim a.fo.nca.1 a.fo.nca.2
  refine ⟨Pn P e1 v, ρ, φ1, e2, φ2, ⟨lv, a.env.up (later u1 nw), f2⟩, h2, fun vs H2 u2 f3 r2 => ?_⟩
  exact k (v :: vs) H2 (u1.trans u2) (f3.less fun b z => .inl z) ⟨v, vs, H1, rfl, u1, u2, r1, r2⟩
theorem RepEs.less {p : Pr} : ∀ {es : List EV} {vs : List V} {P P' : Addr → Prop} {H0 H : Hp}, RepEs p P H0 H es vs → (∀ b, P' b → P b) → RepEs p P' H0 H es vs
  | [], _, _, _, _, _, h, _ => h
  | _ :: _, _, _, _, _, _, h, s => by
    obtain ⟨v, r, H1, rfl, u0, u1, r1, r2⟩ := h
    exact ⟨v, r, H1, rfl, u0, u1, r1.less s, r2.less fun b z => z.imp (s b) id⟩
def setsE : List Nat → List EV → EnvS → EnvS
  | i :: is, e :: es, ρ => setsE is es (ρ.set i (some e))
  | _, _, ρ => ρ
def setsV : List Nat → List V → L2.St → L2.St
  | i :: is, v :: vs, σ => setsV is vs (σ.set i (some v))
  | _, _, σ => σ
theorem Sl.sets {p : Pr} {H0 : Hp} {P0 : Addr → Prop} : ∀ {is : List Nat} {es : List EV} {vs : List V} {H H' : Hp} {ρ : EnvS} {σ : L2.St}, Sl p H0 P0 H ρ σ → Up H H' → RepEs p (Hid P0 ρ σ) H H' es vs → is.length = es.length →
    Sl p H0 P0 H' (setsE is es ρ) (setsV is vs σ) ∧ ∀ b, Hid P0 (setsE is es ρ) (setsV is vs σ) b → Hid P0 ρ σ b ∨ H b = none
  | [], [], vs, H, H', ρ, σ, S, u, r, _ => by
    cases r
    refine ⟨⟨S.len, S.live, S.up.trans u, fun i d h => ?_, fun i ds h => ?_, S.one⟩, fun b h => .inl h⟩
    · obtain ⟨v, e1, e2⟩ := S.dat i d h
      exact ⟨v, e1, Rep.up (hide_up u) e2⟩
    · obtain ⟨a, xs, e1, e2, e3, e4⟩ := S.own i ds h
      exact ⟨a, xs, e1, e2, u.sq _ _ sq_lst e3, RepAll.up (hide_up u) e4⟩
  | [], _ :: _, _, _, _, _, _, _, _, _, h => by cases h
  | _ :: _, [], _, _, _, _, _, _, _, _, h => by cases h
  | i :: is, e :: es, vs, H, H', ρ, σ, S, u, r, hl => by
    obtain ⟨v, r', H1, rfl, u0, u1, r1, r2⟩ := r
    have S1 := S.set (i := i) u0 r1
    obtain ⟨S2, n2⟩ := Sl.sets (is := is) S1 u1 (r2.less fun b z => hid_set z) (Nat.succ.inj hl)
    refine ⟨S2, fun b h => ?_⟩
    rcases n2 b h with h | h
    · rcases hid_set h with h | h
      · exact .inl h
      · cases e with
        | dat d => exact h.elim
        | own ds => obtain ⟨c, xs, rfl, g1, _⟩ := r1; cases h; exact .inr g1
    · exact .inr (u0.no b h)
/-- behind several stores -/
theorem StR.sets {p : Pr} {H0 : Hp} {P0 : Addr → Prop} {is : List Nat} {es : List EV} {vs : List V} {H H' : Hp} {ρ : EnvS} {φ φ' : FS} {σ : L2.St} (S : StR p H0 P0 H ρ φ σ) (u : Up H H') (r : RepEs p (Hid P0 ρ σ) H H' es vs) (hl : is.length = es.length)
    (f : FO p φ' (hide (Hid P0 ρ σ) H')) : StR p H0 P0 H' (setsE is es ρ) φ' (setsV is vs σ) ∧ Seen (Hid P0 ρ σ) H (Hid P0 (setsE is es ρ) (setsV is vs σ)) H' := by
  obtain ⟨S1, n1⟩ := S.sl.sets (is := is) u r hl
  exact ⟨⟨S1, f.see (fun z => (n1 _ z).elim S.fo.nfa.1 S.fo.nfa.2) fun z => (n1 _ z).elim S.fo.nca.1 S.fo.nca.2⟩, later u n1⟩
def parM (vs is : List Nat) (ms : MAE) : MS := fun ρ φ => (ms (soft vs ρ) φ).bind fun r => if is.length = r.1.length then .ok (.nx, setsE is r.1 (settle vs ρ), r.2) else .bad
theorem ds_par_of {t : L2.TS} {is : List Nat} (vs : List Nat) (h : PS X st t) (w : ∀ (D : Ends) (σ : L2.St) (H : Hp), tDAE (q.at X.K) ms σ H (fun xs H1 => xs.length = is.length ∧ ∀ H2, Ext H1 H2 → D.nx (setsV is xs σ) H2) → t D σ H) :
    DS X q st (parM vs is ms) := ps_imp h fun D σ H z => by
  obtain ⟨H0, P0, ρ, φ, r, S, h, k⟩ := z
  obtain ⟨⟨es, φ1⟩, h1, h⟩ := Res.bind_ok h
  dsimp only at h
  split at h
  · rename_i hl
    cases h
    refine w D σ H ⟨_, _, _, es, φ1, S.moment vs, h1, fun xs H1 u1 f1 r1 => ⟨?_, fun H2 x2 => ?_⟩⟩
    · have : ∀ {es : List EV} {xs : List V} {P : Addr → Prop} {H H1 : Hp}, RepEs (q.at X.K) P H H1 es xs → xs.length = es.length := by
        intro es
        induction es with
        | nil => intro xs P H H1 r; cases r; rfl
        | cons e es ih => intro xs P H H1 r; obtain ⟨v, r', H2, rfl, _, _, _, r2⟩ := r; rw [List.length_cons, List.length_cons, ih r2]
      rw [this r1, hl]
    · have ups : ∀ {es : List EV} {xs : List V} {P : Addr → Prop} {H : Hp}, RepEs (q.at X.K) P H H1 es xs → RepEs (q.at X.K) P H H2 es xs := by
        intro es
        induction es with
        | nil => intro xs P H r; exact r
        | cons e es ih => intro xs P H r; obtain ⟨v, r', H3, rfl, a1, a2, a3, r2⟩ := r; exact ⟨v, r', H3, rfl, a1, a2.trans x2.up, a3, ih r2⟩
      obtain ⟨S2, s2⟩ := (S.settled vs).sets (is := is) (u1.trans x2.up) (ups r1) hl (f1.ext (hide_ext x2))
      exact k _ _ S2 ((seen_less hid_settle).trans s2)
  · cases h
theorem setsV_gAll {D : Ends} : ∀ {is : List Nat} {xs : List V} {σ : L2.St} {H : Hp}, xs.length = is.length → D.nx (setsV is xs σ) H → gAll is xs σ H D.nx
  | [], [], _, _, _, h => ⟨rfl, h⟩
  | [], _ :: _, _, _, h, _ => by cases h
  | _ :: _, [], _, _, h, _ => by cases h
  | i :: is, x :: xs, σ, H, h, k => ⟨x, xs, rfl, setsV_gAll (is := is) (Nat.succ.inj h) k⟩
/-- a, b = x, y of locals -/
theorem ds_par2 {i j : Nat} {x y : Str} {a b : Expr} {px py pt : Pos} {kt k2 pt2} (vs : List Nat) (hc : X.calm = true) (hN : X.N.Nodup) (hi : X.N[i]? = some x) (hj : X.N[j]? = some y) (hij : i ≠ j)
    (hx : X.env.scope.names.lookup x = some .local) (hy : X.env.scope.names.lookup y = some .local) (ha : DAE X q [a, b] ms)
    (hw : swappedStores [.Tuple [.Name x px, .Name y py] kt pt] (.Tuple [a, b] k2 pt2) X.env = pure (some [x, y]))
    (hs : swapsWithSole [.Tuple [.Name x px, .Name y py] kt pt] (.Tuple [a, b] k2 pt2) pos.line X.env = pure false := by rfl) :
    DS X q (.Assign [.Tuple [.Name x px, .Name y py] kt pt] (.Tuple [a, b] k2 pt2) pos) (parM vs [i, j] ms) :=
  ds_par_of vs (ps_par hc hN hi hj hij hx hy ha hw hs) fun D σ H w => by
    obtain ⟨P, ρ, φ, es, φ', a, h, k⟩ := w
    refine ⟨P, ρ, φ, es, φ', a, h, fun xs H1 u f r => ?_⟩
    obtain ⟨hl, kk⟩ := k xs H1 u f r
    match xs, hl with
    | [v1, v2], _ => exact ⟨v1, v2, rfl, kk H1 (Ext.refl H1)⟩
theorem ds_par3 {i j l : Nat} {x y z : Str} {a b c : Expr} {px py pz pt : Pos} {kt k2 pt2} (vs : List Nat) (hc : X.calm = true) (hN : X.N.Nodup) (hi : X.N[i]? = some x) (hj : X.N[j]? = some y) (hl : X.N[l]? = some z) (hij : i ≠ j) (hil : i ≠ l) (hjl : j ≠ l)
    (hx : X.env.scope.names.lookup x = some .local) (hy : X.env.scope.names.lookup y = some .local) (hz : X.env.scope.names.lookup z = some .local) (ha : DAE X q [a, b, c] ms)
    (hw : swappedStores [.Tuple [.Name x px, .Name y py, .Name z pz] kt pt] (.Tuple [a, b, c] k2 pt2) X.env = pure (some [x, y, z]))
    (hs : swapsWithSole [.Tuple [.Name x px, .Name y py, .Name z pz] kt pt] (.Tuple [a, b, c] k2 pt2) pos.line X.env = pure false := by rfl) :
    DS X q (.Assign [.Tuple [.Name x px, .Name y py, .Name z pz] kt pt] (.Tuple [a, b, c] k2 pt2) pos) (parM vs [i, j, l] ms) :=
  ds_par_of vs (ps_par3 hc hN hi hj hl hij hil hjl hx hy hz ha hw hs) fun D σ H w => by
    obtain ⟨P, ρ, φ, es, φ', a, h, k⟩ := w
    refine ⟨P, ρ, φ, es, φ', a, h, fun xs H1 u f r => ?_⟩
    obtain ⟨hl, kk⟩ := k xs H1 u f r
    match xs, hl with
    | [v1, v2, v3], _ => exact ⟨v1, v2, v3, rfl, kk H1 (Ext.refl H1)⟩
/-- a, b = x, y by a tuple in between -/
theorem ds_parT {tg : Expr} {is : List Nat} {n : Nat} {pt2 : Pos} (vs : List Nat) (ha : DAE X q es ms) (hg : PG X tg (gTup X.K is.length (gAll is))) (hw : swappedStores [tg] (.Tuple es n pt2) X.env = pure none)
    (hs : swapsWithSole [tg] (.Tuple es n pt2) pos.line X.env = pure false) (h1 : (assignEach [tg] X.env).map (·.2) = [assign tg X.env]) (hlen : is.length ≤ 1000) :
    DS X q (.Assign [tg] (.Tuple es n pt2) pos) (parM vs is ms) :=
  ds_par_of vs (ps_asg (pe_tupN ha) hg hs hw h1) fun D σ H w => by
    obtain ⟨P, ρ, φ, es, φ', a, h, k⟩ := w
    refine ⟨P, ρ, φ, es, φ', a, h, fun xs H1 u f r => ?_⟩
    obtain ⟨hl, kk⟩ := k xs H1 u f r
    refine ⟨by rw [hl]; exact Nat.le_of_lt (small1000 hlen), fun t o nt hd => ⟨t, xs, rfl, .inl (.inr ⟨o, upd_same⟩), hl, setsV_gAll hl (kk _ (Ext.new nt))⟩⟩
/-- a, b = a tuple -/
def unpM (vs is : List Nat) (me : ME) : MS := fun ρ φ => (me (soft vs ρ) φ).bind fun r => match r.1 with
  | .dat (.tuple ds) => if is.length = ds.length then .ok (.nx, setsE is (ds.map .dat) (aft vs r.1 ρ), r.2) else .bad
  | _ => .bad
theorem repEs_dats {p : Pr} {P : Addr → Prop} : ∀ {ds : List D} {vs : List V} {H H' : Hp}, Up H H' → RepAll p (hide P H') ds vs → RepEs p P H H' (ds.map .dat) vs
  | [], _, _, _, _, r => r
  | d :: ds, _, H, H', u, r => by
    obtain ⟨v, r', rfl, r1, r2⟩ := r
    refine ⟨v, r', H', rfl, u, Up.refl H', r1, ?_⟩
    have e : Pn P (.dat d) v = P := by
      funext b
      exact propext ⟨fun z => z.elim id False.elim, .inl⟩
    rw [e]
    exact repEs_dats (Up.refl H') r2
theorem ds_unp {tg : Expr} {is : List Nat} (vs : List Nat) (he : DE X q e me) (hg : PG X tg (gTup X.K is.length (gAll is))) (hw : swappedStores [tg] e X.env = pure none)
    (hs : swapsWithSole [tg] e pos.line X.env = pure false) (h1 : (assignEach [tg] X.env).map (·.2) = [assign tg X.env]) : DS X q (.Assign [tg] e pos) (unpM vs is me) := ps_imp (ps_asg he hg hs hw h1) fun D σ H z => by
  obtain ⟨H0, P0, ρ, φ, r, S, h, k⟩ := z
  obtain ⟨⟨e1, φ1⟩, h1, h⟩ := Res.bind_ok h
  dsimp only at h
  split at h
  · rename_i ds
    split at h
    · rename_i hl
      cases h
      refine ⟨_, _, _, _, φ1, S.moment vs, h1, fun v H1 u1 f1 r1 => ?_⟩
      obtain ⟨f2, r2, S2⟩ := S.behind u1 f1 r1
      have r3 := r2
      obtain ⟨t, xs, rfl, g1, g2⟩ := r2
      have ln : xs.length = is.length := by rw [g2.len, hl]
      obtain ⟨S3, s3⟩ := S2.sets (is := is) u1 (repEs_dats u1 g2) (by rw [List.length_map, hl]) f2
      exact ⟨t, xs, rfl, (TupN.at g1 fun c o _ z => (hide_of z).2).sq, ln, setsV_gAll ln (k _ _ S3 ((seen_less aft_less).trans s3))⟩
    · cases h
  · cases h
def retM (vs : List Nat) (me : ME) : MS := fun ρ φ => (me (soft vs ρ) φ).bind fun r => .ok (.ret r.1, ρ, r.2)
theorem ds_ret (vs : List Nat) (he : DE X q e me) : DS X q (.Return (some e) pos) (retM vs me) := ps_imp (ps_ret he) fun D σ H z => by
  obtain ⟨H0, P0, ρ, φ, r, S, h, k⟩ := z
  obtain ⟨⟨e1, φ1⟩, h1, h⟩ := Res.bind_ok h
  cases h
  refine ⟨_, _, _, e1, φ1, S.moment vs, h1, fun v H1 u1 f1 r1 => ?_⟩
  exact k v H1 (S.sl.up.trans u1) (f1.less fun b z => .inl z) ((r1.less fun b z => .inl z).old S.sl.up)
/-- a name is handed back -/
def retV (i : Nat) : MS := fun ρ φ => match ρ[i]? with
  | some (some e) => .ok (.ret e, ρ, φ)
  | _ => .bad
theorem ds_retV {i : Nat} (he : PE X e (tVar i)) : DS X q (.Return (some e) pos) (retV i) := ps_imp (ps_ret he) fun D σ H z => by
  obtain ⟨H0, P0, ρ, φ, r, S, h, k⟩ := z
  unfold retV at h
  split at h
  · rename_i e1 he1
    cases h
    cases e1 with
    | dat d =>
      obtain ⟨v, e2, e3⟩ := S.sl.dat i d he1
      exact ⟨v, e2, k v H S.sl.up (S.fo.less fun b z => .inl z) (Rep.up (fun a o _ z => hide_less (fun b w => .inl w) a o z) e3)⟩
    | own ds =>
      obtain ⟨a, xs, e2, e3, e4, e5⟩ := S.sl.own i ds he1
      refine ⟨.ref a, e2, k _ H S.sl.up (S.fo.less fun b z => .inl z) ⟨a, xs, rfl, e3, e4, RepAll.up (fun b o _ z => hide_less (fun c w => ?_) b o z) e5⟩⟩
      rcases w with w | w
      · exact .inl w
      · rw [w]; exact .inr ⟨i, ⟨ds, he1⟩, e2⟩
  · cases h
def retN : MS := fun ρ φ => .ok (.ret (.dat .none), ρ, φ)
theorem ds_retN : DS X q (.Return none pos) retN := ps_imp ps_retN fun D σ H z => by
  obtain ⟨H0, P0, ρ, φ, r, S, h, k⟩ := z
  cases h
  exact k .non H S.sl.up (S.fo.less fun b z => .inl z) rfl
def dropM (vs : List Nat) (me : ME) : MS := fun ρ φ => (me (soft vs ρ) φ).bind fun r => .ok (.nx, ρ, r.2)
theorem ds_drop (vs : List Nat) (he : DE X q e me) (hs : swapsWith e none pos.line X.env = pure false) : DS X q (.Expr e pos) (dropM vs me) := ps_imp (ps_expr he hs) fun D σ H z => by
  obtain ⟨H0, P0, ρ, φ, r, S, h, k⟩ := z
  obtain ⟨⟨e1, φ1⟩, h1, h⟩ := Res.bind_ok h
  cases h
  refine ⟨_, _, _, e1, φ1, S.moment vs, h1, fun v H1 u1 f1 r1 => ?_⟩
  exact k _ _ (S.upTo u1 (f1.see S.fo.nfa.1 S.fo.nca.1)) (seen_up u1)
def pushAt (i : Nat) (d : D) (ρ : EnvS) : Option EnvS := match ρ[i]? with
  | some (some (.own ds)) => if ds.length < 1000000 then some (ρ.set i (some (.own (ds ++ [d])))) else none
  | _ => none
def appendM (vs : List Nat) (i : Nat) (me : ME) : MS := fun ρ φ => (me (soft vs ρ) φ).bind fun r => match pushAt i r.1.toD (aft vs r.1 ρ) with
  | some ρ' => .ok (.nx, ρ', r.2)
  | none => .bad
/-- an own list changes -/
theorem StR.change {p : Pr} {H0 : Hp} {P0 : Addr → Prop} {H : Hp} {ρ : EnvS} {φ : FS} {σ : L2.St} {i : Nat} {ds es : List D} {a : Addr} {ys : List V} (S : StR p H0 P0 H ρ φ σ) (hi : ρ[i]? = some (some (.own ds))) (ha : σ[i]? = some (some (.ref a)))
    (r : RepAll p (hide (Hid P0 ρ σ) H) es ys) : StR p H0 P0 (upd H a (.lst ys)) (ρ.set i (some (.own es))) φ σ ∧ Seen (Hid P0 ρ σ) H (Hid P0 (ρ.set i (some (.own es))) σ) (upd H a (.lst ys)) := by
  have own_iff : ∀ j b, OwnS (ρ.set i (some (.own es))) σ j b ↔ OwnS ρ σ j b := fun j b => by
    have hlt : i < ρ.length := (List.getElem?_eq_some_iff.mp hi).1
    by_cases hj : i = j
    · subst hj
      constructor
      · rintro ⟨_, h2⟩; exact ⟨⟨ds, hi⟩, h2⟩
      · rintro ⟨_, h2⟩; exact ⟨⟨es, List.getElem?_set_self hlt⟩, h2⟩
    · constructor
      · rintro ⟨⟨x, h1⟩, h2⟩; rw [List.getElem?_set_ne hj] at h1; exact ⟨⟨x, h1⟩, h2⟩
      · rintro ⟨⟨x, h1⟩, h2⟩; exact ⟨⟨x, by rw [List.getElem?_set_ne hj]; exact h1⟩, h2⟩
  have hid_eq : Hid P0 (ρ.set i (some (.own es))) σ = Hid P0 ρ σ := by
    funext b
    exact propext ⟨fun z => z.imp id fun ⟨j, h⟩ => ⟨j, (own_iff j b).mp h⟩, fun z => z.imp id fun ⟨j, h⟩ => ⟨j, (own_iff j b).mpr h⟩⟩
  have hidA : Hid P0 ρ σ a := .inr ⟨i, ⟨ds, hi⟩, ha⟩
  have same : hide (Hid P0 ρ σ) (upd H a (.lst ys)) = hide (Hid P0 ρ σ) H := hide_upd hidA
  have n0 : H0 a = none := by
    obtain ⟨a', xs, e1, e2, _⟩ := S.sl.own i ds hi
    rw [ha] at e1
    cases e1
    exact e2
  rw [hid_eq]
  refine ⟨⟨⟨by rw [List.length_set]; exact S.sl.len, S.sl.live, ⟨fun b o s h => ?_, fun b h => ?_⟩, fun j d h => ?_, fun j d h => ?_, fun j k b h1 h2 => S.sl.one j k b ((own_iff j b).mp h1) ((own_iff k b).mp h2)⟩, ?_⟩, ?_⟩
  · have hb : b ≠ a := fun z => by rw [z, n0] at h; cases h
    rw [upd_ne hb]
    exact S.sl.up.sq b o s h
  · have hb : b ≠ a := fun z => by rw [z, upd_same] at h; cases h
    rw [upd_ne hb] at h
    exact S.sl.up.no b h
  · rw [hid_eq, same]
    by_cases hj : i = j
    · subst hj
      rw [List.getElem?_set_self (List.getElem?_eq_some_iff.mp hi).1] at h
      cases h
    · rw [List.getElem?_set_ne hj] at h
      exact S.sl.dat j d h
  · rw [hid_eq, same]
    by_cases hj : i = j
    · subst hj
      rw [List.getElem?_set_self (List.getElem?_eq_some_iff.mp hi).1] at h
      cases h
      exact ⟨a, ys, ha, n0, upd_same, r⟩
    · rw [List.getElem?_set_ne hj] at h
      obtain ⟨b, xs, e1, e2, e3, e4⟩ := S.sl.own j d h
      have hb : b ≠ a := fun z => hj (S.sl.one i j a ⟨⟨ds, hi⟩, ha⟩ ⟨⟨d, h⟩, by rw [← z]; exact e1⟩)
      exact ⟨b, xs, e1, e2, by rw [upd_ne hb]; exact e3, e4⟩
  · rw [hid_eq, same]
    exact S.fo
  · intro b o s h
    rw [same]
    exact h
theorem ds_append {i : Nat} {o : Expr} {apos epos : Pos} (vs : List Nat) (ho : PE X o (tVar i)) (he : DE X q e me)
    (hbase : attributeBase o "append" X.env (eval o X.env) = eval o X.env := by rfl)
    (hfew : ((backTo pos (starEach [e] X.env)).all (fun x => !x.1) && (backToKw pos (keywordEach [] X.env)).all (fun x => x.1.isSome) && decide ([e].length + ([] : List Keyword).length + (if ([] : List Keyword).isEmpty then 0 else 1) < 30)) = true := by rfl)
    (hline : (apos.endLine == pos.line) = true := by rfl) (hs : starEach [e] X.env = (false, eval e X.env) :: starEach [] X.env := by rfl) :
    DS X q (.Expr (.Call (.Attribute o "append" apos) [e] [] pos) epos) (appendM vs i me) :=
  ps_imp (ps_expr (pe_bm PySem.F.plainAttrs_list PySem.F.slot_list_append PySem.F.type_list_append mt_append ho (pa_cons he pa_nil hs) hbase hfew hline hs)) fun D σ H z => by
    obtain ⟨H0, P0, ρ, φ, r, S, h, k⟩ := z
    obtain ⟨⟨e1, φ1⟩, h1, h⟩ := Res.bind_ok h
    dsimp only at h
    split at h
    · rename_i ρ' hp
      cases h
      unfold pushAt at hp
      split at hp
      · rename_i ds hi
        split at hp
        · rename_i hz
          cases hp
          have hi0 : ρ[i]? = some (some (.own ds)) := by
            unfold aft at hi
            split at hi
            · exact hi
            · exact (settle_own hi).1
          obtain ⟨a, xs, e2, e3, e4, e5⟩ := S.sl.own i ds hi0
          refine ⟨.ref a, e2, .inl ⟨rfl, xs, SqL.of e4⟩, _, _, _, e1, φ1, S.moment vs, h1, fun v H1 u1 f1 r1 => ?_⟩
          obtain ⟨f2, r2, S2⟩ := S.behind u1 f1 r1
          have S3 := S2.upTo u1 f2
          obtain ⟨a', xs', g2, g3, g4, g5⟩ := S3.sl.own i ds hi
          rw [e2] at g2
          cases g2
          refine ⟨a, xs', v, rfl, rfl, g4, by rw [g5.len, sizeLine_eq]; omega, ?_⟩
          obtain ⟨S4, s4⟩ := S3.change hi e2 (RepAll.app g5 (RepAll.one (r2.rep S2.sl.liveH)))
          exact k _ _ S4 (((seen_less aft_less).trans (seen_up u1)).trans s4)
        · cases hp
      · cases hp
    · cases h
end
end VI
namespace VI
open PySem PySem.Spec PyProof.Rows L2
def DGS {α : Type} (X : Cx) (p : Pr) (tg : Expr) (R : RI α) (set : α → EnvS → Option EnvS) : Prop :=
  ∃ g, PG X tg g ∧ ∀ (H0 : Hp) (P0 : Addr → Prop) (H : Hp) (ρ : EnvS) (φ : FS) (σ : L2.St) (a : α) (v : V) (ρ' : EnvS) (Q : L2.St → Hp → Prop), StR p H0 P0 H ρ φ σ → R (Hid P0 ρ σ) H a v → set a ρ = some ρ' →
    (∀ σ', StR p H0 P0 H ρ' φ σ' → Seen (Hid P0 ρ σ) H (Hid P0 ρ' σ') H → Q σ' H) → g v σ H Q
def setNS (i : Nat) : D → EnvS → Option EnvS := fun d ρ => if i < ρ.length then some (ρ.set i (some (.dat d))) else none
def setTS (is : List Nat) : D → EnvS → Option EnvS
  | .tuple ds, ρ => if is.length = ds.length then some (setsE is (ds.map .dat) ρ) else none
  | _, _ => none
def setPS (i j : Nat) : D × D → EnvS → Option EnvS := fun d ρ => some (setsE [i, j] [.dat d.1, .dat d.2] ρ)
section
variable {X : Cx} {p : Pr} {tg : Expr} {i j : Nat}
theorem dgs_name (h : PG X tg (gName i)) : DGS X p tg (R1 p) (setNS i) := ⟨_, h, fun H0 P0 H ρ φ σ a v ρ' Q S r s k => by
  unfold setNS at s
  split at s
  · cases s
    have r' : RepE p (Hid P0 ρ σ) H H (.dat a) v := r
    exact k _ (S.set (Up.refl H) S.fo r') (seen_set (Up.refl H) r')
  · cases s⟩
theorem dgs_pair (h : PG X tg (gTup p.K 2 (gCons (gName i) (gCons (gName j) gNil)))) : DGS X p tg (R2 p) (setPS i j) := ⟨_, h, fun H0 P0 H ρ φ σ a v ρ' Q S r s k => by
  cases s
  obtain ⟨T, x, y, rfl, h1, r1, r2⟩ := r
  have ra : RepAll p (hide (Hid P0 ρ σ) H) [a.1, a.2] [x, y] := ⟨x, [y], rfl, r1, y, [], rfl, r2, rfl⟩
  obtain ⟨S1, s1⟩ := S.sets (is := [i, j]) (Up.refl H) (repEs_dats (Up.refl H) ra) rfl S.fo
  exact ⟨T, [x, y], rfl, h1, rfl, x, [y], rfl, y, [], rfl, rfl, k _ S1 s1⟩⟩
theorem dgs_tup {is : List Nat} (h : PG X tg (gTup p.K is.length (gAll is))) : DGS X p tg (R1 p) (setTS is) := ⟨_, h, fun H0 P0 H ρ φ σ a v ρ' Q S r s k => by
  cases a with
  | tuple ds =>
    have s : (if is.length = ds.length then some (setsE is (ds.map .dat) ρ) else none) = some ρ' := s
    split at s
    · rename_i hl
      cases s
      obtain ⟨c, xs, rfl, h1, h2⟩ := r
      obtain ⟨S1, s1⟩ := S.sets (is := is) (Up.refl H) (repEs_dats (Up.refl H) h2) (by rw [List.length_map, hl]) S.fo
      have ln : xs.length = is.length := by rw [h2.len, hl]
      have e : ∀ {is : List Nat} {xs : List V} {σ : L2.St}, xs.length = is.length → Q (setsV is xs σ) H → gAll is xs σ H Q := by
        intro is
        induction is with
        | nil => intro xs σ hl q; cases xs with
          | nil => exact ⟨rfl, q⟩
          | cons x xs => cases hl
        | cons i is ih => intro xs σ hl q; cases xs with
          | nil => cases hl
          | cons x xs => exact ⟨x, xs, rfl, ih (Nat.succ.inj hl) q⟩
      exact ⟨c, xs, rfl, (TupN.at h1 fun b o _ z => (hide_of z).2).sq, ln, e ln (k _ S1 s1)⟩
    · cases s
  | none => cases s
  | bool b => cases s
  | int i => cases s
  | str x => cases s
  | list ds => cases s
  | dict kv => cases s⟩
end
def forGo {α : Type} (set : α → EnvS → Option EnvS) (mb : MS) : List α → EnvS → FS → Res (Fl × EnvS × FS)
  | [], ρ, φ => .ok (.nx, ρ, φ)
  | a :: as, ρ, φ => match set a ρ with
    | none => .bad
    | some ρ1 => (mb ρ1 φ).bind fun r => match r.1 with
      | .nx => forGo set mb as r.2.1 r.2.2
      | .ct => forGo set mb as r.2.1 r.2.2
      | .bk => .ok (.nx, r.2)
      | .ret e => .ok (.ret e, r.2)
def forM {α : Type} (vs : List Nat) (mi : MI α) (set : α → EnvS → Option EnvS) (mb : MS) : MS := fun ρ φ => (mi (soft vs ρ) φ).bind fun r => forGo set mb r.1 (settle vs ρ) r.2
section
variable {X : Cx} {q : Pk} {tg iter : Expr} {body : List Stmt} {pos : Pos} {α : Type} {R : RI α} {mi : MI α} {set : α → EnvS → Option EnvS} {mb : MS}
theorem ds_for (vs : List Nat) (hp : PassesOwn (model X.prog X.w) X.A X.env X.xe) (hc : X.calm = true) (hi : DI X q tg iter R mi) (hg : DGS X (q.at X.K) tg R set) (hb : DSs X q body mb) (hs : ∀ x, foldedSetIterable iter X.env x = pure x) :
    DS X q (.For tg iter body [] pos) (forM vs mi set mb) := by
  obtain ⟨wi, h1, h2⟩ := hi
  obtain ⟨g, h3, h4⟩ := hg
  refine ps_imp (ps_for hp hc h1 h3 hb hs) fun D σ H z => ?_
  obtain ⟨H0, P0, ρ, φ, r, S, h, k⟩ := z
  obtain ⟨⟨as, φ1⟩, e1, h⟩ := Res.bind_ok h
  dsimp only at h
  refine h2 σ H _ ⟨_, _, _, as, φ1, S.moment vs, e1, fun J H1 u1 f1 it => ?_⟩
  have S1 : StR (q.at X.K) H0 P0 H1 (settle vs ρ) φ1 σ := (S.settled vs).upTo u1 f1
  have s1 : Seen (Hid P0 ρ σ) H (Hid P0 (settle vs ρ) σ) H1 := (seen_less hid_settle).trans (seen_up u1)
  refine ⟨fun i m σc Hc => m = as.length - i ∧ i ≤ as.length ∧ ∃ ρc φc, StR (q.at X.K) H0 P0 Hc ρc φc σc ∧ Seen (Hid P0 (settle vs ρ) σ) H1 (Hid P0 ρc σc) Hc ∧ forGo set mb (as.drop i) ρc φc = .ok r,
    ⟨as.length, by omega, Nat.zero_le _, settle vs ρ, φ1, S1, fun _ _ _ z => z, by rw [List.drop_zero]; exact h⟩, ?_⟩
  rintro i m σc Hc ⟨rfl, hi, ρc, φc, Sc, sc, hgo⟩
  obtain ⟨go, stop⟩ := it i Hc (Hid P0 ρc σc) sc
  by_cases hlt : i < as.length
  · obtain ⟨go1, go2⟩ := go as[i] (List.getElem?_eq_getElem hlt)
    rw [List.drop_eq_getElem_cons hlt] at hgo
    unfold forGo at hgo
    split at hgo
    · cases hgo
    · rename_i ρ1 hset
      obtain ⟨⟨fl, ρ2, φ2⟩, h3, hgo⟩ := Res.bind_ok hgo
      dsimp only at hgo
      refine .inr ⟨go1, fun σn Hn => ∃ ρc φc, StR (q.at X.K) H0 P0 Hn ρc φc σn ∧ Seen (Hid P0 (settle vs ρ) σ) H1 (Hid P0 ρc σn) Hn ∧ forGo set mb (as.drop (i + 1)) ρc φc = .ok r,
        fun σn Hn hn => ⟨as.length - (i + 1), by omega, rfl, hlt, hn⟩, fun x H2 hy => ?_⟩
      obtain ⟨x2, rx⟩ := go2 x H2 hy
      have S2 : StR (q.at X.K) H0 P0 H2 ρc φc σc := Sc.upTo x2.up (Sc.fo.ext (hide_ext x2))
      refine h4 H0 P0 H2 ρc φc σc as[i] x ρ1 _ S2 rx hset fun σ3 S3 s3 => ?_
      have s4 := (sc.trans (seen_up x2.up)).trans s3
      refine ⟨H0, P0, ρ1, φc, (fl, ρ2, φ2), S3, h3, ?_⟩
      cases fl with
      | nx => exact fun σ5 H5 S5 s5 => ⟨ρ2, φ2, S5, s4.trans s5, hgo⟩
      | ct => exact fun σ5 H5 S5 s5 => ⟨ρ2, φ2, S5, s4.trans s5, hgo⟩
      | bk =>
        cases hgo
        exact fun σ5 H5 S5 s5 => k σ5 H5 S5 ((s1.trans s4).trans s5)
      | ret e =>
        cases hgo
        exact fun v H5 u5 f5 r5 => k v H5 u5 f5 r5
  · have ei : i = as.length := by omega
    subst ei
    rw [List.drop_length] at hgo
    cases hgo
    exact .inl ⟨stop (Nat.le_refl _), k σc Hc Sc (s1.trans sc)⟩
end
def startS (n : Nat) (ds : List D) : EnvS := ds.map (fun d => some (.dat d)) ++ List.replicate (n - ds.length) none
def fnM (n : Nat) (mb : MS) : MF := fun ds φ => (mb (startS n ds) φ).bind fun r => match r.1 with
  | .ret e => .ok (e, r.2.2)
  | .nx => .ok (.dat .none, r.2.2)
  | _ => .bad
theorem start_dat {n : Nat} {ds : List D} {i : Nat} {x : EV} (h : (startS n ds)[i]? = some (some x)) : ∃ d, ds[i]? = some d ∧ x = .dat d := by
  unfold startS at h
  by_cases hi : i < ds.length
  · rw [List.getElem?_append_left (by rw [List.length_map]; exact hi), List.getElem?_map, List.getElem?_eq_getElem hi] at h
    cases h
    exact ⟨_, List.getElem?_eq_getElem hi, rfl⟩
  · rw [List.getElem?_append_right (by rw [List.length_map]; omega), List.getElem?_replicate] at h
    split at h <;> cases h
theorem start_val {N : List Str} {vs : List V} {i : Nat} {v : V} (h : vs[i]? = some v) : (L2.start N vs)[i]? = some (some v) := by
  unfold L2.start
  have hi := (List.getElem?_eq_some_iff.mp h).1
  rw [List.getElem?_append_left (by rw [List.length_map]; exact hi), List.getElem?_map, h]
  rfl
theorem stR_start {p : Pr} {H : Hp} {P : Addr → Prop} {N : List Str} {ds : List D} {vs : List V} {φ : FS} (l : Live P H) (f : FO p φ (hide P H)) (r : RepAll p (hide P H) ds vs) (hn : vs.length ≤ N.length) : StR p H P H (startS N.length ds) φ (L2.start N vs) := by
  have noown : ∀ i a, ¬ OwnS (startS N.length ds) (L2.start N vs) i a := fun i a ⟨⟨es, h⟩, _⟩ => by
    obtain ⟨d, _, e⟩ := start_dat h
    cases e
  have hid : Hid P (startS N.length ds) (L2.start N vs) = P := by
    funext b
    exact propext ⟨fun z => z.elim id fun ⟨i, h⟩ => (noown i b h).elim, .inl⟩
  refine ⟨⟨?_, l, Up.refl H, fun i d h => ?_, fun i es h => ?_, fun i j a h => (noown i a h).elim⟩, by rw [hid]; exact f⟩
  · unfold startS L2.start
    rw [List.length_append, List.length_append, List.length_map, List.length_map, List.length_replicate, List.length_replicate, r.len]
  · rw [hid]
    obtain ⟨d', h1, e⟩ := start_dat h
    cases e
    obtain ⟨v, h2, h3⟩ := r.get h1
    exact ⟨v, start_val h2, h3⟩
  · obtain ⟨d, _, e⟩ := start_dat h
    cases e
/-- a def keeps what its body says over data -/
theorem fn_D {P : Program} {w : World} {K : PySem.W.Frag} {mg : Str → Option Value} {base : Heap} {k : Nat} {x qual : Str} {st : Stmt} {f : Addr} {fd : FuncData} {N ps : List Str} {k2 k3 k4 : Str} {mb : MS} {n : Nat}
    (F : Fun K x qual st f fd) (S : FnScope N ps (defScope st)) (hn : ps.length = n)
    (body : ∀ (fa ca : Addr) (cdv : Value) (A : Around) (outer : List Env) (s : Shared) (H : Hp) (E : XK), A.guards = some [] → Room k (A.deeper (envOfC qual (defScope st) s.heap.objs.size f cdv)) →
      DSs (cxOf CX0 P w K mg base N qual (defScope st) f cdv A outer s H E).nox ⟨fa, ca, k2, k3, k4⟩ (defBody st) mb) :
    FnG P w K mg base CX0 (k + 1) f fd ps (spF K k2 k3 k4 n (fnM N.length mb)) := by
  refine fnG_of F S (fun vs H Q E h => (spF_len vs H Q E h).trans hn.symm) fun cdv A outer s H vs Q E hg hr h => ?_
  obtain ⟨fa, ca, P1, φ, ds, e, φ', hl, l, fo, ra, hm, kk⟩ := h
  refine ⟨_, (body fa ca cdv A outer s H E hg hr).nox, ?_⟩
  have hN : vs.length ≤ N.length := by
    have h1 : vs.length = ps.length := by rw [ra.len, hl, hn]
    have h2 := congrArg List.length S.pre
    rw [List.length_take] at h2
    omega
  have S0 : StR ⟨K, fa, ca, k2, k3, k4⟩ H P1 H (startS N.length ds) φ (L2.start N vs) := stR_start l fo ra hN
  unfold fnM at hm
  obtain ⟨⟨fl, ρ1, φ1⟩, h1, hm⟩ := Res.bind_ok hm
  refine ⟨H, P1, startS N.length ds, φ, (fl, ρ1, φ1), S0, h1, ?_⟩
  cases fl with
  | ret e1 => cases hm; exact fun v H' u f r => kk v H' u f r
  | nx =>
    cases hm
    exact fun σ' H' S' _ => kk .non H' S'.sl.up (S'.fo.less fun b z => .inl z) rfl
  | bk => cases hm
  | ct => cases hm
end VI
namespace VI
open PySem PySem.Spec PyProof.Rows L2
theorem _root_.L2.Fun.nb {K : PySem.W.Frag} {x qual : Str} {st : Stmt} {f : Addr} {fd : FuncData} {ps ks : List Str} {is : List Nat} (F : Fun K x qual st f fd)
    (h : ∀ (kV doc pm : Value) (an : Option Addr) (cdv ct : Value) (ws : List Value), ws.length = ks.length → bindArgs (PySem.W.fnOf x qual (defArgs st) (defBody st) (defScope st) .none kV doc pm an cdv ct) ⟨[], ks.zip ws⟩ = pure (ps.zip (pick is ws))) : NBinds fd ps ks is := by
  obtain ⟨oc, od, kV, doc, pm, an, cdv, ct, osl, rfl, lk, hcd⟩ := F.ex
  exact fun s ws hl => .of_eq (h kV doc pm an cdv ct ws hl)
section
variable {k : Nat} {A : Around}
theorem r64 (r : Room k A) : A.units + 64 < cLine := r.units
theorem r65 (r : Room k A) : A.units + 65 < cLine := by have := r.un; omega
theorem r66 (r : Room k A) : A.units + 66 < cLine := by have := r.un; omega
end
theorem bt_len : bootBuiltins "len" = some (.builtin "len") := by decide +kernel
theorem bt_all : bootBuiltins "all" = some (.builtin "all") := by decide +kernel
theorem bt_any : bootBuiltins "any" = some (.builtin "any") := by decide +kernel
theorem bt_sum : bootBuiltins "sum" = some (.builtin "sum") := by decide +kernel
theorem bt_min : bootBuiltins "min" = some (.builtin "min") := by decide +kernel
theorem bt_repr : bootBuiltins "repr" = some (.builtin "repr") := by decide +kernel
theorem bt_sorted : bootBuiltins "sorted" = some (.builtin "sorted") := by decide +kernel
theorem bt_tuple : bootBuiltins "tuple" = some (.type "tuple") := by decide +kernel
theorem bt_list : bootBuiltins "list" = some (.type "list") := by decide +kernel
theorem bt_int : bootBuiltins "int" = some (.type "int") := by decide +kernel
theorem bt_str : bootBuiltins "str" = some (.type "str") := by decide +kernel
theorem bt_bool : bootBuiltins "bool" = some (.type "bool") := by decide +kernel
theorem bt_set : bootBuiltins "set" = some (.type "set") := by decide +kernel
section
variable {X : Cx} {q : Pk} {st : Stmt} {pos : Pos} {e : Expr} {me : ME} {es : List Expr} {ms : MAE} {vs : List Nat}
/-- stored as a datum -/
def asgD (vs : List Nat) (i : Nat) (me : ME) : MS := fun ρ φ => (me (soft vs ρ) φ).bind fun r => if i < ρ.length then .ok (.nx, (aft vs r.1 ρ).set i (some (.dat r.1.toD)), r.2) else .bad
theorem ds_asgD_of {i : Nat} {te : TE} (vs : List Nat) (h : PS X st (tAsg te (gName i))) (w : ∀ σ H Q, tD (q.at X.K) me σ H Q → te σ H Q) : DS X q st (asgD vs i me) := ps_imp h fun D σ H z => by
  obtain ⟨H0, P0, ρ, φ, r, S, h, k⟩ := z
  obtain ⟨⟨e1, φ1⟩, h1, h⟩ := Res.bind_ok h
  dsimp only at h
  split at h
  · cases h
    refine w σ H _ ⟨_, _, _, e1, φ1, S.moment vs, h1, fun v H1 u1 f1 r1 => ?_⟩
    obtain ⟨f2, r2, S2⟩ := S.behind u1 f1 r1
    have r3 : RepE (q.at X.K) _ H H1 (.dat e1.toD) v := r2.rep S2.sl.liveH
    exact k _ _ (S2.set u1 f2 r3) ((seen_less aft_less).trans (seen_set u1 r3))
  · cases h
theorem ds_setD {i : Nat} {x : Str} {pos' : Pos} (vs : List Nat) (he : DE X q e me) (hN : X.N.Nodup) (hi : X.N[i]? = some x) (hx : Loc X.env.scope x) (hs : swapsWith e (some (.Name x pos')) pos.line X.env = pure false)
    (hf : X.fn x = true ∨ X.env.scope.names.lookup x = some .local) : DS X q (.Assign [.Name x pos'] e pos) (asgD vs i me) :=
  ds_asgD_of vs (ps_set hN hi hx he hs hf) fun _ _ _ z => z
def consD (m : ME) (ms : MAE) : MAE := fun ρ φ => (m ρ φ).bind fun r => (ms ρ r.2).bind fun r2 => .ok (.dat r.1.toD :: r2.1, r2.2)
theorem dae_consD (ha : DE X q e me) (hs : DAE X q es ms) (hst : starEach (e :: es) X.env = (false, eval e X.env) :: starEach es X.env) : DAE X q (e :: es) (consD me ms) := (pa_cons ha hs hst).imp fun σ H Q w => by
  obtain ⟨P, ρ, φ, e, φ', a, h, k⟩ := w
  obtain ⟨⟨e1, φ1⟩, h1, h⟩ := Res.bind_ok h
  obtain ⟨⟨e2, φ2⟩, h2, h⟩ := Res.bind_ok h
  cases h
  refine part a h1 fun v H1 a1 u1 r1 => ?_
  have hP : Pn P (.dat e1.toD) v = P := by
    funext b
    exact propext ⟨fun z => z.elim id False.elim, .inl⟩
  refine ⟨P, ρ, φ1, e2, φ2, a1, h2, fun vs H2 u2 f3 r2 => ?_⟩
  exact k (v :: vs) H2 (u1.trans u2) f3 ⟨v, vs, H1, rfl, u1, u2, r1.rep a.live, by rw [hP]; exact r2⟩
/-- a comprehension's value stored on its own line -/
theorem ds_lcD {i : Nat} {y : Str} {py spos : Pos} {elt tg iter : Expr} {ifs : List Expr} {scope : Scope} {own : List (Str × Nat)} {α : Type} {R : RI α} {mi : MI α} {set : α → Env' → Option Env'} {ws : List Nat} {mt : MT} (vs : List Nat)
    (hc : X.calm = true) (hN : X.N.Nodup) (hy : X.N[i]? = some y) (hyl : X.env.scope.names.lookup y = some .local) (hsw : swapsWith (.ListComp elt [⟨tg, iter, ifs, 0⟩] scope pos) (some (.Name y py)) spos.line X.env = pure true)
    (hi : DI X q tg iter R mi) (ok : BlkOk X.N X.env.scope scope own) (hvs : ∀ i ∈ ws, i ∈ own.map (·.2))
    (hg : ∃ g : TG, (∀ (s : Shared) (H : Hp) (C : Addr) (cl : List (Str × Addr)) (fp : List Addr), PG (X.blk s H scope (compEnvC scope cl C X.env) fp) tg g) ∧
      ∀ (P : Addr → Prop) (H : Hp) (ρ : Env') (σ : L2.St) (a : α) (v : V) (ρ' : Env') (Q : L2.St → Hp → Prop), EnvR (q.at X.K) (hide P H) ρ σ → R P H a v → set a ρ = some ρ' →
        (∀ σ', EnvR (q.at X.K) (hide P H) ρ' σ' → Chg ws σ σ' → (∀ i, i ∉ ws → ρ'[i]? = ρ[i]?) → Q σ' H) → g v σ H Q)
    (ht : ∀ (s : Shared) (H : Hp) (C : Addr) (cl : List (Str × Addr)) (fp : List Addr), DTs (X.blk s H scope (compEnvC scope cl C X.env) fp) q ifs mt)
    (he : ∀ (s : Shared) (H : Hp) (C : Addr) (cl : List (Str × Addr)) (fp : List Addr), DE (X.blk s H scope (compEnvC scope cl C X.env) fp) q elt me) (hs : ∀ x, foldedSetIterable iter X.env x = pure x) :
    DS X q (.Assign [.Name y py] (.ListComp elt [⟨tg, iter, ifs, 0⟩] scope pos) spos) (asgD vs i (lcM (own.map (·.2)) mi set mt me)) := by
  obtain ⟨wi, h1, h2⟩ := hi
  obtain ⟨g, h3, h4⟩ := hg
  exact ds_asgD_of vs (ps_setLc (tt := tDT (q.at X.K) mt) (te := tD (q.at X.K) me) hc hN hy hyl hsw h1 ok h3 ht he hs) (wish_lc h2 h4 hvs)
/-- the targets of a comprehension's block -/
theorem hg_name {tg : Expr} {scope : Scope} {i : Nat} (h : ∀ (s : Shared) (H : Hp) (C : Addr) (cl : List (Str × Addr)) (fp : List Addr), PG (X.blk s H scope (compEnvC scope cl C X.env) fp) tg (gName i)) :
    ∃ g : TG, (∀ (s : Shared) (H : Hp) (C : Addr) (cl : List (Str × Addr)) (fp : List Addr), PG (X.blk s H scope (compEnvC scope cl C X.env) fp) tg g) ∧
      ∀ (P : Addr → Prop) (H : Hp) (ρ : Env') (σ : L2.St) (a : D) (v : V) (ρ' : Env') (Q : L2.St → Hp → Prop), EnvR (q.at X.K) (hide P H) ρ σ → R1 (q.at X.K) P H a v → setN i a ρ = some ρ' →
        (∀ σ', EnvR (q.at X.K) (hide P H) ρ' σ' → Chg [i] σ σ' → (∀ j, j ∉ [i] → ρ'[j]? = ρ[j]?) → Q σ' H) → g v σ H Q := ⟨_, h, fun P H ρ σ a v ρ' Q e r s k => by
  cases s
  exact k _ (e.set r) (Chg.set (by simp)) fun j hj => List.getElem?_set_ne fun e => hj (by simp [e])⟩
theorem hg_pair {tg : Expr} {scope : Scope} {i j : Nat} (h : ∀ (s : Shared) (H : Hp) (C : Addr) (cl : List (Str × Addr)) (fp : List Addr), PG (X.blk s H scope (compEnvC scope cl C X.env) fp) tg (gTup X.K 2 (gCons (gName i) (gCons (gName j) gNil)))) :
    ∃ g : TG, (∀ (s : Shared) (H : Hp) (C : Addr) (cl : List (Str × Addr)) (fp : List Addr), PG (X.blk s H scope (compEnvC scope cl C X.env) fp) tg g) ∧
      ∀ (P : Addr → Prop) (H : Hp) (ρ : Env') (σ : L2.St) (a : D × D) (v : V) (ρ' : Env') (Q : L2.St → Hp → Prop), EnvR (q.at X.K) (hide P H) ρ σ → R2 (q.at X.K) P H a v → setP i j a ρ = some ρ' →
        (∀ σ', EnvR (q.at X.K) (hide P H) ρ' σ' → Chg [i, j] σ σ' → (∀ m, m ∉ [i, j] → ρ'[m]? = ρ[m]?) → Q σ' H) → g v σ H Q := ⟨_, h, fun P H ρ σ a v ρ' Q e r s k => by
  cases s
  obtain ⟨T, x, y, rfl, h1, r1, r2⟩ := r
  refine ⟨T, [x, y], rfl, h1, rfl, x, [y], rfl, y, [], rfl, rfl, ?_⟩
  refine k _ ((e.set r1).set r2) ((Chg.set (by simp)).trans (Chg.set (by simp))) fun m hm => ?_
  rw [List.getElem?_set_ne fun e => hm (by simp [e]), List.getElem?_set_ne fun e => hm (by simp [e])]⟩
end
end VI
namespace VI
open PySem PySem.Spec PyProof.Rows L2
def fdG : D → D → Res EV
  | .int i, .int j => if 0 < j ∧ j < 2 ^ 64 then .ok (.dat (.int (i / j))) else .bad
  | _, _ => .bad
def powG : D → D → Res EV
  | .int i, .int j => if 0 ≤ j ∧ j ≤ 1000 ∧ i.natAbs < 2 ^ 64 then .ok (.dat (.int (i ^ j.toNat))) else .bad
  | _, _ => .bad
section
variable {X : Cx} {q : Pk} {pos p1 p2 : Pos} {e : Expr} {me : ME}
theorem og_fd : OpG X q (binaryOp .FloorDiv) fdG := by
  refine ⟨_, op_fdivW, ?_⟩
  intro P H x y d1 d2 e Q l r1 r2 h k
  unfold fdG at h
  split at h
  · split at h
    · rename_i hz
      cases h; cases r1; cases r2
      refine ⟨_, _, rfl, rfl, wide_div (b := 64) hz.1 (by omega) (by decide) (by decide), k _ H (Ext.refl H) rfl⟩
    · cases h
  · cases h
theorem og_pow : OpG X q (binaryOp .Pow) powG := by
  refine ⟨_, op_pow, ?_⟩
  intro P H x y d1 d2 e Q l r1 r2 h k
  unfold powG at h
  split at h
  · split at h
    · rename_i hz
      cases h; cases r1; cases r2
      exact ⟨_, _, rfl, rfl, ⟨hz.1, by omega, hz.2.2⟩, k _ H (Ext.refl H) rfl⟩
    · cases h
  · cases h
theorem de_neg {i : Int} {j : Nat} : DE X q (.UnaryOp .USub (.Constant (.int i) j p1) pos) (cD (.int (-i))) := (pe_un un_neg pe_int).imp fun σ H Q w => by
  obtain ⟨P, ρ, φ, e, φ', a, h, k⟩ := w
  cases h
  exact ⟨i, rfl, k _ H (Up.refl H) a.fo rfl⟩
def isFeed (i : Nat) (ρ : Env') : Bool := match ρ[i]? with
  | some (some (.dict _)) => true
  | _ => false
theorem isFeed_ok {p : Pr} {G : Hp} {ρ : Env'} {σ : L2.St} {i : Nat} (a : EnvR p G ρ σ) (h : isFeed i ρ = true) : σ[i]? = some (some (.ref p.fa)) := by
  unfold isFeed at h
  split at h
  · rename_i kv e
    obtain ⟨v, e1, e2⟩ := a.has i _ e
    cases e2
    exact e1
  · cases h
def fgI (i : Nat) (get : FS → Int) : ME := fun ρ φ => if isFeed i ρ = true then .ok (.dat (.int (get φ)), φ) else .bad
theorem de_fgI {i : Nat} {o : Expr} {key : Str} {j : Nat} {get : FS → Int} (ho : PE X o (tVar i)) (hu : X.A.units + 1 < cLine) (hs : NoSl (.Constant (.str key) j p1)) (hv : ∀ f, valV (fsDict (q.at X.K) f) (.inr key) = some (.int (get f))) :
    DE X q (.Subscript o (.Constant (.str key) j p1) pos) (fgI i get) := (pe_dget hu ho pe_str hs).imp fun σ H Q w => by
  obtain ⟨P, ρ, φ, e, φ', a, h, k⟩ := w
  unfold fgI at h
  split at h
  · rename_i hf
    cases h
    refine ⟨_, isFeed_ok a.env hf, _, .int (get φ), rfl, ?_, k _ H (Up.refl H) a.fo rfl⟩
    have g := DGet.k (k := .inr key) (hide_of a.fo.d).2
    rw [hv] at g
    exact g
  · cases h
def fgC (i : Nat) : ME := fun ρ φ => if isFeed i ρ = true then .ok (.dat (.list (φ.cells.map .int)), φ) else .bad
theorem de_fgC {i : Nat} {o : Expr} {j : Nat} (ho : PE X o (tVar i)) (hu : X.A.units + 1 < cLine) (hs : NoSl (.Constant (.str "cells") j p1)) : DE X q (.Subscript o (.Constant (.str "cells") j p1) pos) (fgC i) := (pe_dget hu ho pe_str hs).imp fun σ H Q w => by
  obtain ⟨P, ρ, φ, e, φ', a, h, k⟩ := w
  unfold fgC at h
  split at h
  · rename_i hf
    cases h
    refine ⟨_, isFeed_ok a.env hf, _, .ref (q.at X.K).ca, rfl, DGet.k (k := .inr "cells") (hide_of a.fo.d).2, k _ H (Up.refl H) a.fo ⟨_, _, rfl, a.fo.c, RepAll.of_ints _⟩⟩
  · cases h
def fpM (i : Nat) (me : ME) (put : FS → Int → FS) : MS := fun ρ φ => (me (soft [] ρ) φ).bind fun r => match r.1 with
  | .dat (.int n) => if isFeed i (soft [] ρ) = true then .ok (.nx, ρ, put r.2 n) else .bad
  | _ => .bad
theorem ds_fput {i : Nat} {o : Expr} {key : Str} {j : Nat} {put : FS → Int → FS} (ho : PE X o (tVar i)) (he : DE X q e me) (hu : X.A.units + 1 < cLine) (hp : ∀ f n, putK (fsDict (q.at X.K) f) (.inr key) (.int n) = fsDict (q.at X.K) (put f n)) (hc : ∀ f n, (put f n).cells = f.cells)
    (hs : swapsWith e (some (.Subscript o (.Constant (.str key) j p1) p2)) pos.line X.env = pure false) : DS X q (.Assign [.Subscript o (.Constant (.str key) j p1) p2] e pos) (fpM i me put) := ps_imp (ps_dput hu ho pe_str he hs) fun D σ H z => by
  obtain ⟨H0, P0, ρ, φ, r, S, h, k⟩ := z
  obtain ⟨⟨e1, φ1⟩, h1, h⟩ := Res.bind_ok h
  dsimp only at h
  split at h
  · rename_i n
    split at h
    · rename_i hf
      cases h
      have M := S.moment []
      refine ⟨_, _, _, _, φ1, M, h1, fun v H1 u1 f1 r1 => ⟨_, isFeed_ok M.env hf, (q.at X.K).fa, _, rfl, DPut.k (k := .inr key) (hide_of f1.d).2 ?_, ?_⟩⟩
      · show 4 < sizeLine
        rw [sizeLine_eq]; omega
      · cases r1
        have f2 : FO (q.at X.K) φ1 (hide (Hid P0 ρ σ) H1) := f1.see S.fo.nfa.1 S.fo.nca.1
        have u2 : Up H1 (upd H1 (q.at X.K).fa (.dK (putK (fsDict (q.at X.K) φ1) (.inr key) (.int n)))) := ⟨fun b o s hb => by
          have nb : b ≠ (q.at X.K).fa := fun z => by
            rw [z, (hide_of f1.d).2] at hb
            cases hb
            exact s
          rw [upd_ne nb]
          exact hb, fun b hb => by
          have nb : b ≠ (q.at X.K).fa := fun z => by rw [z, upd_same] at hb; cases hb
          rw [upd_ne nb] at hb
          exact hb⟩
        have ne : (q.at X.K).ca ≠ (q.at X.K).fa := fun z => by
          have e1 := (hide_of f1.c).2
          rw [z, (hide_of f1.d).2] at e1
          cases e1
        refine k σ _ (S.upTo (u1.trans u2) ⟨?_, ?_⟩) ((seen_up u1).trans (seen_up u2))
        · rw [hide_eq S.fo.nfa.1, upd_same, hp]
        · rw [hide_eq S.fo.nca.1, upd_ne ne, hc]
          exact (hide_of f1.c).2
    · cases h
  · cases h
theorem len_nil : ∀ (ρ : Env') (φ : FS) (ds : List D) (φ' : FS), nilA ρ φ = .ok (ds, φ') → ds.length = 0 := fun ρ φ ds φ' h => by cases h; rfl
theorem len_cons {n : Nat} {m : ME} {ms : MA} (k : ∀ (ρ : Env') (φ : FS) (ds : List D) (φ' : FS), ms ρ φ = .ok (ds, φ') → ds.length = n) : ∀ (ρ : Env') (φ : FS) (ds : List D) (φ' : FS), consA m ms ρ φ = .ok (ds, φ') → ds.length = n + 1 := fun ρ φ ds φ' h => by
  obtain ⟨⟨e1, φ1⟩, h1, h⟩ := Res.bind_ok h
  obtain ⟨⟨e2, φ2⟩, h2, h⟩ := Res.bind_ok h
  cases h
  rw [List.length_cons, k _ _ _ _ h2]
def popAt (j : Nat) (n : Int) (ρ : EnvS) : Option (D × EnvS) := match ρ[j]? with
  | some (some (.own ds)) => match seqIndex? n ds.length with
    | some k => (ds[k]?).map fun d => (d, ρ.set j (some (.own (ds.eraseIdx k))))
    | none => none
  | _ => none
def appPopM (vs : List Nat) (i j : Nat) (me : ME) : MS := fun ρ φ => (me (soft vs ρ) φ).bind fun r => match r.1 with
  | .dat (.int n) => if -1000000 < n ∧ n < 1000000 ∧ i ≠ j then (match popAt j n ρ with
    | some (d, ρ1) => (match pushAt i d ρ1 with
      | some ρ2 => .ok (.nx, ρ2, r.2)
      | none => .bad)
    | none => .bad) else .bad
  | _ => .bad
theorem RepAll.erase {p : Pr} {G : Hp} : ∀ {ds : List D} {vs : List V} (k : Nat), RepAll p G ds vs → RepAll p G (ds.eraseIdx k) (vs.eraseIdx k)
  | [], vs, k, h => by cases h; exact rfl
  | _ :: _, _, 0, h => by obtain ⟨v, r, rfl, _, h2⟩ := h; exact h2
  | _ :: ds, _, k + 1, h => by obtain ⟨v, r, rfl, h1, h2⟩ := h; exact ⟨v, _, rfl, h1, RepAll.erase k h2⟩
theorem ds_appPop {i j : Nat} {o o2 : Expr} {apos apos2 cpos epos : Pos} (vs : List Nat) (ho : PE X o (tVar i)) (ho2 : PE X o2 (tVar j)) (he : DE X q e me)
    (hb : attributeBase o "append" X.env (eval o X.env) = eval o X.env := by rfl) (hb2 : attributeBase o2 "pop" X.env (eval o2 X.env) = eval o2 X.env := by rfl)
    (hf2 : ((backTo cpos (starEach [e] X.env)).all (fun x => !x.1) && (backToKw cpos (keywordEach [] X.env)).all (fun x => x.1.isSome) && decide ([e].length + ([] : List Keyword).length + (if ([] : List Keyword).isEmpty then 0 else 1) < 30)) = true := by rfl)
    (hl : (apos.endLine == pos.line) = true := by rfl) (hl2 : (apos2.endLine == cpos.line) = true := by rfl) (hs : starEach [e] X.env = (false, eval e X.env) :: starEach [] X.env := by rfl) :
    DS X q (.Expr (.Call (.Attribute o "append" apos) [.Call (.Attribute o2 "pop" apos2) [e] [] cpos] [] pos) epos) (appPopM vs i j me) :=
  ps_imp (ps_expr (pe_bm PySem.F.plainAttrs_list PySem.F.slot_list_append PySem.F.type_list_append mt_append ho
    (pa_cons (pe_bm PySem.F.plainAttrs_list PySem.F.slot_list_pop PySem.F.type_list_pop mt_popAt ho2 (pa_cons he pa_nil hs) hb2 hf2 hl2 hs) pa_nil rfl) hb rfl hl rfl)) fun D σ H z => by
    obtain ⟨H0, P0, ρ, φ, r, S, h, k⟩ := z
    obtain ⟨⟨e1, φ1⟩, h1, h⟩ := Res.bind_ok h
    dsimp only at h
    split at h
    · rename_i n
      split at h
      · rename_i hn
        split at h
        · rename_i d ρ1 hp
          split at h
          · rename_i ρ2 hp2
            cases h
            unfold popAt at hp
            split at hp
            · rename_i dj hj
              split at hp
              · rename_i kk hk
                cases hd : dj[kk]? with
                | none => rw [hd] at hp; cases hp
                | some d' =>
                  rw [hd] at hp
                  cases hp
                  unfold pushAt at hp2
                  split at hp2
                  · rename_i di hi
                    split at hp2
                    · rename_i hz
                      cases hp2
                      rw [List.getElem?_set_ne (Ne.symm hn.2.2)] at hi
                      obtain ⟨a, xs, e2, e3, e4, e5⟩ := S.sl.own i di hi
                      obtain ⟨b, ys, g2, g3, g4, g5⟩ := S.sl.own j dj hj
                      refine ⟨.ref a, e2, .inl ⟨rfl, xs, SqL.of e4⟩, .ref b, g2, .inl ⟨rfl, ys, SqL.of g4⟩, _, _, _, _, φ1, S.moment vs, h1, fun v H1 u1 f1 r1 => ?_⟩
                      obtain ⟨f2, r2, S2⟩ := S.behind u1 f1 r1
                      cases r1
                      have S3 : StR (q.at X.K) H0 P0 H1 ρ φ1 σ := S2.upTo u1 f2
                      obtain ⟨b', ys', w2, w3, w4, w5⟩ := S3.sl.own j dj hj
                      rw [g2] at w2
                      cases w2
                      obtain ⟨y, hy, ry⟩ := w5.get hd
                      refine ⟨b, ys', n, kk, y, rfl, rfl, w4, by omega, by omega, by rw [w5.len]; exact hk, hy, ?_⟩
                      obtain ⟨S4, s4⟩ := S3.change hj g2 (RepAll.erase kk w5)
                      have hi4 : (ρ.set j (some (EV.own (dj.eraseIdx kk))))[i]? = some (some (.own di)) := by rw [List.getElem?_set_ne (Ne.symm hn.2.2)]; exact hi
                      obtain ⟨a', xs', v2, v3, v4, v5⟩ := S4.sl.own i di hi4
                      rw [e2] at v2
                      cases v2
                      refine ⟨a, xs', y, rfl, rfl, v4, by rw [v5.len, sizeLine_eq]; omega, ?_⟩
                      have ry4 := Rep.up s4 ry
                      obtain ⟨S5, s5⟩ := S4.change hi4 e2 (RepAll.app v5 (RepAll.one ry4))
                      exact k _ _ S5 (((seen_up u1).trans s4).trans s5)
                    · cases hp2
                  · cases hp2
              · cases hp
            · cases hp
          · cases h
        · cases h
      · cases h
    · cases h
theorem ds_doc {x j pos' } : DS X q (.Expr (.Constant (.str x) j pos) pos') nxM := ps_imp ps_doc fun D σ H w => by
  obtain ⟨H0, P0, ρ, φ, r, S, h, k⟩ := w
  cases h
  exact k σ H S fun _ _ _ z => z
end
end VI
namespace VI
open PySem PySem.Spec PyProof.Rows L2
/-- all objects stay -/
def Stay (h0 h : Heap) : Prop := ∀ b o, h0.get? b = some o → h.get? b = some o
/-- what a set asks of its items -/
structure Itm (P : Program) (w : World) (A : Around) (h0 : Heap) {κ : Type} [DecidableEq κ] (I : Value → Prop) (key : Value → κ) (hs : Value → Int) : Prop where
  hash : ∀ x, I x → ∃ d : Nat, ∀ (s : Shared) (E : Value → Shared → Prop) (Q : Int → Shared → Prop), Stay h0 s.heap → Q (hs x) { s with toks := s.toks + d } → wpAny (model P w) A (pyHash x) Q E s
  eq : ∀ x y, I x → I y → ∀ (s : Shared) (E : Value → Shared → Prop) (Q : Bool → Shared → Prop), Stay h0 s.heap → Q (decide (key x = key y)) s → wpAny (model P w) A (eqBool x y) Q E s
  cong : ∀ x y, I x → I y → key x = key y → hs x = hs y
/-- objects beside: the search's side questions -/
structure Obs (P : Program) (w : World) (A : Around) (h0 : Heap) (I : Value → Prop) : Prop where
  ref : ∀ x, I x → ∃ b, x = .ref b
  seen : ∀ x, I x → ∀ ys : List Value, (∀ y ∈ ys, I y) → ∀ (s : Shared) (E : Value → Shared → Prop) (Q : Bool → Shared → Prop), Stay h0 s.heap → Q false s → wpAny (model P w) A (searchCouldBeSeen x ys) Q E s
  plain : ∀ x, I x → ∀ (s : Shared) (E : Value → Shared → Prop) (Q : Bool → Shared → Prop), Stay h0 s.heap → (∀ b, Q b s) → wpAny (model P w) A (hashByValue 8 x) Q E s
/-- a set, as a table -/
structure Tb {κ : Type} [DecidableEq κ] (w : World) (key : Value → κ) (hs : Value → Int) (h : Heap) (a : Addr) (L : List Value) (es : Array (Int × Value)) (ep : Nat) (t : SetTable) : Prop where
  ob : ∃ o, h.get? a = some o ∧ o.ExactSet ∧ o.data = .set es ep t
  es : es.toList = L.map fun v => (hs v, v)
  tab : TabOk t (L.map hs)
  nd : (L.map key).Nodup
  led : w.params.followText "set-order" = true ∨ t.led = true
  room : L.length * 5 < t.mask * 3
  few : L.length < 64
theorem nth_calm (m : Nat) : ∀ (k : Nat) (p : SetTable.Probe), p.dummy = none → (nth m p k).dummy = none
  | 0, _, h => h
  | k + 1, p, h => nth_calm m k (adv m p) (by unfold adv; split <;> exact h)
section
variable {P : Program} {w : World} {A : Around} {E : Value → Shared → Prop} {s : Shared} {κ : Type} [DecidableEq κ] {I : Value → Prop} {key : Value → κ} {hs : Value → Int} {h0 : Heap}
variable {a : Addr} {L : List Value} {es : Array (Int × Value)} {ep : Nat} {t : SetTable}
theorem Tb.size {h : Heap} (B : Tb w key hs h a L es ep t) : es.size = L.length := by
  rw [← Array.length_toList, B.es, List.length_map]
theorem Tb.fit {h : Heap} (B : Tb w key hs h a L es ep t) : t.fits es.size = true := by
  have h1 : t.place.size = L.length := by rw [B.tab.sz, List.length_map]
  have h2 := B.room
  simp only [SetTable.fits, SetTable.fill, B.tab.dm, Bool.and_eq_true, beq_iff_eq, decide_eq_true_eq, B.size, h1]
  refine ⟨trivial, ?_⟩
  show L.length + 0 ≤ t.mask
  omega
theorem Tb.at {h : Heap} (B : Tb w key hs h a L es ep t) {i : Nat} {v : Value} (e : L[i]? = some v) : es[i]? = some (hs v, v) := by
  rw [← Array.getElem?_toList, B.es, List.getElem?_map, e]
  rfl
theorem Tb.whole {h : Heap} (B : Tb w key hs h a L es ep t) : ¬ t.gaveWay = true := by
  unfold SetTable.gaveWay
  rw [mask_odd B.tab.mok]
  decide
theorem Tb.len {h : Heap} (B : Tb w key hs h a L es ep t) : t.place.toList.length = L.length := by
  rw [Array.length_toList, B.tab.sz, List.length_map]
/-- the way of an item through the table, from its c-th step on -/
theorem seek (B : Tb w key hs s.heap a L es ep t) (M : Itm P w A h0 I key hs) (O : Obs P w A h0 I) (st : Stay h0 s.heap) (hL : ∀ v ∈ L, I v) {x : Value} (hx : I x) {K : Nat} (hf : K < 10 * SetTable.turns t.mask)
    (free : way t.mask (hs x) K ∉ t.place.toList) (full : ∀ c, c < K → way t.mask (hs x) c ∈ t.place.toList) {Q : SetFound → Shared → Prop}
    (yes : key x ∈ L.map key → Q (.there none) s) (no : key x ∉ L.map key → Q (.free (way t.mask (hs x) K) false) s) : ∀ (f c : Nat) (p : Option SetTable.Probe),
      p.getD (t.probeStart (hs x)) = nth t.mask (runAt t.mask (SetTable.bits (hs x) % (t.mask + 1)) (SetTable.bits (hs x))) c → c ≤ K → K < f + c →
      (∀ (i : Nat) (v : Value), L[i]? = some v → key v = key x → ∃ d, c ≤ d ∧ d < K ∧ t.place.toList[i]? = some (way t.mask (hs x) d)) →
      wpAny (model P w) A (setSearchFrom a x (hs x) true f p) Q E s := by
  intro f
  induction f with
  | zero => intro c p _ h1 h2; omega
  | succ f ih =>
    intro c p hp hc hcf hre
    obtain ⟨o, ho, ox, od⟩ := B.ob
    rw [setSearchFrom_succ]
    refine wpAny_bind (wpAny_setState_of ho od B.fit ?_)
    dsimp only
    refine wp_if_neg B.whole ?_
    try refine wpAny_bind (wpAny_pure ?_)
    have step : ∀ d, (nth t.mask (nth t.mask (runAt t.mask (SetTable.bits (hs x) % (t.mask + 1)) (SetTable.bits (hs x))) c) d) = nth t.mask (runAt t.mask (SetTable.bits (hs x) % (t.mask + 1)) (SetTable.bits (hs x))) (c + d) := fun d => (nth_add _ _ _ _).symm
    have stepj : ∀ d, (nth t.mask (nth t.mask (runAt t.mask (SetTable.bits (hs x) % (t.mask + 1)) (SetTable.bits (hs x))) c) d).j = way t.mask (hs x) (c + d) := fun d => by rw [step]
    rcases go_spec t B.tab.ris B.tab.dm (fun i => (es[i]?.map (·.1)).getD 0) (hs x) (10 * SetTable.turns t.mask) (K - c) (nth t.mask (runAt t.mask (SetTable.bits (hs x) % (t.mask + 1)) (SetTable.bits (hs x))) c)
      (nth_calm _ _ _ rfl) (by omega) (fun d hd => by rw [stepj]; exact full _ (by omega)) (by rw [stepj, Nat.add_sub_cancel' hc]; exact free) with ⟨d, i, hd, hi, he, first, go⟩ | ⟨none', go⟩
    · rw [stepj] at hi
      rw [stepj, step] at go
      have go' : t.probe (fun i => (es[i]?.map (·.1)).getD 0) (hs x) (p.getD (t.probeStart (hs x))) = some (.candidate (way t.mask (hs x) (c + d)) i (nth t.mask (runAt t.mask (SetTable.bits (hs x) % (t.mask + 1)) (SetTable.bits (hs x))) (c + (d + 1)))) := by
        rw [hp]
        exact go
      rw [go']
      dsimp only
      obtain ⟨y, hy⟩ : ∃ y, L[i]? = some y := by
        have hl : i < t.place.toList.length := (List.getElem?_eq_some_iff.mp hi).1
        rw [B.len] at hl
        exact ⟨_, List.getElem?_eq_getElem hl⟩
      have my : y ∈ L := List.mem_of_getElem? hy
      have iy : I y := hL y my
      have main : wpAny (model P w) A (searchRest a x (hs x) true f es t (way t.mask (hs x) (c + d)) i (nth t.mask (runAt t.mask (SetTable.bits (hs x) % (t.mask + 1)) (SetTable.bits (hs x))) (c + (d + 1)))) Q E s := by
        unfold searchRest
        rw [B.at hy]
        dsimp only
        refine wpAny_bind (wpAny_holding (M.eq y x iy hx s _ _ st ?_))
        refine wpAny_bind (wpAny_setState_of ho od B.fit ?_)
        dsimp only
        by_cases ek : key y = key x
        · refine wp_if_pos (by rw [decide_eq_true ek]; rfl) (wpAny_pure (yes ?_))
          rw [← ek]
          exact List.mem_map_of_mem my
        · refine wp_if_neg (by rw [decide_eq_false ek]; simp) ?_
          try refine wpAny_bind (wpAny_pure ?_)
          rw [sameMem]
          dsimp only
          have live : t.slot (way t.mask (hs x) (c + d)) = .live i := slot_live B.tab.ris hi
          simp only [if_true, live, B.at hy]
          obtain ⟨b, rfl⟩ := O.ref y iy
          refine wpAny_bind (wpAny_isSame_ref_self (wpAny_bind (wpAny_pure ?_)))
          simp only [if_true]
          refine wp_if_neg (by rw [decide_eq_false ek]; simp) ?_
          refine ih (c + (d + 1)) _ rfl (by omega) (by omega) fun i2 v hv hk => ?_
          obtain ⟨d2, g1, g2, g3⟩ := hre i2 v hv hk
          refine ⟨d2, Classical.byContradiction fun hlt => ?_, g2, g3⟩
          by_cases q : d2 = c + d
          · rw [q] at g3
            have z := slot_live B.tab.ris g3
            rw [live] at z
            cases z
            rw [hy] at hv
            cases hv
            exact ek hk
          · refine first (d2 - c) i2 (by omega) (by rw [stepj, Nat.add_sub_cancel' g1]; exact g3) ?_
            show (es[i2]?.map (·.1)).getD 0 = hs x
            rw [B.at hv]
            exact M.cong v x (hL v (List.mem_of_getElem? hv)) hx hk
      by_cases ld : t.led = true
      · refine wp_if_neg (by rw [ld]; decide) ?_
        try refine wpAny_bind (wpAny_pure ?_)
        exact main
      · refine wp_if_pos (by simpa using ld) (wpAny_bind (O.seen x hx _ (fun y hy2 => ?_) s _ _ st ?_))
        · obtain ⟨q, q1, q2⟩ := List.mem_map.mp hy2
          have q3 : q ∈ es.toList := by
            have q4 : q ∈ es ∧ q.1 = hs x := by simpa using q1
            simpa using q4.1
          rw [B.es] at q3
          obtain ⟨v, v1, v2⟩ := List.mem_map.mp q3
          rw [← q2, ← v2]
          exact hL v v1
        · refine wp_if_neg (by decide) ?_
          try refine wpAny_bind (wpAny_pure ?_)
          exact main
    · rw [stepj, Nat.add_sub_cancel' hc] at go
      have go' : t.probe (fun i => (es[i]?.map (·.1)).getD 0) (hs x) (p.getD (t.probeStart (hs x))) = some (.empty (way t.mask (hs x) K) none) := by
        rw [hp]
        exact go
      rw [go']
      dsimp only
      refine wpAny_pure (no fun mem => ?_)
      obtain ⟨v, v1, v2⟩ := List.mem_map.mp mem
      obtain ⟨i, hi, ev⟩ := List.getElem_of_mem v1
      have hv : L[i]? = some v := by rw [List.getElem?_eq_getElem hi, ev]
      obtain ⟨d, g1, g2, g3⟩ := hre i v hv v2
      refine none' (d - c) i (by omega) (by rw [stepj, Nat.add_sub_cancel' g1]; exact g3) ?_
      show (es[i]?.map (·.1)).getD 0 = hs x
      rw [B.at hv]
      exact M.cong v x (hL v v1) hx v2
theorem seek0 (B : Tb w key hs s.heap a L es ep t) (M : Itm P w A h0 I key hs) (O : Obs P w A h0 I) (st : Stay h0 s.heap) (hL : ∀ v ∈ L, I v) {x : Value} (hx : I x) {Q : SetFound → Shared → Prop} (yes : key x ∈ L.map key → Q (.there none) s)
    (no : ∀ K, key x ∉ L.map key → way t.mask (hs x) K ∉ t.place.toList → (∀ c, c < K → way t.mask (hs x) c ∈ t.place.toList) → Q (.free (way t.mask (hs x) K) false) s) : wpAny (model P w) A (setSearch a x (hs x) true) Q E s := by
  have rm := B.room
  obtain ⟨K, b1, b2, b3⟩ := B.tab.first (by rw [List.length_map]; omega) (hs x)
  have small : 10 * SetTable.turns t.mask < 100000 := by
    unfold SetTable.turns
    rcases B.tab.mok with e | e | e <;> rw [e] <;> decide
  refine seek B M O st hL hx b1 b2 b3 yes (fun n => no K n b2 b3) 100000 0 none rfl (Nat.zero_le _) (by omega) fun i v hv hk => ?_
  have hl : i < t.place.toList.length := by
    rw [B.len]
    exact (List.getElem?_eq_some_iff.mp hv).1
  have hp := List.getElem?_eq_getElem hl
  obtain ⟨c, g1, g2⟩ := B.tab.before (h := hs x) (i := i) b2 (by rw [List.getElem?_map, hv, ← M.cong v x (hL v (List.mem_of_getElem? hv)) hx hk]; rfl) hp
  exact ⟨c, Nat.zero_le _, g1, by rw [hp, g2]⟩
theorem pick_all {α : Type} (L : List α) : ((List.range L.length).filterMap fun i => L[i]?) = L := by
  have go : ∀ n, n ≤ L.length → ((List.range n).filterMap fun i => L[i]?) = L.take n := by
    intro n
    induction n with
    | zero => intro _; rfl
    | succ n ih =>
      intro h
      rw [List.range_succ, List.filterMap_append, ih (by omega), List.filterMap_cons_some (List.getElem?_eq_getElem (show n < L.length from h)), List.filterMap_nil, ← take_next (List.getElem?_eq_getElem (show n < L.length from h))]
  rw [go _ (Nat.le_refl _), List.take_length]
theorem pick_rows {es : Array (Int × Value)} {order : Array Nat} (he : es.toList = L.map fun v => (hs v, v)) (hp : order.toList.Perm (List.range L.length)) :
    ∃ M : List Value, (order.filterMap fun i => es[i]?).toList = M.map (fun v => (hs v, v)) ∧ M.Perm L ∧ M.map hs = order.toList.map fun i => (es.map (·.1)).getD i 0 := by
  have one : ∀ i v, L[i]? = some v → es[i]? = some (hs v, v) := fun i v e => by
    rw [← Array.getElem?_toList, he, List.getElem?_map, e]
    rfl
  have all : ∀ l : List Nat, (∀ i ∈ l, i < L.length) → l.filterMap (fun i => es[i]?) = (l.filterMap fun i => L[i]?).map (fun v => (hs v, v)) ∧ (l.filterMap fun i => L[i]?).map hs = l.map fun i => (es.map (·.1)).getD i 0 := by
    intro l
    induction l with
    | nil => intro _; exact ⟨rfl, rfl⟩
    | cons i l ih =>
      intro h
      obtain ⟨e1, e2⟩ := ih fun j hj => h j (List.mem_cons_of_mem _ hj)
      obtain ⟨v, hv⟩ : ∃ v, L[i]? = some v := ⟨_, List.getElem?_eq_getElem (h i List.mem_cons_self)⟩
      have z : (es.map (·.1)).getD i 0 = hs v := by
        rw [Array.getD_eq_getD_getElem?, Array.getElem?_map, one i v hv]
        rfl
      refine ⟨?_, ?_⟩
      · rw [List.filterMap_cons_some (one i v hv), List.filterMap_cons_some hv, e1, List.map_cons]
      · rw [List.filterMap_cons_some hv, List.map_cons, List.map_cons, e2, z]
  obtain ⟨e1, e2⟩ := all order.toList fun i hi => List.mem_range.mp (hp.mem_iff.mp hi)
  refine ⟨_, ?_, ?_, e2⟩
  · rw [Array.toList_filterMap]
    exact e1
  · have q := hp.filterMap (fun i => L[i]?)
    rwa [pick_all] at q
theorem relay {o : Obj} (ho : s.heap.get? a = some o) (ox : o.ExactSet) (od : o.data = .set es ep t) (he : es.toList = L.map fun v => (hs v, v)) (hp : t.place.size = es.size) (dm : t.dummies = #[]) (room : es.size ≤ t.mask) (nd : (L.map key).Nodup)
    (led : w.params.followText "set-order" = true ∨ t.led = true) (few : L.length < 64) {n m : Nat} (hm : SetTable.sizeAbove n - 1 = m) (ok : MaskOk m) (h128 : SetTable.sizeAbove n ≤ 128) (hr : L.length * 5 < m * 3) {Q : Unit → Shared → Prop}
    (k : ∀ h' L' es' ep' t', Heap.SameBut a s.heap h' → Tb w key hs h' a L' es' ep' t' → L'.Perm L → Q () { s with heap := h' }) : wpAny (model P w) A (setRelay a n) Q E s := by
  have hz : es.size = L.length := by rw [← Array.length_toList, he, List.length_map]
  have fit : t.fits es.size = true := by
    simp only [SetTable.fits, SetTable.fill, dm, Bool.and_eq_true, beq_iff_eq, decide_eq_true_eq, hp]
    refine ⟨trivial, ?_⟩
    show es.size + 0 ≤ t.mask
    omega
  obtain ⟨t', order, e, perm, T, em, el, _, _⟩ := relaid_ok t (hs := es.map (·.1)) (wanted := n) hm ok (by rw [Array.size_map, hz]; omega)
  rw [Array.size_map, hz] at perm
  obtain ⟨M, m1, m2, m3⟩ := pick_rows (hs := hs) he perm
  rw [← m3] at T
  have sz : (order.filterMap (es[·]?)).size = es.size := by
    rw [← Array.length_toList, m1, List.length_map, m2.length_eq, hz]
  rw [setRelay_eq]
  refine wpAny_bind (wpAny_setState_of ho od fit ?_)
  dsimp only
  refine wp_if_neg (by rw [sizeLine_eq]; omega) ?_
  try refine wpAny_bind (wpAny_pure ?_)
  rw [e]
  dsimp only
  refine wpAny_bind ?_
  refine wp_if_neg (by rw [sz]; simp) ?_
  try refine wpAny_bind (wpAny_pure ?_)
  refine wpAny_pure ?_
  dsimp only
  refine wpAny_storeSet_of ho od (k _ M (order.filterMap (es[·]?)) (ep + 1) t' (Heap.SameBut.update ..) ⟨⟨_, store_at ho od, ⟨ox.1, ox.2.1, ox.2.2⟩, rfl⟩, m1, T, (m2.map key).nodup_iff.mpr nd, by rw [el]; exact led, ?_, by rw [m2.length_eq]; exact few⟩ m2) (by rw [sz, hz, sizeLine_eq]; omega)
  rw [em, m2.length_eq]
  exact hr
theorem putIn (B : Tb w key hs s.heap a L es ep t) (M : Itm P w A h0 I key hs) (O : Obs P w A h0 I) (st : Stay h0 s.heap) (hL : ∀ v ∈ L, I v) {x : Value} (hx : I x) (few : L.length + 1 < 64) {Q : Bool → Shared → Prop}
    (k : ∀ b h' L' es' ep' t', Heap.SameBut a s.heap h' → Tb w key hs h' a L' es' ep' t' → (key x ∈ L.map key → L' = L) → (key x ∉ L.map key → L'.Perm (x :: L)) → Q b { s with heap := h' }) : wpAny (model P w) A (setAddHashed a x (hs x)) Q E s := by
  obtain ⟨o, ho, ox, od⟩ := B.ob
  obtain ⟨b, ex⟩ := O.ref x hx
  have notScan : ¬ byScan x es = true := by rw [ex]; simp [byScan, Value.scannable]
  have rm := B.room
  unfold setAddHashed
  refine wpAny_holding ?_
  rw [show (100000 : Nat) = 99999 + 1 from rfl, setAddHashedIn_succ]
  refine wpAny_bind (wpAny_setState_of ho od B.fit ?_)
  dsimp only
  refine wp_if_neg notScan ?_
  try refine wpAny_bind (wpAny_pure ?_)
  refine wpAny_bind (seek0 B M O st hL hx (fun there => ?_) fun K new free full => ?_)
  · dsimp only
    exact wpAny_pure (k false s.heap L es ep t (Heap.SameBut.refl a s.heap) B (fun _ => rfl) fun z => absurd there z)
  dsimp only
  refine wpAny_bind (wpAny_setState_of ho od B.fit ?_)
  dsimp only
  obtain ⟨e2, hpos, T, em, el, _, _, _, efill⟩ := B.tab.put free full
  generalize t.put (way t.mask (hs x) K) = Z at e2 T em el efill ⊢
  obtain ⟨t1, pos⟩ := Z
  dsimp only at e2 T em el efill ⊢
  rw [← e2] at hpos T
  rw [List.length_map] at hpos efill
  -- the rows with one more
  have mp : (L.take pos ++ x :: L.drop pos).map hs = (L.map hs).take pos ++ hs x :: (L.map hs).drop pos := by rw [List.map_append, List.map_cons, List.map_take, List.map_drop]
  rw [← mp] at T
  have rows : (SetTable.insertAt es pos (hs x, x)).toList = (L.take pos ++ x :: L.drop pos).map fun v => (hs v, v) := by
    rw [SetTable.toList_insertAt, B.es, List.map_append, List.map_cons, List.map_take, List.map_drop]
  have perm : (L.take pos ++ x :: L.drop pos).Perm (x :: L) := put_perm L pos x
  generalize L.take pos ++ x :: L.drop pos = L1 at T rows perm
  have len1 : L1.length = L.length + 1 := perm.length_eq
  have sz1 : (SetTable.insertAt es pos (hs x, x)).size = L.length + 1 := by rw [← Array.length_toList, rows, List.length_map, len1]
  generalize SetTable.insertAt es pos (hs x, x) = es1 at rows sz1 ⊢
  have nd1 : (L1.map key).Nodup := (perm.map key).nodup_iff.mpr (List.nodup_cons.mpr ⟨new, B.nd⟩)
  -- whatever the mark becomes
  have rest : ∀ t2 : SetTable, t2.place = t1.place → t2.dummies = t1.dummies → t2.mask = t1.mask → t2.led = t1.led → TabOk t2 (L1.map hs) → wpAny (model P w) A (do
      storeSet a es1 t2
      if (!false && t2.tooFull) = true then do setRelay a (SetTable.grown (es.size + 1)); pure true else pure true) Q E s := fun t2 p1 p2 p3 p4 T2 => by
    refine wpAny_bind (wpAny_storeSet_of ho od ?_ (by rw [sz1, sizeLine_eq]; omega))
    have sb : Heap.SameBut a s.heap (s.heap.update a (Obj.putSet es1 t2)) := Heap.SameBut.update ..
    have ho1 := store_at (es' := es1) (t' := t2) ho od
    generalize s.heap.update a (Obj.putSet es1 t2) = h1 at sb ho1 ⊢
    have led2 : w.params.followText "set-order" = true ∨ t2.led = true := by rw [p4, el]; exact B.led
    have fill2 : t2.fill = L.length + 1 := by
      rw [← efill]
      unfold SetTable.fill
      rw [p1, p2]
    by_cases full2 : t2.tooFull = true
    · refine wp_if_pos (by rw [full2]; rfl) (wpAny_bind ?_)
      have big : (L.length + 1) * 5 ≥ t2.mask * 3 := by
        have q := full2
        unfold SetTable.tooFull at q
        rw [decide_eq_true_eq, fill2] at q
        exact q
      rw [p3, em] at big
      rw [B.size]
      have size2 : t2.place.size = es1.size := by rw [T2.sz, List.length_map, len1, sz1]
      have go : ∀ m, SetTable.sizeAbove (SetTable.grown (L.length + 1)) - 1 = m → MaskOk m → SetTable.sizeAbove (SetTable.grown (L.length + 1)) ≤ 128 → (L.length + 1) * 5 < m * 3 →
          wpAny (model P w) A (setRelay a (SetTable.grown (L.length + 1))) (fun _ s' => wpAny (model P w) A (pure true) Q E s') E { s with heap := h1 } := fun m g1 g2 g3 g4 =>
        relay (key := key) (hs := hs) (s := { s with heap := h1 }) ho1 ⟨ox.1, ox.2.1, ox.2.2⟩ rfl rows size2 T2.dm (by rw [sz1, p3, em]; omega) nd1 led2 (by omega) g1 g2 g3 (by omega) fun h' L' es' ep' t' sb2 B2 perm2 =>
          wpAny_pure (k true h' L' es' ep' t' (sb.trans sb2) B2 (fun z => absurd z new) fun _ => perm2.trans perm)
      rcases B.tab.mok with e | e | e
      · have e4 : L.length = 4 := by rw [e] at big rm; omega
        refine go 31 ?_ (.inr (.inl rfl)) ?_ ?_ <;> rw [e4] <;> first | (rw [size_20]) | omega
        all_goals decide
      · have e18 : L.length = 18 := by rw [e] at big rm; omega
        refine go 127 ?_ (.inr (.inr rfl)) ?_ ?_ <;> rw [e18] <;> first | (rw [size_76]) | omega
        all_goals decide
      · rw [e] at big
        omega
    · refine wp_if_neg (by simpa using full2) (wpAny_pure (k true h1 L1 es1 (ep + 1) t2 sb ⟨⟨_, ho1, ⟨ox.1, ox.2.1, ox.2.2⟩, rfl⟩, rows, T2, nd1, led2, ?_, by omega⟩ (fun z => absurd z new) fun _ => perm))
      have q := full2
      unfold SetTable.tooFull at q
      rw [decide_eq_true_eq, fill2] at q
      omega
  have T0 : TabOk { t1 with plain := false } (L1.map hs) := ⟨T.ris, T.dm, T.sz, T.mok, T.bd, T.reach⟩
  by_cases pl : t1.plain = true
  · first
      | refine wp_if_pos pl (wpAny_bind (O.plain x hx s _ _ st fun b2 => ?_))
      | refine wpAny_bind (wp_if_pos pl (O.plain x hx s _ _ st fun b2 => ?_))
    cases b2 with
    | true =>
      simp only [if_true]
      exact rest t1 rfl rfl rfl rfl T
    | false =>
      simp only [Bool.false_eq_true, if_false]
      exact rest _ rfl rfl rfl rfl T0
  · first
      | refine wp_if_neg pl ?_
      | refine wpAny_bind (wp_if_neg pl (wpAny_pure ?_))
    try refine wpAny_bind (wpAny_pure ?_)
    simp only [if_true]
    exact rest t1 rfl rfl rfl rfl T
end
end VI
namespace VI
open PySem PySem.Spec PyProof.Rows L2
abbrev newSet (w : World) : Obj := { cls := .type "set", dict := none, data := .set #[] 0 (.fresh 0 0 (!w.params.followText "set-order")) }
/-- a set at a that can take items -/
structure Grow (P : Program) (w : World) (A : Around) (h0 : Heap) (a : Addr) {κ : Type} [DecidableEq κ] (I : Value → Prop) (key : Value → κ) (hs : Value → Int) (S : Heap → List Value → Prop) : Prop where
  new : ∀ h : Heap, h.get? a = some (newSet w) → S h []
  keep : ∀ (h h' : Heap) (L : List Value), S h L → (∀ o, h.get? a = some o → h'.get? a = some o) → S h' L
  hash : ∀ x, I x → ∃ d : Nat, ∀ (s : Shared) (E : Value → Shared → Prop) (Q : Int → Shared → Prop), Stay h0 s.heap → Q (hs x) { s with toks := s.toks + d } → wpAny (model P w) A (pyHash x) Q E s
  add : ∀ (s : Shared) (E : Value → Shared → Prop) (Q : Bool → Shared → Prop) (L : List Value) (x : Value), S s.heap L → Stay h0 s.heap → (∀ v ∈ L, I v) → I x → L.length + 1 < 64 →
    (∀ b h' L', Heap.SameBut a s.heap h' → S h' L' → (key x ∈ L.map key → L' = L) → (key x ∉ L.map key → L'.Perm (x :: L)) → Q b { s with heap := h' }) → wpAny (model P w) A (setAddHashed a x (hs x)) Q E s
/-- what is in it behind the first items -/
structure Took {κ : Type} (key : Value → κ) (vs : List Value) (L : List Value) : Prop where
  sub : ∀ v ∈ L, v ∈ vs
  all : ∀ v ∈ vs, key v ∈ L.map key
  len : L.length ≤ vs.length
section
variable {P : Program} {w : World} {A : Around} {E : Value → Shared → Prop} {s : Shared} {κ : Type} [DecidableEq κ] {I : Value → Prop} {key : Value → κ} {hs : Value → Int} {S : Heap → List Value → Prop}
theorem Took.more {vs L L' : List Value} {x : Value} (g : Took key vs L) (h1 : key x ∈ L.map key → L' = L) (h2 : key x ∉ L.map key → L'.Perm (x :: L)) : Took key (vs ++ [x]) L' := by
  by_cases q : key x ∈ L.map key
  · rw [h1 q]
    refine ⟨fun v hv => List.mem_append_left _ (g.sub v hv), fun v hv => ?_, by rw [List.length_append]; exact Nat.le_trans g.len (Nat.le_add_right _ _)⟩
    rcases List.mem_append.mp hv with z | z
    · exact g.all v z
    · rw [List.mem_singleton.mp z]
      exact q
  · have p := h2 q
    refine ⟨fun v hv => ?_, fun v hv => ?_, by rw [p.length_eq, List.length_append, List.length_cons]; exact Nat.succ_le_succ g.len⟩
    · rcases List.mem_cons.mp (p.mem_iff.mp hv) with z | z
      · rw [z]
        exact List.mem_append_right _ (List.mem_singleton.mpr rfl)
      · exact List.mem_append_left _ (g.sub v z)
    · rw [(p.map key).mem_iff, List.map_cons]
      rcases List.mem_append.mp hv with z | z
      · exact List.mem_cons_of_mem _ (g.all v z)
      · rw [List.mem_singleton.mp z]
        exact List.mem_cons_self
theorem turns {J : Addr} {fp wr : List Addr} {G : Array GenState → Array GenState → Prop} {its : Array Value} {St : Nat → Shared → Prop} {a : Addr} {h0 : Heap} (W : WalksS P w A.in1 J fp wr G its.size (fun i v => its[i]? = some v) St)
    (out : a ∉ fp) (Gr : Grow P w A.in1 h0 a I key hs S) (hi : ∀ v ∈ its.toList, I v) (few : its.size < 64) (na : h0.get? a = none) (nw : ∀ b ∈ wr, h0.get? b = none) {R : Result → Shared → Prop} : ∀ (m i : Nat) (s : Shared), i + m = its.size → St i s → Stay h0 s.heap →
      (∃ L, S s.heap L ∧ Took key (its.toList.take i) L) → (∀ s' L, Moved (a :: wr) G s s' → S s'.heap L → Took key its.toList L → Stay h0 s'.heap → R (.ok (.ret .none)) s') →
      codeAny (model P w) A (.builtin "set.update.loop" ⟨[.ref a, .ref J], []⟩) R s := by
  have away : a ∉ wr := fun z => out (W.sub _ z)
  have stay : ∀ {s s' : Shared}, Moved wr G s s' → Stay h0 s.heap → Stay h0 s'.heap := fun mv st b o e => mv.heap b o (fun z => by rw [nw b z] at e; cases e) (st b o e)
  have more : ∀ b ∈ wr, b ∈ a :: wr := fun b z => List.mem_cons_of_mem _ z
  intro m
  induction m with
  | zero =>
    intro i s him here st ⟨L, hS, g⟩ k
    have ei : i = its.size := by omega
    subst ei
    refine codeAny_builtin F.entry_set_update_loop ?_
    rw [Around.under_plainId F.plain_set_update_loop _]
    show wpAny _ A.in1 (pyNext (.ref J) >>= _) _ _ s
    refine wpAny_bind (W.done s _ _ here fun s' mv => ?_)
    show wpAny _ A.in1 (ret Value.none) _ _ s'
    rw [List.take_of_length_le (by rw [Array.length_toList]; exact Nat.le_refl _)] at g
    exact wpAny_pure (k s' L (mv.mono more) (Gr.keep _ _ _ hS fun o e => mv.heap a o away e) g (stay mv st))
  | succ m ih =>
    intro i s him here st ⟨L, hS, g⟩ k
    refine codeAny_builtin F.entry_set_update_loop ?_
    rw [Around.under_plainId F.plain_set_update_loop _]
    show wpAny _ A.in1 (pyNext (.ref J) >>= _) _ _ s
    refine wpAny_bind (W.item i s _ _ (by omega) here fun x s1 ex here1 mv => ?_)
    have ex' : its.toList[i]? = some x := by rw [Array.getElem?_toList]; exact ex
    have ix := hi x (List.mem_of_getElem? ex')
    have st1 := stay mv st
    obtain ⟨d, hh⟩ := Gr.hash x ix
    show wpAny _ A.in1 (holding [x] (setAdd a x) >>= _) _ _ s1
    refine wpAny_bind (wpAny_holding ?_)
    unfold setAdd
    refine wpAny_holding (wpAny_bind (hh s1 _ _ st1 ?_))
    refine Gr.add { s1 with toks := s1.toks + d } _ _ L x (Gr.keep _ _ _ hS fun o e => mv.heap a o away e) st1 (fun v hv => hi v (List.mem_of_mem_take (g.sub v hv))) ix ?_ fun b h' L' sb hS' c1 c2 => ?_
    · have q := g.len
      rw [List.length_take] at q
      omega
    have st2 : Stay h0 h' := fun b o e => (sb.2 b (fun z => by rw [z, na] at e; cases e)).trans (st1 b o e)
    have g' := g.more c1 c2
    rw [← take_next ex'] at g'
    refine wpAny_pure ⟨plainId_quiet F.plain_set_update_loop _, ih (i + 1) _ (by omega) (W.frame _ s1 _ _ here1 (Nat.le_add_right _ _) fun b hb o e => ?_) st2 ⟨L', hS', g'⟩ fun s3 L3 mv3 hS3 g3 st3 => ?_⟩
    · rw [sb.2 b (fun z => out (z ▸ hb))]
      exact e
    · refine k s3 L3 (Moved.trans W.gtrans ((mv.mono more).then_heap (Nat.le_add_right _ _) fun b o hb e => ?_) mv3) hS3 g3 st3
      rw [sb.2 b (fun z => hb (z ▸ List.mem_cons_self))]
      exact e
set_option maxHeartbeats 3200000 in
/-- set(xs), xs of the class T -/
theorem set_of {l : Addr} {its : Array Value} {T : String} {Q : Value → Shared → Prop} (hh : A.handled = none) (hl : ∃ o, s.heap.get? l = some o ∧ o.cls = .type T ∧ ∃ n, o.data = .seq its n)
    (t1 : isSubtype (.type T) (.type "set") = pure false) (t2 : isSubtype (.type T) (.type "frozenset") = pure false) (t3 : (Value.type T == Value.type "dict") = false)
    (walk : ∀ h1 : Heap, (∀ o, s.heap.get? l = some o → h1.get? l = some o) → ∀ (s1 : Shared) (E' : Value → Shared → Prop) (Q' : Value → Shared → Prop), s1.heap = h1 →
      (∀ J wr fp G St s2, WalksS P w A.in1.in1.in1 J fp wr G its.size (fun i v => its[i]? = some v) St → St 0 s2 → (∀ b o, h1.get? b = some o → s2.heap.get? b = some o) → s2.gens = s1.gens → s2.drawn = s1.drawn → s2.os = s1.os →
        (∀ b ∈ fp, b = l ∨ h1.objs.size ≤ b) → (∀ b ∈ wr, h1.objs.size ≤ b) → (∀ x y, G x y → y = x) → Q' (.ref J) s2) → wpAny (model P w) A.in1.in1 (pyIter (.ref l)) Q' E' s1)
    (Gr : Grow P w A.in1.in1.in1 s.heap s.heap.objs.size I key hs S) (hi : ∀ v ∈ its.toList, I v) (few : its.size < 64)
    (k : ∀ (h' : Heap) (tk : Nat) (L : List Value), S h' L → Took key its.toList L → Stay s.heap h' → Q (.ref s.heap.objs.size) { s with heap := h', toks := tk }) : wpAny (model P w) A (call (.type "set") [.ref l]) Q E s := by
  obtain ⟨c, tl, hmro⟩ := F.called_set.mro
  have hmade := F.called_set.made
  have hsub := F.called_set.sub
  refine wpAny_call (codeAny_of_tree ?_)
  show wpAny _ _ (callAny (.type "set") _) _ _ _
  refine wpAny_pure ⟨Code.quiet_builtin _ (by decide +kernel), codeAny_builtin F.entry_type_call ?_⟩
  rw [Around.under_plain (weight_type_call_type "set" [.ref l] []) rfl]
  have f1 := F.called_set.notType
  have f2 := F.called_set.canCreate
  have f3 := F.typeCall_set_1 (.ref l)
  repeat (any_goals (first | assumption | wp_step))
  obtain ⟨h1, eh1⟩ : ∃ h1, h1 = s.heap.push (newSet w) := ⟨_, rfl⟩
  have gone : s.heap.get? s.heap.objs.size = none := by
    cases q : s.heap.get? s.heap.objs.size with
    | none => rfl
    | some o => exact absurd (Heap.lt_size q) (Nat.lt_irrefl _)
  have old1 : ∀ b o, s.heap.get? b = some o → h1.get? b = some o := fun b o e => by rw [eh1]; exact Heap.get?_push_of_some _ e
  have new1 : h1.get? s.heap.objs.size = some (newSet w) := by rw [eh1]; exact Heap.get?_push_size _ rfl
  have size1 : h1.objs.size = s.heap.objs.size + 1 := by rw [eh1]; exact Heap.size_push ..
  refine codeAny_mono (code_set_led1 (.ref l) (E := E) (Q₁ := fun v s' => v = .ref s.heap.objs.size ∧ s' = { s with heap := h1 }) ⟨rfl, by rw [eh1]⟩) fun r s' hr => ?_
  cases r with
  | error e => exact hr
  | ok fl => cases fl with
    | ret v =>
      obtain ⟨ev, es'⟩ := hr
      subst ev es'
      have ty : Shared.TypeIs { s with heap := h1 } (.ref s.heap.objs.size) "set" := ⟨_, new1, rfl⟩
      have f4 := F.called_set.init.lookup
      have f5 := F.called_set.init.bind (.ref s.heap.objs.size)
      repeat (any_goals (first | assumption | wp_step))
      refine codeAny_mono (codeAny_call_builtin (R := wants (fun v s2 => v = .none ∧ ∃ h' tk L, s2 = { s with heap := h', toks := tk } ∧ S h' L ∧ Took key its.toList L ∧ Stay s.heap h') E) F.called_set.init.plain F.entry_set_init (check_set_init_1 ty ?_)) fun r2 s2 hr2 => ?_
      · obtain ⟨ol, hol, hcl, nl, hdl⟩ := hl
        obtain ⟨ocls, odict, odata, oslots⟩ := ol
        simp only at hcl hdl
        subst hcl; subst hdl
        have hol1 : h1.get? l = some { cls := .type T, dict := odict, data := .seq its nl, slots := oslots } := old1 _ _ hol
        unfold Builtin.«set.__init__» noKeywords Builtin.Frozenset.updateFrom
        generalize hPI : pyIter = PI
        wp_walk
        subst hPI
        refine walk h1 (fun o e => old1 l o e) _ _ _ rfl fun J wr fp G St s2 W here st g2 d2 o2 hfp hwr hG => ?_
        refine wpAny_bind (wpAny_runValue ?_)
        have none1 : ∀ b, h1.objs.size ≤ b → s.heap.get? b = none := fun b hb => by
          cases q : s.heap.get? b with
          | none => rfl
          | some o =>
            rw [size1] at hb
            exact absurd (Nat.lt_of_lt_of_le (Heap.lt_size q) (Nat.le_of_succ_le hb)) (Nat.lt_irrefl _)
        have stay2 : Stay s.heap s2.heap := fun b o e => st b o (old1 b o e)
        refine turns W (fun z => ?_) Gr hi few gone (fun b hb => none1 b (hwr b hb)) its.size 0 s2 (by omega) here stay2 ⟨[], Gr.new _ (st _ _ new1), ⟨fun v hv => (by cases hv), fun v hv => (by simp at hv), Nat.zero_le _⟩⟩ fun s3 L mv hS g st3 => ?_
        · rcases hfp _ z with q | q
          · have q2 := Heap.lt_size hol
            rw [← q] at q2
            exact absurd q2 (Nat.lt_irrefl _)
          · rw [size1] at q
            omega
        · obtain ⟨h', g3, d3, tk, os3⟩ := s3
          have e1 : g3 = s.gens := (hG _ _ mv.gens).trans g2
          have e2 : d3 = s.drawn := mv.drawn.trans d2
          have e3 : os3 = s.os := mv.os.trans o2
          subst e1 e2 e3
          refine wpAny_pure ?_
          show wpAny _ _ (ret Value.none) _ _ _
          exact wpAny_pure ⟨rfl, h', tk, L, rfl, hS, g, st3⟩
      · cases r2 with
        | error e => exact hr2
        | ok fl2 => cases fl2 with
          | ret r =>
            obtain ⟨er, h', tk, L, e2, hS, g, st3⟩ := hr2
            subst er e2
            repeat (any_goals (first | assumption | wp_step))
            exact k _ _ _ hS g st3
          | _ => exact hr2.elim
    | _ => exact hr.elim
end
end VI
namespace VI
open PySem PySem.Spec PyProof.Rows L2
section
variable {P : Program} {w : World} {A : Around} {E : Value → Shared → Prop} {s : Shared} {κ : Type} [DecidableEq κ] {I : Value → Prop} {key : Value → κ} {hs : Value → Int} {S : Heap → List Value → Prop}
/-- set(xs) of a list, of a tuple -/
theorem set_seq {l : Addr} {its : Array Value} {Q : Value → Shared → Prop} (hh : A.handled = none) (hl : s.heap.IsList l its ∨ s.heap.IsTuple l its)
    (Gr : Grow P w A.in1.in1.in1 s.heap s.heap.objs.size I key hs S) (hi : ∀ v ∈ its.toList, I v) (few : its.size < 64)
    (k : ∀ (h' : Heap) (tk : Nat) (L : List Value), S h' L → Took key its.toList L → Stay s.heap h' → Q (.ref s.heap.objs.size) { s with heap := h', toks := tk }) : wpAny (model P w) A (call (.type "set") [.ref l]) Q E s := by
  have h3 : A.in1.in1.in1.handled = none := by simp [hh]
  have lt : ∀ {h1 : Heap} {o : Obj}, h1.get? l = some o → l < h1.objs.size := fun e => Heap.lt_size e
  rcases hl with hl | hl
  · obtain ⟨o, ho, oc, n, od⟩ := hl
    refine set_of hh ⟨o, ho, oc, n, od⟩ F.sub_list_set F.sub_list_frozenset (by decide) (fun h1 kp s1 E' Q' e1 k1 => ?_) Gr hi few k
    subst e1
    have here : s1.heap.IsList l its := ⟨o, kp o ho, oc, n, od⟩
    have near := lt (kp o ho)
    refine wpAny_pyIter_list here ?_
    refine k1 _ _ _ _ _ _ ((Walks.list h3 _ l (Nat.ne_of_lt near) its).toS) ⟨⟨_, Heap.get?_push_size _ rfl, rfl, rfl⟩, here.push _⟩ (fun b o e => Heap.get?_push_of_some _ e) rfl rfl rfl (fun b hb => ?_) (fun b hb => ?_) fun x y z => z
    · rcases List.mem_cons.mp hb with z | z
      · exact .inr (by rw [z]; exact Nat.le_refl _)
      · exact .inl (List.mem_singleton.mp z)
    · rw [List.mem_singleton.mp hb]
      exact Nat.le_refl _
  · obtain ⟨o, ho, oc, n, od⟩ := hl
    refine set_of hh ⟨o, ho, oc, n, od⟩ F.sub_tuple_set F.sub_tuple_frozenset (by decide) (fun h1 kp s1 E' Q' e1 k1 => ?_) Gr hi few k
    subst e1
    have here : s1.heap.IsTuple l its := ⟨o, kp o ho, oc, n, od⟩
    have near := lt (kp o ho)
    refine wpAny_pyIter_tuple here ?_
    refine k1 _ _ _ _ _ _ ((Walks.tuple h3 _ l (Nat.ne_of_lt near) its).toS) ⟨⟨_, Heap.get?_push_size _ rfl, rfl, rfl⟩, here.push _⟩ (fun b o e => Heap.get?_push_of_some _ e) rfl rfl rfl (fun b hb => ?_) (fun b hb => ?_) fun x y z => z
    · rcases List.mem_cons.mp hb with z | z
      · exact .inr (by rw [z]; exact Nat.le_refl _)
      · exact .inl (List.mem_singleton.mp z)
    · rw [List.mem_singleton.mp hb]
      exact Nat.le_refl _
/-- a set whose members are L, as far as gathering goes -/
structure Gath (w : World) (h : Heap) (a : Addr) (L : List Value) : Prop where
  ex : ∃ es ep t, SetAt h a es ep t ∧ t.fits es.size = true ∧ Ris t.place.toList ∧ (w.params.followText "set-order" = true ∨ t.led = true) ∧ (es.toList.map (·.2)).Perm L
  few : L.length < 64
theorem gather {a : Addr} {L : List Value} {Q : List Value → Shared → Prop} (hh : A.handled = none) (g : Gath w s.heap a L)
    (k : ∀ s' out, Stay s.heap s'.heap → s'.gens = s.gens → s'.os = s.os → s.heap.objs.size ≤ s'.heap.objs.size → out.Perm L → Q out s') : wpAny (model P w) A (collect (.ref a)) Q E s := by
  obtain ⟨es, ep, t, h1, h2, h3, h4, h5⟩ := g.ex
  have z : es.size = L.length := by rw [← h5.length_eq, List.length_map, Array.length_toList]
  have few := g.few
  refine collect_set hh h1 h2 (by unfold scanBound; omega) h3 h4 fun s' out g1 g2 g3 g4 g5 => k s' out g1 g3 g4 g2 (g5.trans h5)
/-- sorted(s), s a set -/
theorem sorted_gath {a : Addr} {L : List Value} {ltv : Value → Value → Bool} {Q : Value → Shared → Prop} (O : SrtO.Swo ltv) (hh : A.handled = none) (g : Gath w s.heap a L)
    (hS : ∀ (h1 : Heap) (b : Addr) (vs : List Value), 2 ≤ vs.length → vs.Perm L → h1.get? b = some (seqObj "list" vs.toArray 0) → (∀ c o, s.heap.get? c = some o → c ≠ b ∧ h1.get? c = some o) → ∀ s1 : Shared, s1.heap = h1 → SrtO.SortableO P w A.in1.in1 s1 b vs ltv)
    (k : ∀ s' p (out : List Value), SrtO.Srtd ltv out → out.Perm L → Stay s.heap s'.heap → s'.gens = s.gens → s'.os = s.os → s.heap.get? p = none → (∃ n, s'.heap.get? p = some (seqObj "list" out.toArray n)) → s.heap.objs.size ≤ p → Q (.ref p) s') :
    wpAny (model P w) A (call (.builtin "sorted") [.ref a]) Q E s := by
  refine Calls.call_function_entry kind_sorted plain_sorted entry_sorted (args_sorted1 _) ?_
  unfold Builtin.«sorted»
  refine wpAny_bind (m := checkCount "sorted" 1 1 _) (wpAny_pure ?_)
  have few := g.few
  refine wpAny_bind (gather (by simp [hh]) g fun s1 vs st e1 e2 e3 pm => ?_)
  have lv : vs.length < 64 := by rw [pm.length_eq]; exact few
  refine wpAny_bind (wpAny_newList ?_ (by rw [sizeLine_eq]; omega))
  have here : (s1.heap.push (seqObj "list" vs.toArray 0)).get? s1.heap.objs.size = some (seqObj "list" vs.toArray 0) := Heap.get?_push_size _ rfl
  refine wpAny_bind (wpAny_holding (wpAny_call_entry slot_list_sort ⟨_, here, rfl⟩ entry_list_sort (SrtO.list_sort_ord (s := { s1 with heap := s1.heap.push (seqObj "list" vs.toArray 0) }) O here (by rw [sizeLine_eq]; omega)
    (fun two => hS _ _ vs two pm here (fun c o e => ⟨fun z => ?_, Heap.get?_push_of_some _ (st c o e)⟩) _ rfl) fun out hs hb => ⟨_, rfl, ?_⟩) (args_list_sort _)))
  · have q := Heap.lt_size e
    rw [z] at q
    exact absurd (Nat.lt_of_lt_of_le q e3) (Nat.lt_irrefl _)
  · obtain ⟨c, hc⟩ := sortedHeap_at (vs := vs) (out := out.toArray) here
    refine wpAny_pure ⟨_, rfl, k _ s1.heap.objs.size out hs (hb.perm.trans pm) (fun b o e => ?_) e1 e2 ?_ ⟨c, hc⟩ e3⟩
    · have q := Heap.lt_size (st b o e)
      show (sortedHeap (s1.heap.push (seqObj "list" vs.toArray 0)) s1.heap.objs.size vs out.toArray).get? b = some o
      rw [sortedHeap_old (Nat.ne_of_lt q) (by rw [size_push']; exact Nat.lt_succ_of_lt q)]
      exact Heap.get?_push_of_some _ (st b o e)
    · cases q : s.heap.get? s1.heap.objs.size with
      | none => rfl
      | some o =>
        exact absurd (Nat.lt_of_lt_of_le (Heap.lt_size q) e3) (Nat.lt_irrefl _)
/-- objects beside -/
theorem grow_tb {h0 : Heap} {a : Addr} (M : Itm P w A h0 I key hs) (O : Obs P w A h0 I) : Grow P w A h0 a I key hs (fun h L => ∃ es ep t, Tb w key hs h a L es ep t) where
  new := fun h e => ⟨#[], 0, _, ⟨_, e, ⟨rfl, rfl, rfl⟩, rfl⟩, rfl, ⟨List.Pairwise.nil, rfl, rfl, .inl rfl, fun x hx => (by cases hx), fun i h j hi => (by simp at hi)⟩, List.nodup_nil, by
    show _ ∨ (!w.params.followText "set-order") = true
    cases w.params.followText "set-order"
    · exact .inr rfl
    · exact .inl rfl, by show 0 * 5 < 7 * 3; decide, by decide⟩
  keep := fun h h' L ⟨es, ep, t, ⟨o, ho, r⟩, b1, b2, b3, b4, b5, b6⟩ e => ⟨es, ep, t, ⟨o, e o ho, r⟩, b1, b2, b3, b4, b5, b6⟩
  hash := M.hash
  add := fun s E Q L x ⟨es, ep, t, B⟩ st hL hx few k => putIn B M O st hL hx few fun b h' L' es' ep' t' sb B' c1 c2 => k b h' L' sb ⟨es', ep', t', B'⟩ c1 c2
theorem Tb.gath {h : Heap} {a : Addr} {L : List Value} {es : Array (Int × Value)} {ep : Nat} {t : SetTable} (B : Tb w key hs h a L es ep t) : Gath w h a L := by
  obtain ⟨o, ho, ox, od⟩ := B.ob
  refine ⟨⟨es, ep, t, ⟨o, ho, ox.1, od⟩, B.fit, B.tab.ris, B.led, ?_⟩, B.few⟩
  rw [B.es, List.map_map]
  have e : ((fun x : Int × Value => x.2) ∘ fun v => (hs v, v)) = id := rfl
  rw [e, List.map_id]
end
def txt (v : Value) : Str := match v with
  | .str x _ => x
  | _ => ⟨#[]⟩
def IsTxt (v : Value) : Prop := ∃ x t, v = .str x t
/-- a set of texts -/
structure Tx (P : Program) (w : World) (h : Heap) (a : Addr) (L : List Value) : Prop where
  ex : ∃ o es ep t, h.get? a = some o ∧ o.ExactSet ∧ o.data = .set es ep t ∧ t.fits es.size = true ∧ Ris t.place.toList ∧ (w.params.followText "set-order" = true ∨ t.led = true) ∧ es.toList.Perm (L.map fun v => (hashStr w (txt v), v))
  nd : (L.map txt).Nodup
  ok : ∀ v ∈ L, IsTxt v
  few : L.length < 64
section
variable {P : Program} {w : World} {A : Around} {E : Value → Shared → Prop} {s : Shared}
theorem Tx.gath {h : Heap} {a : Addr} {L : List Value} (B : Tx P w h a L) : Gath w h a L := by
  obtain ⟨o, es, ep, t, h1, h2, h3, h4, h5, h6, h7⟩ := B.ex
  refine ⟨⟨es, ep, t, ⟨o, h1, h2.1, h3⟩, h4, h5, h6, ?_⟩, B.few⟩
  have q := h7.map (·.2)
  rw [List.map_map] at q
  have e : ((fun x : Int × Value => x.2) ∘ fun v => (hashStr w (txt v), v)) = id := rfl
  rw [e, List.map_id] at q
  exact q
theorem str_is (x : Str) (t : Tok) : (strKind P w).is x (.str x t) = true := by
  show Value.isStrOf x (.str x t) = true
  simp [Value.isStrOf, Value.isStr]
theorem str_mem {x : Str} {L : List Value} {l : List (Int × Value)} (ok : ∀ v ∈ L, IsTxt v) (h : l.Perm (L.map fun v => (hashStr w (txt v), v))) : (∃ e ∈ l, (strKind P w).is x e.2 = true) ↔ x ∈ L.map txt := by
  constructor
  · rintro ⟨e, m, i⟩
    obtain ⟨v, mv, ev⟩ := List.mem_map.mp (h.mem_iff.mp m)
    obtain ⟨y, t, rfl⟩ := ok v mv
    rw [← ev] at i
    have z := (strKind P w).inj _ _ _ i (str_is y t)
    rw [z]
    exact List.mem_map.mpr ⟨_, mv, rfl⟩
  · intro m
    obtain ⟨v, mv, ev⟩ := List.mem_map.mp m
    obtain ⟨y, t, rfl⟩ := ok v mv
    refine ⟨_, h.mem_iff.mpr (List.mem_map.mpr ⟨_, mv, rfl⟩), ?_⟩
    have e : y = x := ev
    rw [← e]
    exact str_is y t
theorem str_elems {L : List Value} {l : List (Int × Value)} (ok : ∀ v ∈ L, IsTxt v) (h : l.Perm (L.map fun v => (hashStr w (txt v), v))) : ElemsOf (strKind P w) l := fun e m => by
  obtain ⟨v, mv, ev⟩ := List.mem_map.mp (h.mem_iff.mp m)
  obtain ⟨y, t, rfl⟩ := ok v mv
  rw [← ev]
  exact ⟨⟨y, str_is y t, rfl⟩, rfl⟩
/-- what stands behind the search, when the text is new -/
theorem behind {a : Addr} {o : Obj} {es : Array (Int × Value)} {ep : Nat} {t : SetTable} {g : Bool → Sem Unit} (hg : ∀ (b : Bool) (s1 : Shared) (Q' : Unit → Shared → Prop), Q' () s1 → wpAny (model P w) A (g b) Q' E s1) (ho : s.heap.get? a = some o) (od : o.data = .set es ep t)
    {es1 : Array (Int × Value)} {t2 : SetTable} (few : es1.size < scanBound) (fit : t2.fits es1.size = true) (ris : Ris t2.place.toList) {wd : Bool} {R : Option Bool → Shared → Prop}
    (k : ∀ h' es' ep' t', Heap.SameBut a s.heap h' → h'.get? a = some { o with data := .set es' ep' t' } → es'.toList.Perm es1.toList → t'.fits es'.size = true → Ris t'.place.toList → t'.led = t2.led → R (some true) { s with heap := h' }) :
    wpAny (model P w) A (do
        storeSet a es1 t2
        if (!wd && t2.tooFull) = true then do
            g (relayAll t2 es1 (SetTable.grown es1.size)).2.2
            storeSet a (relayAll t2 es1 (SetTable.grown es1.size)).1 (relayAll t2 es1 (SetTable.grown es1.size)).2.1
            pure (some true)
          else pure (some true)) R E s := by
  refine wpAny_bind (wpAny_storeSet_of ho od ?_ (fits_of_scanBound few))
  have h1 := store_at (es' := es1) (t' := t2) ho od
  have b1 := Heap.SameBut.update s.heap a (Obj.putSet es1 t2)
  split
  · have p1 := relayAll_perm t2 es1 (SetTable.grown es1.size)
    have p2 := relayAll_fits t2 es1 (SetTable.grown es1.size)
    have p3 := relayAll_ris t2 es1 (SetTable.grown es1.size)
    have p4 := relayAll_led t2 es1 (SetTable.grown es1.size)
    generalize relayAll t2 es1 (SetTable.grown es1.size) = Z at p1 p2 p3 p4 ⊢
    obtain ⟨es2, t3, gave⟩ := Z
    dsimp only at p1 p2 p3 p4 ⊢
    have sz : es2.size = es1.size := p1.length_eq
    refine wpAny_bind (hg _ _ _ (wpAny_bind (wpAny_storeSet_of h1 rfl ?_ (fits_of_scanBound (by rw [sz]; exact few)))))
    have h2 := store_at (es' := es2) (t' := t3) h1 rfl
    exact wpAny_pure (k _ es2 _ t3 (b1.trans (Heap.SameBut.update ..)) h2 p1 p2 p3 p4)
  · exact wpAny_pure (k _ es1 _ t2 b1 h1 (List.Perm.refl _) fit ris rfl)
theorem putTx {a : Addr} {L : List Value} {x : Str} {tk : Tok} {Q : Bool → Shared → Prop} (B : Tx P w s.heap a L) (few : L.length + 1 < 64)
    (k : ∀ b h' L', Heap.SameBut a s.heap h' → Tx P w h' a L' → (x ∈ L.map txt → L' = L) → (x ∉ L.map txt → L'.Perm (.str x tk :: L)) → Q b { s with heap := h' }) : wpAny (model P w) A (setAddHashed a (.str x tk) (hashStr w x)) Q E s := by
  obtain ⟨o, es, ep, t, ho, ox, od, fit, ris, led, pm⟩ := B.ex
  have sz : es.size = L.length := by rw [← Array.length_toList, pm.length_eq, List.length_map]
  have bd : es.size < scanBound := by unfold scanBound; omega
  have el : ElemsOf (strKind P w) es.toList := str_elems B.ok pm
  have sc : (Value.str x tk).scannable = true := rfl
  unfold setAddHashed setAddHashedIn
  refine wpAny_holding (wpAny_bind (wpAny_setState_of ho od fit ?_))
  dsimp only
  rw [byScan_of sc bd el]
  simp only [↓reduceIte]
  unfold setAddByScan
  refine wpAny_bind (wpAny_bind (wpAny_rule (wpAny_bind (wpAny_setScan_of (knd := strKind P w) (k := x) (str_is x tk) ho od fit el ?_))))
  have mem := str_mem (P := P) (x := x) B.ok pm
  cases found : List.findIdx? (fun e => (strKind P w).is x e.2) es.toList with
  | some j =>
    dsimp only
    obtain ⟨hj, pj, _⟩ := List.findIdx?_eq_some_iff_getElem.mp found
    have isIn : x ∈ L.map txt := mem.mp ⟨_, List.getElem_mem hj, pj⟩
    exact wpAny_pure (wpAny_pure (k false s.heap L (Heap.SameBut.refl a s.heap) B (fun _ => rfl) fun z => absurd isIn z))
  | none =>
    dsimp only
    have new : x ∉ L.map txt := fun z => by
      obtain ⟨e, m, i⟩ := mem.mpr z
      have c := List.findIdx?_eq_none_iff.mp found e m
      rw [i] at c
      cases c
    have p1 := layNew_perm t es (hashStr w x) (.str x tk)
    have p2 := layNew_fits t es (hashStr w x) (.str x tk)
    have p3 := layNew_ris t es (hashStr w x) (.str x tk) ris
    have p4 := layNew_led t es (hashStr w x) (.str x tk)
    generalize layNew t es (hashStr w x) (.str x tk) = Z at p1 p2 p3 p4 ⊢
    obtain ⟨es1, t1, wd, gave⟩ := Z
    dsimp only at p1 p2 p3 p4 ⊢
    rw [Array.toList_push] at p1
    have q1 : es1.toList.Perm ((.str x tk :: L).map fun v => (hashStr w (txt v), v)) := (p1.trans (List.perm_append_singleton _ _)).trans (pm.cons _)
    have sz1 : es1.size = L.length + 1 := by rw [← Array.length_toList, q1.length_eq, List.length_map, List.length_cons]
    have bd1 : es1.size < scanBound := by unfold scanBound; omega
    have fin : ∀ h' es' ep' t', Heap.SameBut a s.heap h' → h'.get? a = some { o with data := .set es' ep' t' } → es'.toList.Perm es1.toList → t'.fits es'.size = true → Ris t'.place.toList → t'.led = t1.led → Q true { s with heap := h' } := fun h' es' ep' t' sb g1 g2 g3 g4 g5 =>
      k true h' (.str x tk :: L) sb ⟨⟨_, es', ep', t', g1, ⟨ox.1, ox.2.1, ox.2.2⟩, rfl, g3, g4, by rw [g5, p4]; exact led, g2.trans q1⟩, List.nodup_cons.mpr ⟨new, B.nd⟩, fun v hv => by
        rcases List.mem_cons.mp hv with z | z
        · exact ⟨x, tk, z⟩
        · exact B.ok v z, by rw [List.length_cons]; exact few⟩ (fun z => absurd z new) fun _ => List.Perm.refl _
    have say : ∀ (b : Bool) (s1 : Shared) (Q' : Unit → Shared → Prop), Q' () s1 → wpAny (model P w) A (match b with | true => rule "set.scan.the-table-gave-way" | false => pure ()) Q' E s1 := fun b s1 Q' q => by
      cases b with
      | true => exact wpAny_rule q
      | false => exact wpAny_pure q
    refine wpAny_bind (say _ _ _ ?_)
    split
    · refine wpAny_bind ?_
      rw [hashByValue_scannable 8 sc]
      refine wpAny_pure ?_
      refine behind (s := s) (fun b s1 Q' q => say b s1 Q' q) ho od bd1 (SetTable.fits_plain_off p2) p3 fun h' es' ep' t' sb g1 g2 g3 g4 g5 => ?_
      dsimp only
      exact wpAny_pure (fin h' es' ep' t' sb g1 g2 g3 g4 g5)
    · refine wpAny_bind (wpAny_pure ?_)
      simp only [↓reduceIte]
      refine behind (s := s) (fun b s1 Q' q => say b s1 Q' q) ho od bd1 p2 p3 fun h' es' ep' t' sb g1 g2 g3 g4 g5 => ?_
      dsimp only
      exact wpAny_pure (fin h' es' ep' t' sb g1 g2 g3 g4 g5)
/-- a set that takes texts -/
theorem grow_tx {h0 : Heap} {a : Addr} : Grow P w A h0 a IsTxt txt (fun v => hashStr w (txt v)) (fun h L => Tx P w h a L) where
  new := fun h e => ⟨⟨_, #[], 0, _, e, ⟨rfl, rfl, rfl⟩, rfl, rfl, List.Pairwise.nil, by
    show _ ∨ (!w.params.followText "set-order") = true
    cases w.params.followText "set-order"
    · exact .inr rfl
    · exact .inl rfl, List.Perm.refl _⟩, List.nodup_nil, fun v hv => (by cases hv), by decide⟩
  keep := fun h h' L B e => by
    obtain ⟨o, es, ep, t, ho, r⟩ := B.ex
    exact ⟨⟨o, es, ep, t, e o ho, r⟩, B.nd, B.ok, B.few⟩
  hash := fun x ix => by
    obtain ⟨y, t, rfl⟩ := ix
    exact ⟨1, fun s E Q st q => (strKind P w).pyHash (k := y) (str_is y t) q⟩
  add := fun s E Q L x B st hL hx few k => by
    obtain ⟨y, t, rfl⟩ := hx
    exact putTx B few k
end
end VI
namespace VI
open PySem PySem.Spec PyProof.Rows L2
def insU {α : Type} (lt : α → α → Bool) (x : α) : List α → List α
  | [] => [x]
  | y :: r => if lt x y = true then x :: y :: r else if lt y x = true then y :: insU lt x r else y :: r
def sortU {α : Type} (lt : α → α → Bool) : List α → List α
  | [] => []
  | x :: r => insU lt x (sortU lt r)
def ltS (x y : Str) : Bool := decide (x.cps.toList < y.cps.toList)
def ltL : List Str → List Str → Bool
  | [], [] => false
  | [], _ :: _ => true
  | _ :: _, [] => false
  | x :: r, y :: s => if x = y then ltL r s else ltS x y
/-- a strict order of all -/
structure Tot {α : Type} (lt : α → α → Bool) : Prop where
  irr : ∀ x, lt x x = false
  tri : ∀ x y, x ≠ y → lt x y = true ∨ lt y x = true
  trans : ∀ x y z, lt x y = true → lt y z = true → lt x z = true
theorem Tot.asym {α : Type} {lt : α → α → Bool} (T : Tot lt) {x y : α} (h : lt x y = true) : lt y x = false := by
  cases q : lt y x with
  | false => rfl
  | true =>
    have z := T.trans x y x h q
    rw [T.irr] at z
    cases z
theorem Tot.swo {α β : Type} {lt : α → α → Bool} (T : Tot lt) (f : β → α) : SrtO.Swo (fun u v => lt (f u) (f v)) := ⟨fun x y h => T.asym h, fun x y z h1 h2 => by
  cases q : lt (f z) (f x) with
  | false => rfl
  | true =>
    by_cases e : f x = f y
    · rw [e] at q
      rw [q] at h2
      cases h2
    · rcases T.tri _ _ e with g | g
      · have z := T.trans _ _ _ q g
        rw [z] at h2
        cases h2
      · rw [g] at h1
        cases h1⟩
theorem mem_insU {α : Type} {lt : α → α → Bool} (T : Tot lt) {x z : α} : ∀ {l : List α}, z ∈ insU lt x l ↔ z = x ∨ z ∈ l
  | [] => by simp [insU]
  | y :: r => by
    unfold insU
    by_cases h1 : lt x y = true
    · rw [if_pos h1, List.mem_cons]
    · rw [if_neg h1]
      by_cases h2 : lt y x = true
      · rw [if_pos h2, List.mem_cons, mem_insU T, List.mem_cons]
        constructor
        · rintro (h | h | h)
          · exact .inr (.inl h)
          · exact .inl h
          · exact .inr (.inr h)
        · rintro (h | h | h)
          · exact .inr (.inl h)
          · exact .inl h
          · exact .inr (.inr h)
      · rw [if_neg h2]
        have e : x = y := Classical.byContradiction fun ne => (T.tri x y ne).elim h1 h2
        rw [e, List.mem_cons]
        constructor
        · exact .inr
        · rintro (h | h)
          · exact .inl h
          · exact h
theorem mem_sortU {α : Type} {lt : α → α → Bool} (T : Tot lt) {z : α} : ∀ {l : List α}, z ∈ sortU lt l ↔ z ∈ l
  | [] => Iff.rfl
  | x :: r => by
    show z ∈ insU lt x (sortU lt r) ↔ _
    rw [mem_insU T, mem_sortU T, List.mem_cons]
theorem insU_asc {α : Type} {lt : α → α → Bool} (T : Tot lt) {x : α} : ∀ {l : List α}, l.Pairwise (fun u v => lt u v = true) → (insU lt x l).Pairwise (fun u v => lt u v = true)
  | [], _ => List.pairwise_singleton _ _
  | y :: r, h => by
    obtain ⟨a, b⟩ := List.pairwise_cons.mp h
    unfold insU
    by_cases h1 : lt x y = true
    · rw [if_pos h1]
      refine List.pairwise_cons.mpr ⟨fun z hz => ?_, h⟩
      rcases List.mem_cons.mp hz with e | m
      · rw [e]; exact h1
      · exact T.trans _ _ _ h1 (a z m)
    · rw [if_neg h1]
      by_cases h2 : lt y x = true
      · rw [if_pos h2]
        refine List.pairwise_cons.mpr ⟨fun z hz => ?_, insU_asc T b⟩
        rcases (mem_insU T).mp hz with e | m
        · rw [e]; exact h2
        · exact a z m
      · rw [if_neg h2]
        exact h
theorem sortU_asc {α : Type} {lt : α → α → Bool} (T : Tot lt) : ∀ l : List α, (sortU lt l).Pairwise (fun u v => lt u v = true)
  | [] => List.Pairwise.nil
  | x :: r => insU_asc T (sortU_asc T r)
theorem asc_same {α : Type} {lt : α → α → Bool} (T : Tot lt) : ∀ {l m : List α}, l.Pairwise (fun u v => lt u v = true) → m.Pairwise (fun u v => lt u v = true) → (∀ x, x ∈ l ↔ x ∈ m) → l = m
  | [], [], _, _, _ => rfl
  | [], y :: m, _, _, h => by have z := (h y).mpr List.mem_cons_self; cases z
  | x :: l, [], _, _, h => by have z := (h x).mp List.mem_cons_self; cases z
  | x :: l, y :: m, h1, h2, h => by
    obtain ⟨a1, b1⟩ := List.pairwise_cons.mp h1
    obtain ⟨a2, b2⟩ := List.pairwise_cons.mp h2
    have e : x = y := by
      rcases List.mem_cons.mp ((h x).mp List.mem_cons_self) with e | m1
      · exact e
      · rcases List.mem_cons.mp ((h y).mpr List.mem_cons_self) with e | m2
        · exact e.symm
        · have z := T.asym (a2 x m1)
          rw [a1 y m2] at z
          cases z
    subst e
    have no1 : x ∉ l := fun z => by have q := a1 x z; rw [T.irr] at q; cases q
    have no2 : x ∉ m := fun z => by have q := a2 x z; rw [T.irr] at q; cases q
    rw [asc_same T b1 b2 fun z => ⟨fun mz => ?_, fun mz => ?_⟩]
    · rcases List.mem_cons.mp ((h z).mp (List.mem_cons_of_mem _ mz)) with e | q
      · exact absurd (e ▸ mz) no1
      · exact q
    · rcases List.mem_cons.mp ((h z).mpr (List.mem_cons_of_mem _ mz)) with e | q
      · exact absurd (e ▸ mz) no2
      · exact q
/-- what is in order, each once, is what sortU gives -/
theorem sortU_eq {α : Type} {lt : α → α → Bool} (T : Tot lt) {l m : List α} (h1 : l.Pairwise (fun u v => lt v u = false)) (nd : l.Nodup) (h : ∀ x, x ∈ l ↔ x ∈ m) : l = sortU lt m := by
  refine asc_same T ?_ (sortU_asc T m) fun x => (h x).trans (mem_sortU T).symm
  refine (h1.and nd).imp fun {u v} q => ?_
  rcases T.tri u v q.2 with g | g
  · exact g
  · rw [q.1] at g
    cases g
theorem str_ext {x y : Str} (h : x.cps.toList = y.cps.toList) : x = y := by
  obtain ⟨a⟩ := x
  obtain ⟨b⟩ := y
  have e : a = b := Array.toList_inj.mp h
  rw [e]
theorem tot_S : Tot ltS := ⟨fun x => decide_eq_false (List.lt_irrefl _), fun x y ne => by
  unfold ltS
  rw [decide_eq_true_eq, decide_eq_true_eq]
  refine Classical.byContradiction fun no => ne (str_ext ?_)
  have h1 : ¬ x.cps.toList < y.cps.toList := fun z => no (.inl z)
  have h2 : ¬ y.cps.toList < x.cps.toList := fun z => no (.inr z)
  exact List.le_antisymm (List.not_lt.mp h2) (List.not_lt.mp h1), fun x y z h1 h2 => by
  unfold ltS at h1 h2 ⊢
  rw [decide_eq_true_eq] at h1 h2 ⊢
  exact List.lt_trans h1 h2⟩
theorem ltL_irr : ∀ x, ltL x x = false
  | [] => rfl
  | x :: r => by
    unfold ltL
    rw [if_pos rfl, ltL_irr r]
theorem ltL_tri : ∀ x y, x ≠ y → ltL x y = true ∨ ltL y x = true
  | [], [], h => absurd rfl h
  | [], _ :: _, _ => .inl rfl
  | _ :: _, [], _ => .inr rfl
  | x :: r, y :: s, h => by
    unfold ltL
    by_cases e : x = y
    · rw [if_pos e, if_pos e.symm]
      exact ltL_tri r s fun z => h (by rw [e, z])
    · rw [if_neg e, if_neg (Ne.symm e)]
      exact tot_S.tri x y e
theorem ltL_trans : ∀ x y z, ltL x y = true → ltL y z = true → ltL x z = true
  | [], _, [], _, h2 => by
    rename_i y h1
    cases y <;> simp [ltL] at h2 h1
  | [], _, _ :: _, _, _ => rfl
  | _ :: _, [], _, h1, _ => by simp [ltL] at h1
  | _ :: _, _ :: _, [], _, h2 => by simp [ltL] at h2
  | x :: r, y :: s, z :: t, h1, h2 => by
    unfold ltL at h1 h2 ⊢
    by_cases e1 : x = y
    · rw [if_pos e1] at h1
      subst e1
      by_cases e2 : x = z
      · rw [if_pos e2] at h2 ⊢
        exact ltL_trans r s t h1 h2
      · rw [if_neg e2] at h2 ⊢
        exact h2
    · rw [if_neg e1] at h1
      by_cases e2 : y = z
      · subst e2
        rw [if_neg e1]
        exact h1
      · rw [if_neg e2] at h2
        have h3 := tot_S.trans _ _ _ h1 h2
        by_cases e3 : x = z
        · rw [e3, tot_S.irr] at h3
          cases h3
        · rw [if_neg e3]
          exact h3
theorem tot_L : Tot ltL := ⟨ltL_irr, ltL_tri, ltL_trans⟩
def IsTT (P : Program) (w : World) (h : Heap) (v : Value) (k : List Str) : Prop := ∃ b, v = .ref b ∧ IsTupleKey (strKind P w) h k b
open Classical in
noncomputable def keyT (P : Program) (w : World) (h : Heap) (v : Value) : List Str := if q : ∃ k, IsTT P w h v k then q.choose else []
section
variable {P : Program} {w : World} {A : Around} {E : Value → Shared → Prop} {s : Shared} {h0 : Heap}
theorem keyT_of {v : Value} {k : List Str} (x : IsTT P w h0 v k) : keyT P w h0 v = k := by
  unfold keyT
  have q : ∃ k, IsTT P w h0 v k := ⟨k, x⟩
  rw [dif_pos q]
  obtain ⟨b, e, i⟩ := q.choose_spec
  obtain ⟨b', e', i'⟩ := x
  rw [e] at e'
  cases e'
  exact i.inj i'
theorem IsTT.stay {h : Heap} {v : Value} {k : List Str} (x : IsTT P w h0 v k) (st : Stay h0 h) : IsTT P w h v k := by
  obtain ⟨b, e, o, its, n, ho, r⟩ := x
  exact ⟨b, e, o, its, n, st b o ho, r⟩
theorem tt_itm (hu : A.units < cLine) : Itm P w A h0 (fun v => ∃ k, IsTT P w h0 v k) (keyT P w h0) (fun v => tupleKeyHash (strKind P w) (keyT P w h0 v)) where
  hash := fun x ⟨k, i⟩ => ⟨k.length + 1, fun s E Q st q => by
    rw [keyT_of i] at q
    obtain ⟨b, e, j⟩ := i.stay st
    subst e
    exact wpAny_pyHash_tuple hu j q⟩
  eq := fun x y ⟨k, i⟩ ⟨k', i'⟩ s E Q st q => by
    rw [keyT_of i, keyT_of i'] at q
    obtain ⟨b, e, j⟩ := i.stay st
    obtain ⟨b', e', j'⟩ := i'.stay st
    subst e e'
    exact wpAny_eqBool_tuple hu j j' q
  cong := fun x y _ _ e => by rw [e]
theorem strs_of {k : List Str} {vs : List Value} (h : ItemsAre (strKind P w) k vs) : ∀ v ∈ vs, ∃ x t, v = Value.str x t := by
  induction h with
  | nil => intro v hv; cases hv
  | @cons x v' ks vs h1 _ ih =>
    intro v hv
    rcases List.mem_cons.mp hv with e | hv
    · have h2 : Value.isStrOf x v' = true := h1
      subst e
      cases v <;> first | exact ⟨_, _, rfl⟩ | exact absurd h2 (by simp [Value.isStrOf, Value.isStr])
    · exact ih v hv
theorem tt_class {b : Addr} {k : List Str} {Q : Bool → Shared → Prop} (i : IsTupleKey (strKind P w) s.heap k b) (h : Q false s) : wpAny (model P w) A (ofAClassStatement 8 (.ref b)) Q E s := by
  have ty := i.typeIs
  obtain ⟨o, its, n, ho, _, od, all⟩ := i
  have texts := strs_of all
  unfold ofAClassStatement
  refine wpAny_bind (wpAny_typeOf ty ?_)
  have e : (("tuple" : String) == "tuple") = true := by decide
  simp only [e, if_true, Bool.not_true, Bool.false_eq_true, if_false]
  try refine wpAny_bind (wpAny_pure ?_)
  try simp only [Bool.not_true, Bool.false_eq_true, if_false]
  show wpAny _ _ (seqItems? (.ref b) >>= _) _ _ s
  refine wpAny_bind (wpAny_seqItems ho od ?_)
  dsimp only
  refine wpAny_bind ?_
  show wpAny _ _ (forIn its _ _) _ _ s
  rw [← Array.forIn_toList]
  refine wpAny_forIn_list _ (fun rest r s' => r.1 = none ∧ s' = s ∧ ∀ v ∈ rest, ∃ x t, v = Value.str x t) _ ?turn ?fin _ _ ⟨rfl, rfl, texts⟩
  case turn =>
    rintro v rest r s' ⟨hr, rfl, hall⟩
    obtain ⟨x, t, rfl⟩ := hall v List.mem_cons_self
    have q : ofAClassStatement 7 (.str x t) = pure false := rfl
    rw [q]
    refine wpAny_bind (wpAny_pure ?_)
    simp only [Bool.false_eq_true, if_false]
    exact wpAny_pure ⟨rfl, rfl, fun u hu => hall u (List.mem_cons_of_mem _ hu)⟩
  case fin =>
    rintro ⟨r1, r2⟩ s' ⟨hr, rfl, _⟩
    simp only at hr
    subst hr
    exact wpAny_pure h
theorem tt_obs : Obs P w A h0 (fun v => ∃ k, IsTT P w h0 v k) where
  ref := fun x ⟨k, b, e, _⟩ => ⟨b, e⟩
  seen := fun x ⟨k, i⟩ ys hy s E Q st q => by
    obtain ⟨b, e, j⟩ := i.stay st
    subst e
    unfold searchCouldBeSeen
    refine wpAny_bind ?_
    refine wpAny_forIn_list _ (fun rest r s' => r.1 = none ∧ s' = s ∧ ∀ y ∈ rest, ∃ k, IsTT P w h0 y k) _ ?turn ?fin _ _ ⟨rfl, rfl, hy⟩
    case turn =>
      rintro v rest r s' ⟨hr, rfl, hall⟩
      have rest' : ∀ y ∈ rest, ∃ k, IsTT P w h0 y k := fun u hu => hall u (List.mem_cons_of_mem _ hu)
      obtain ⟨k', i'⟩ := hall v List.mem_cons_self
      obtain ⟨c, e, j'⟩ := i'.stay st
      subst e
      dsimp only
      by_cases hv : (b == c || (carriedByValue (.ref b) && carriedByValue (.ref c))) = true
      · exact wp_if_pos hv (wpAny_pure ⟨rfl, rfl, rest'⟩)
      · refine wp_if_neg hv (wpAny_bind (wpAny_eqIsQuiet_tuple j ?_))
        simp only [Bool.not_true, Bool.false_eq_true, if_false]
        refine wpAny_bind (wpAny_eqIsQuiet_tuple j' ?_)
        simp only [Bool.not_true, Bool.false_eq_true, if_false]
        refine wpAny_bind (tt_class j ?_)
        simp only [Bool.false_eq_true, if_false]
        refine wpAny_bind (tt_class j' ?_)
        simp only [Bool.false_eq_true, if_false]
        exact wpAny_pure ⟨rfl, rfl, rest'⟩
    case fin =>
      rintro ⟨r1, r2⟩ s' ⟨hr, rfl, _⟩
      simp only at hr
      subst hr
      exact wpAny_pure q
  plain := fun x ⟨k, i⟩ s E Q st q => by
    obtain ⟨b, e, j⟩ := i.stay st
    subst e
    have ty := j.typeIs
    obtain ⟨o, its, n, ho, _, od, all⟩ := j
    have texts := strs_of all
    unfold hashByValue
    refine wpAny_bind (wpAny_specialOf ty F.slot_tuple_hash.lookup ?_)
    show wpAny _ _ (seqItems? (.ref b) >>= _) _ _ s
    refine wpAny_bind (wpAny_seqItems ho od ?_)
    refine wpAny_bind ?_
    show wpAny _ _ (forIn its _ _) _ _ s
    rw [← Array.forIn_toList]
    cases hl : its.toList with
    | nil =>
      rw [List.forIn_nil]
      exact wpAny_pure (wpAny_pure (q true))
    | cons v l =>
      rw [hl] at texts
      obtain ⟨x, t, rfl⟩ := texts v List.mem_cons_self
      rw [List.forIn_cons]
      have z : hashByValue 7 (.str x t) = pure false := rfl
      rw [z]
      refine wpAny_bind (wpAny_bind (wpAny_pure ?_))
      simp only [Bool.not_false, if_true]
      first
        | exact wpAny_pure (wpAny_pure (wpAny_pure (q false)))
        | exact wpAny_pure (wpAny_pure (q false))
        | exact wpAny_bind (wpAny_pure (wpAny_pure (wpAny_pure (q false))))
end
end VI
namespace VI
open PySem PySem.Spec PyProof.Rows L2
section
variable {P : Program} {w : World} {A : Around} {E : Value → Shared → Prop} {s : Shared} {h0 : Heap}
theorem txt_sortable {a : Addr} {vs : List Value} (h2 : 2 ≤ vs.length) (ok : ∀ v ∈ vs, IsTxt v) : SrtO.SortableO P w A s a vs (fun v u => ltS (txt v) (txt u)) := by
  intro h' keep
  refine ⟨oneType', fun Q E hq => PySem.W.kas_kind (T := .type "str") h2 (fun v hv => ?_) (by decide) (by rfl) hq, fun p q hp hq => ?_⟩
  · obtain ⟨x, t, rfl⟩ := ok v hv
    exact PySem.W.Looks.of_pure rfl
  · obtain ⟨x, t, e1⟩ := ok _ hp
    obtain ⟨y, u, e2⟩ := ok _ hq
    show wpAny (model P w) A (keyLt' oneType' p.1 q.1) (fun r s' => s' = _ ∧ r = ltS (txt p.1) (txt q.1)) _ _
    rw [e1, e2]
    exact PySem.W.kas_lt_str ⟨rfl, rfl⟩
/-- by their items -/
theorem items_lex {b : Bool} {Q : Bool → Shared → Prop} : ∀ {ks js : List Str} {xs ys : List Value} (i : Nat), ItemsAre (strKind P w) ks xs → ItemsAre (strKind P w) js ys → Q (ltL ks js) s → PySem.W.KatLex P w A b (decide (xs.length < ys.length)) Q (xs.zip ys) i s
  | _, _, _, _, i, .nil, .nil, h => h
  | _, _, _, _, i, .nil, .cons _ _, h => h
  | _, _, _, _, i, .cons _ _, .nil, h => h
  | k :: ks, j :: js, x :: xs, y :: ys, i, .cons h1 t1, .cons h2 t2, h => by
    obtain ⟨k', t, ex⟩ := strs_of (P := P) (w := w) (.cons h1 t1) x List.mem_cons_self
    obtain ⟨j', u, ey⟩ := strs_of (P := P) (w := w) (.cons h2 t2) y List.mem_cons_self
    subst ex ey
    have ek : k = k' := (strKind P w).inj _ _ _ h1 (str_is k' t)
    have ej : j = j' := (strKind P w).inj _ _ _ h2 (str_is j' u)
    subst ek ej
    refine PySem.W.kat_cons ((strKind P w).eqBool h1 h2 ?_)
    unfold ltL at h
    by_cases e : k = j
    · rw [if_pos e] at h
      rw [decide_eq_true e]
      have le : decide ((Value.str k t :: xs).length < (Value.str j u :: ys).length) = decide (xs.length < ys.length) := by simp
      rw [le]
      exact PySem.W.kat_yes (items_lex (i + 1) t1 t2 h)
    · rw [if_neg e] at h
      rw [decide_eq_false e]
      refine PySem.W.kat_no ?_
      cases hb : (b && i == 0) with
      | true => exact oneLt_str h
      | false => exact PySem.W.kat_one _ _ (PyProof.Rows.lt_str (x := k) (y := j) (Q := PySem.W.BoolBack Q) h)
/-- by tuple's own < -/
theorem ltL_cons {x y : Str} {r s : List Str} : ltL (x :: r) (y :: s) = if x = y then ltL r s else ltS x y := rfl
theorem lex_drop {e r : Nat → Bool} {k j : List Str} (he : ∀ i (x y : Str), k[i]? = some x → j[i]? = some y → e i = decide (x = y)) (hr : ∀ i (x y : Str), k[i]? = some x → j[i]? = some y → r i = ltS x y) :
    ∀ (m i : Nat), i + m = min k.length j.length → Ob.lexAt e r (decide (k.length < j.length)) i m = ltL (k.drop i) (j.drop i)
  | 0, i, h => by
    rw [Ob.lexAt_zero]
    rcases Nat.lt_or_ge k.length j.length with c | c
    · have e1 : i = k.length := by omega
      rw [decide_eq_true c, List.drop_eq_nil_of_le (by omega), List.drop_eq_getElem_cons (by omega)]
      rfl
    · rw [decide_eq_false (by omega), List.drop_eq_nil_of_le (as := j) (by omega)]
      cases k.drop i <;> rfl
  | m + 1, i, h => by
    have h1 : i < k.length := by omega
    have h2 : i < j.length := by omega
    rw [Ob.lexAt_succ, lex_drop he hr m (i + 1) (by omega), List.drop_eq_getElem_cons h1, List.drop_eq_getElem_cons h2]
    have a := he i _ _ (List.getElem?_eq_getElem h1) (List.getElem?_eq_getElem h2)
    have b := hr i _ _ (List.getElem?_eq_getElem h1) (List.getElem?_eq_getElem h2)
    rw [ltL_cons, a, b]
    by_cases c : k[i] = j[i]
    · rw [decide_eq_true c, if_pos rfl, if_pos c]
    · rw [decide_eq_false c, if_neg Bool.false_ne_true, if_neg c]
theorem items_at {k : List Str} {vs : List Value} (h : ItemsAre (strKind P w) k vs) : ∀ (i : Nat) (v : Value), vs[i]? = some v → ∃ x t, k[i]? = some x ∧ v = .str x t := by
  induction h with
  | nil => intro i v e; simp at e
  | @cons x v' ks vs h1 t1 ih =>
    intro i v e
    cases i with
    | zero =>
      rw [List.getElem?_cons_zero] at e
      cases e
      obtain ⟨y, t, rfl⟩ := strs_of (P := P) (w := w) (.cons h1 t1) v' List.mem_cons_self
      exact ⟨y, t, by rw [List.getElem?_cons_zero, (strKind P w).inj _ _ _ h1 (str_is y t)], rfl⟩
    | succ i =>
      rw [List.getElem?_cons_succ] at e ⊢
      exact ih i v e
theorem tt_call_lt {a b : Addr} {k j : List Str} {Q : Value → Shared → Prop} (h1 : IsTupleKey (strKind P w) s.heap k a) (h2 : IsTupleKey (strKind P w) s.heap j b) (h : Q (.bool (ltL k j)) s) : wpAny (model P w) A (call (.builtin "tuple.__lt__") [.ref a, .ref b]) Q E s := by
  have ty := h1.typeIs
  obtain ⟨⟨cls, dd, data, sl⟩, its, n, ho, oc, od, all⟩ := h1
  obtain ⟨⟨cls2, dd2, data2, sl2⟩, its2, n2, ho2, oc2, od2, all2⟩ := h2
  simp only at oc od oc2 od2
  subst oc od oc2 od2
  have l1 := all.length
  have l2 := all2.length
  have l1 : k.length = its.size := l1.trans (Array.length_toList ..)
  have l2 : j.length = its2.size := l2.trans (Array.length_toList ..)
  have g1 : ∀ i (hi : i < its.size), ∃ x t, k[i]? = some x ∧ its[i] = Value.str x t := fun i hi => items_at all i _ (by rw [Array.getElem?_toList]; exact Array.getElem?_eq_getElem hi)
  have g2 : ∀ i (hi : i < its2.size), ∃ x t, j[i]? = some x ∧ its2[i] = Value.str x t := fun i hi => items_at all2 i _ (by rw [Array.getElem?_toList]; exact Array.getElem?_eq_getElem hi)
  refine call_meets F.slot_tuple_lt ty F.entry_tuple_lt (F.args_tuple_lt_2 _ _) (Ob.tuple_ltAt a b its its2 n n2 dd dd2 sl sl2 (fun i => decide (k.getD i ⟨#[]⟩ = j.getD i ⟨#[]⟩)) (fun i => ltS (k.getD i ⟨#[]⟩) (j.getD i ⟨#[]⟩))) ⟨ho, ho2, fun i c1 c2 => ?_, fun i c1 c2 _ => ?_, ?_⟩
  · obtain ⟨x, t, e1, e2⟩ := g1 i c1
    obtain ⟨y, u, e3, e4⟩ := g2 i c2
    rw [e2, e4, List.getD_eq_getElem?_getD, List.getD_eq_getElem?_getD, e1, e3]
    have e5 : (x == y) = decide (x = y) := by
      by_cases c : x = y
      · rw [decide_eq_true c, c, beq_self_eq_true]
      · rw [decide_eq_false c, beq_eq_false_iff_ne.mpr c]
    show SeqAt.EqAt _ s (.str x t) (.str y u) (decide (x = y))
    rw [← e5]
    exact SeqAt.EqAt.str_str x t y u
  · obtain ⟨x, t, e1, e2⟩ := g1 i c1
    obtain ⟨y, u, e3, e4⟩ := g2 i c2
    rw [e2, e4, List.getD_eq_getElem?_getD, List.getD_eq_getElem?_getD, e1, e3]
    exact fun prog w' E' Q' q => PyProof.Rows.lt_str q
  · have z := lex_drop (k := k) (j := j) (e := fun i => decide (k.getD i ⟨#[]⟩ = j.getD i ⟨#[]⟩)) (r := fun i => ltS (k.getD i ⟨#[]⟩) (j.getD i ⟨#[]⟩)) (fun i x y e1 e2 => by
      show decide (k.getD i _ = j.getD i _) = _
      rw [List.getD_eq_getElem?_getD, List.getD_eq_getElem?_getD, e1, e2]
      rfl) (fun i x y e1 e2 => by
      show ltS (k.getD i _) (j.getD i _) = _
      rw [List.getD_eq_getElem?_getD, List.getD_eq_getElem?_getD, e1, e2]
      rfl) (min k.length j.length) 0 (by omega)
    rw [List.drop_zero, List.drop_zero, l1, l2] at z
    first
      | (show wants Q E _ _; rw [z]; exact h)
      | (rw [z]; exact h)
theorem tt_lt {c : Bool} {a b : Addr} {k j : List Str} {Q : Bool → Shared → Prop} (hu : A.units < cLine) (h1 : IsTupleKey (strKind P w) s.heap k a) (h2 : IsTupleKey (strKind P w) s.heap j b) (h : Q (ltL k j) s) : wpAny (model P w) A (oneLt' c (.ref a) (.ref b)) Q E s := by
  cases c with
  | true =>
    rw [oneLt'_eq]
    simp only [if_true]
    refine wpAny_bind (wpAny_cRoomFor hu ?_)
    refine wpAny_bind (wpAny_callSpecialIfBound?_slot h1.typeIs F.slot_tuple_lt (tt_call_lt h1 h2 ?_))
    exact wpAny_truthy_bool h
  | false =>
    refine PySem.W.kat_one _ _ ?_
    show wpAny _ _ (richCompare .Lt (.ref a) (.ref b)) _ _ _
    exact wpAny_richCompare_same_room (op := .Lt) h1.typeIs h2.typeIs F.slot_tuple_lt (tt_call_lt h1 h2 ⟨(fun z => nomatch z), h⟩) hu
/-- the first item, where there is one -/
theorem first_of {v : Value} {k : List Str} {Q : Option Value → Shared → Prop} (i : IsTT P w s.heap v k) (h : ∀ f : Option Value, f.isSome = !k.isEmpty → (∀ x, f = some x → ∃ y t, x = Value.str y t) → Q f s) : wpAny (model P w) A (firstOfTuple' v) Q E s := by
  obtain ⟨b, e, j⟩ := i
  subst e
  have ty := j.typeIs
  obtain ⟨o, its, n, ho, oc, od, all⟩ := j
  have texts := strs_of all
  have len := all.length
  rw [PySem.W.kas_first_eq]
  refine wpAny_bind (wpAny_typeOf ty ?_)
  refine wp_if_neg (by decide) ?_
  try refine wpAny_bind (wpAny_pure ?_)
  refine wpAny_bind (listItems_at ho od (wpAny_pure ?_))
  refine h _ ?_ fun x e => texts x (List.mem_of_getElem? (by rw [Array.getElem?_toList]; exact e))
  rw [← Array.getElem?_toList]
  cases k with
  | nil =>
    have z : its.toList = [] := List.eq_nil_of_length_eq_zero (by rw [← len]; rfl)
    rw [z]
    rfl
  | cons x k =>
    cases hl : its.toList with
    | nil => rw [hl] at len; cases len
    | cons v l => rfl
theorem firsts_of' : ∀ (vs : List Value) {Q : List (Option Value) → Shared → Prop}, (∀ v ∈ vs, ∃ k, IsTT P w s.heap v k) →
    (∀ fs : List (Option Value), fs.map (·.isSome) = vs.map (fun v => !(keyT P w s.heap v).isEmpty) → Q fs s) → wpAny (model P w) A (vs.mapM firstOfTuple') Q E s
  | [], Q, _, h => by rw [List.mapM_nil]; exact wpAny_pure (h [] rfl)
  | v :: vs, Q, hv, h => by
    obtain ⟨k, i⟩ := hv v List.mem_cons_self
    rw [List.mapM_cons]
    refine wpAny_bind (first_of i fun f e _ => wpAny_bind (firsts_of' vs (fun u m => hv u (List.mem_cons_of_mem _ m)) fun fs hl => wpAny_pure (h (f :: fs) ?_)))
    rw [List.map_cons, List.map_cons, hl, e, keyT_of i]
theorem keyT_stay {h : Heap} {v : Value} (st : Stay h0 h) (i : ∃ k, IsTT P w h0 v k) : keyT P w h v = keyT P w h0 v := by
  obtain ⟨k, i⟩ := i
  rw [keyT_of i, keyT_of (i.stay st)]
theorem one_type {vs : List Value} {T : Value} {Q : Option Value → Shared → Prop} (hT : ∀ v ∈ vs, ∀ Q' : Value → Shared → Prop, Q' T s → wpAny (model P w) A (typeOf v) Q' E s) (e : (T == T) = true) (h0 : 0 < vs.length) (h : Q (some T) s) : wpAny (model P w) A (oneTypeOnly' vs.toArray) Q E s := by
  rw [oneTypeOnly'_eq, List.mapM_toArray, map_eq_pure_bind]
  refine wpAny_bind (wpAny_bind (PySem.W.kas_mapM (r := T) _ (fun v hv Q' hq => hT v hv Q' hq) (wpAny_pure ?_)))
  have all : ((vs.map fun _ => T).toArray.all fun x => x == T) = true := by
    simp only [List.all_toArray, List.all_map, List.all_eq_true]
    intro _ _
    exact e
  obtain ⟨v, r, ev⟩ : ∃ v r, vs = v :: r := by
    match vs, h0 with
    | v :: r, _ => exact ⟨v, r, rfl⟩
  subst ev
  have z : ((v :: r).map fun _ => T).toArray[0]? = some T := by simp
  rw [z]
  simp only [all, if_true]
  exact wpAny_pure h
theorem tt_sortable {a : Addr} {vs : List Value} (hu : A.units < cLine) (h2 : 2 ≤ vs.length) (st : ∀ b o, h0.get? b = some o → b ≠ a ∧ s.heap.get? b = some o) (ok : ∀ v ∈ vs, ∃ k, IsTT P w h0 v k) : SrtO.SortableO P w A s a vs (fun v u => ltL (keyT P w h0 v) (keyT P w h0 u)) := by
  intro h' keep
  have st' : Stay h0 h' := fun b o e => keep b o (st b o e).1 (st b o e).2
  have ok' : ∀ v ∈ vs, ∃ k, IsTT P w h' v k := fun v hv => let ⟨k, i⟩ := ok v hv; ⟨k, i.stay st'⟩
  have cmp1 : ∀ c : Bool, ∀ p q : Keyed, p.1 ∈ vs → q.1 ∈ vs → wpAny (model P w) A (oneLt' c p.1 q.1) (fun r s' => s' = { s with heap := h' } ∧ r = ltL (keyT P w h0 p.1) (keyT P w h0 q.1)) (fun _ _ => False) { s with heap := h' } := fun c p q hp hq => by
    obtain ⟨k, i⟩ := ok _ hp
    obtain ⟨j, i'⟩ := ok _ hq
    rw [keyT_of i, keyT_of i']
    obtain ⟨b, e, x⟩ := i.stay st'
    obtain ⟨b', e', x'⟩ := i'.stay st'
    rw [e, e']
    exact tt_lt (s := { s with heap := h' }) hu x x' ⟨rfl, rfl⟩
  have cmp2 : ∀ c : Bool, ∀ p q : Keyed, p.1 ∈ vs → q.1 ∈ vs → wpAny (model P w) A (keyLt' (tuples' c) p.1 q.1) (fun r s' => s' = { s with heap := h' } ∧ r = ltL (keyT P w h0 p.1) (keyT P w h0 q.1)) (fun _ _ => False) { s with heap := h' } := fun c p q hp hq => by
    obtain ⟨k, i⟩ := ok _ hp
    obtain ⟨j, i'⟩ := ok _ hq
    rw [keyT_of i, keyT_of i']
    obtain ⟨b, e, o, its, n, ho, oc, od, all⟩ := i.stay st'
    obtain ⟨b', e', o', its', n', ho', oc', od', all'⟩ := i'.stay st'
    rw [e, e']
    refine PySem.W.kat_lt (s := { s with heap := h' }) ho od ho' od' ?_
    have z := items_lex (A := A) (s := { s with heap := h' }) (b := c) (Q := fun r s' => s' = { s with heap := h' } ∧ r = ltL k j) 0 all all' ⟨rfl, rfl⟩
    rw [Array.length_toList, Array.length_toList] at z
    exact z
  have types : ∀ v ∈ vs, ∀ Q' : Value → Shared → Prop, Q' (.type "tuple") { s with heap := h' } → ∀ E, wpAny (model P w) A (typeOf v) Q' E { s with heap := h' } := fun v hv Q' hq E => by
    obtain ⟨k, b, e, x⟩ := ok' v hv
    subst e
    exact wpAny_typeOf (s := { s with heap := h' }) x.typeIs hq
  -- what the kind will be hangs on the items alone
  by_cases full : ∀ v ∈ vs, keyT P w h0 v ≠ []
  · obtain ⟨fs, f1, f2, f3⟩ : ∃ fs, PySem.W.KatTups h' vs fs ∧ fs.length = vs.length ∧ ∀ f ∈ fs, ∃ y t, f = Value.str y t := by
      have go : ∀ us : List Value, (∀ v ∈ us, ∃ k, IsTT P w h0 v k ∧ k ≠ []) → ∃ fs, PySem.W.KatTups h' us fs ∧ fs.length = us.length ∧ ∀ f ∈ fs, ∃ y t, f = Value.str y t := by
        intro us
        induction us with
        | nil => intro _; exact ⟨[], PySem.W.KatTups.nil, rfl, fun f m => by cases m⟩
        | cons v us ih =>
          intro hv
          obtain ⟨fs, g1, g2, g3⟩ := ih fun u m => hv u (List.mem_cons_of_mem _ m)
          obtain ⟨k, i, ne⟩ := hv v List.mem_cons_self
          obtain ⟨b, e, o, its, n, ho, oc, od, all⟩ := i.stay st'
          subst e
          have texts := strs_of all
          have len := all.length
          cases hl : its.toList with
          | nil =>
            rw [hl] at len
            exact absurd (List.eq_nil_of_length_eq_zero len) ne
          | cons x l =>
            have hx : its[0]? = some x := by rw [← Array.getElem?_toList, hl]; rfl
            refine ⟨x :: fs, PySem.W.KatTups.cons ho oc od hx g1, by rw [List.length_cons, List.length_cons, g2], fun f mf => ?_⟩
            rcases List.mem_cons.mp mf with z | z
            · rw [z]; exact texts x (by rw [hl]; exact List.mem_cons_self)
            · exact g3 f z
      exact go vs fun v hv => let ⟨k, i⟩ := ok v hv; ⟨k, i, by rw [← keyT_of i]; exact full v hv⟩
    refine ⟨tuples' true, fun Q E hq => PySem.W.kat_kind (s := { s with heap := h' }) (T := .type "str") f1 (by omega) (fun f mf => ?_) (by rfl) ?_, fun p q hp hq => cmp2 true p q hp hq⟩
    · obtain ⟨y, t, rfl⟩ := f3 f mf
      exact PySem.W.Looks.of_pure rfl
    · have e : (Value.type "str" != Value.type "tuple") = true := by decide
      rw [e]
      exact hq
  · -- some tuple is empty
    obtain ⟨u0, m0, e0⟩ : ∃ v ∈ vs, keyT P w h0 v = [] := Classical.byContradiction fun no => full fun v hv e => no ⟨v, hv, e⟩
    obtain ⟨v0, r0, ev⟩ : ∃ v r, vs = v :: r := by
      match vs, h2 with
      | v :: r, _ => exact ⟨v, r, rfl⟩
    have ks : (vs.map fun v => !(keyT P w h' v).isEmpty) = vs.map fun v => !(keyT P w h0 v).isEmpty := List.map_congr_left fun v hv => by rw [keyT_stay st' (ok v hv)]
    have notAll : ∀ fs : List (Option Value), fs.map (·.isSome) = (vs.map fun v => !(keyT P w h' v).isEmpty) → (fs.toArray.all fun x => x.isSome) = false := fun fs hf => by
      rw [ks] at hf
      have m : false ∈ fs.map (·.isSome) := by
        rw [hf]
        exact List.mem_map.mpr ⟨u0, m0, by rw [e0]; rfl⟩
      obtain ⟨f, mf, ef⟩ := List.mem_map.mp m
      simp only [List.all_toArray]
      exact List.all_eq_false.mpr ⟨f, mf, by rw [ef]; decide⟩
    have firstIs : ∀ fs : List (Option Value), fs.map (·.isSome) = (vs.map fun v => !(keyT P w h' v).isEmpty) → (fs.toArray[0]?.bind id).isSome = !(keyT P w h0 v0).isEmpty := fun fs hf => by
      rw [ks, ev] at hf
      cases fs with
      | nil => cases hf
      | cons f fs =>
        rw [List.map_cons, List.map_cons] at hf
        have z := (List.cons.inj hf).1
        rw [← z]
        simp
    by_cases c : keyT P w h0 v0 = []
    · refine ⟨oneType', fun Q E hq => ?_, fun p q hp hq => cmp1 true p q hp hq⟩
      rw [kat_kind_eq, List.mapM_toArray, map_eq_pure_bind]
      refine wpAny_bind (wpAny_bind (firsts_of' (s := { s with heap := h' }) vs ok' fun fs hf => wpAny_pure ?_))
      refine wp_if_neg (by rw [notAll fs hf]; decide) ?_
      try refine wpAny_bind (wpAny_pure ?_)
      refine wp_if_neg (by rw [firstIs fs hf, c]; decide) ?_
      try refine wpAny_bind (wpAny_pure ?_)
      refine wpAny_bind (one_type (s := { s with heap := h' }) (fun v hv Q' hq' => types v hv Q' hq' _) (by rfl) (by omega) ?_)
      exact wpAny_pure hq
    · refine ⟨general', fun Q E hq => ?_, fun p q hp hq => cmp1 false p q hp hq⟩
      rw [kat_kind_eq, List.mapM_toArray, map_eq_pure_bind]
      refine wpAny_bind (wpAny_bind (firsts_of' (s := { s with heap := h' }) vs ok' fun fs hf => wpAny_pure ?_))
      refine wp_if_neg (by rw [notAll fs hf]; decide) ?_
      try refine wpAny_bind (wpAny_pure ?_)
      have ne : (keyT P w h0 v0).isEmpty = false := by
        cases q : keyT P w h0 v0 with
        | nil => exact absurd q c
        | cons a b => rfl
      refine wp_if_pos (by rw [firstIs fs hf, ne]; rfl) ?_
      exact wpAny_pure hq
end
end VI
namespace VI
open PySem PySem.Spec PyProof.Rows L2
theorem took_keys {κ : Type} [DecidableEq κ] {key : Value → κ} {vs L out : List Value} (t : Took key vs L) (p : out.Perm L) (x : κ) : x ∈ out.map key ↔ x ∈ vs.map key := by
  rw [(p.map key).mem_iff]
  constructor
  · intro m
    obtain ⟨v, mv, e⟩ := List.mem_map.mp m
    exact List.mem_map.mpr ⟨v, t.sub v mv, e⟩
  · intro m
    obtain ⟨v, mv, e⟩ := List.mem_map.mp m
    rw [← e]
    exact t.all v mv
theorem vals_txt : ∀ {ks : List Str} {us : List Value}, Vals (ks.map V.str) us → us.map txt = ks ∧ ∀ v ∈ us, IsTxt v
  | [], _, .nil => ⟨rfl, fun v hv => by cases hv⟩
  | k :: ks, _, .cons r t => by
    obtain ⟨tk, rfl⟩ := r
    obtain ⟨h1, h2⟩ := vals_txt t
    refine ⟨by rw [List.map_cons, h1]; rfl, fun v hv => ?_⟩
    rcases List.mem_cons.mp hv with e | m
    · exact ⟨k, tk, e⟩
    · exact h2 v m
theorem txt_vals : ∀ {us : List Value}, (∀ v ∈ us, IsTxt v) → Vals ((us.map txt).map V.str) us
  | [], _ => .nil
  | u :: us, h => by
    obtain ⟨x, t, rfl⟩ := h u List.mem_cons_self
    exact .cons ⟨t, rfl⟩ (txt_vals fun v hv => h v (List.mem_cons_of_mem _ hv))
theorem vals_tt : ∀ {bs : List (Addr × List Str)} {us : List Value}, Vals (bs.map fun b => V.ref b.1) us → us = bs.map fun b => Value.ref b.1
  | [], _, .nil => rfl
  | b :: bs, _, .cons r t => by
    cases r
    rw [vals_tt t]
    rfl
theorem tt_vals : ∀ (bs : List (Addr × List Str)), Vals (bs.map fun b => V.ref b.1) (bs.map fun b => Value.ref b.1)
  | [] => .nil
  | b :: bs => .cons rfl (tt_vals bs)
theorem lift_tt {bs : List (Addr × List Str)} : ∀ out : List Value, (∀ v ∈ out, v ∈ bs.map fun b => Value.ref b.1) → ∃ cs : List (Addr × List Str), out = cs.map (fun b => Value.ref b.1) ∧ ∀ c ∈ cs, c ∈ bs
  | [], _ => ⟨[], rfl, fun c h => by cases h⟩
  | v :: out, h => by
    obtain ⟨b, mb, e⟩ := List.mem_map.mp (h v List.mem_cons_self)
    obtain ⟨cs, e2, h2⟩ := lift_tt out fun u hu => h u (List.mem_cons_of_mem _ hu)
    refine ⟨b :: cs, by rw [List.map_cons, e, e2], fun c hc => ?_⟩
    rcases List.mem_cons.mp hc with z | z
    · rw [z]; exact mb
    · exact h2 c z
theorem items_strs {P : Program} {w : World} : ∀ {k : List Str} {us : List Value}, Vals (k.map V.str) us → ItemsAre (strKind P w) k us
  | [], _, .nil => .nil
  | n :: k, _, .cons r t => by
    obtain ⟨tk, rfl⟩ := r
    exact .cons (str_is n tk) (items_strs t)
def tSS (K : PySem.W.Frag) (ta : TE) : TE := fun σ H Q => ta σ H fun x H1 => ∃ (l : Addr) (xs : List V), x = V.ref l ∧ (SqL K H1 l xs ∨ SqT K H1 l xs) ∧ xs.length < 64 ∧
  ((∃ ks : List Str, xs = ks.map V.str ∧ ∀ p, H1 p = none → Q (.ref p) (upd H1 p (.lst ((sortU ltS ks).map V.str)))) ∨
   (∃ bs : List (Addr × List Str), xs = bs.map (fun b => V.ref b.1) ∧ (∀ b ∈ bs, SqT K H1 b.1 (b.2.map V.str)) ∧
      ∀ (p : Addr) (cs : List (Addr × List Str)), H1 p = none → cs.map (·.2) = sortU ltL (bs.map (·.2)) → (∀ c ∈ cs, c ∈ bs) → Q (.ref p) (upd H1 p (.lst (cs.map fun b => V.ref b.1)))))
section
variable {X : Cx} {pins : List (Addr × Obj)} {σ : L2.St} {H : Hp} {s : Shared}
theorem Inv_tt (I : Inv X pins σ H s) {b : Addr} {k : List Str} (h : SqT X.K H b (k.map V.str)) : IsTT X.prog X.w s.heap (.ref b) k := by
  obtain ⟨its, r, ⟨o, ho, hc, n, hd⟩, _⟩ := I.tuple h
  exact ⟨b, rfl, o, its.toArray, n, ho, hc, hd, by simpa using items_strs r⟩
theorem pe_ss {a : Expr} {ta : TE} {p p2 q pos : Pos} (hc : X.calm = true) (hu : X.A.units + 65 < cLine) (hg : Gl X "sorted") (hm : X.mg "sorted" = none) (hg2 : Gl X "set") (hm2 : X.mg "set" = none) (ha : PE X a ta)
    (na : starEach [a] X.env = (false, eval a X.env) :: starEach [] X.env := by rfl) : PE X (.Call (.Name "sorted" p) [.Call (.Name "set" p2) [a] [] q] [] pos) (tSS X.K ta) := by
  refine ⟨fun pins s σ H Q I h => ?_⟩
  refine Call_ (ld_blt I hg hm PyProof.Rows.boot_sorted ?_)
  refine PyProof.Rows.callWith_builtin1 (PyProof.Rows.args_cons ?_ rfl) rfl rfl
  refine Call_ (ld_blt I hg2 hm2 PyProof.Rows.boot_set ?_)
  refine PyProof.Rows.callWith_type1 (PyProof.Rows.args_cons (thn (ha.run pins s σ H _ I h) fun v s1 ⟨x, H1, I1, r1, q1⟩ => PyProof.Rows.args_nil ?_) na) na rfl
  obtain ⟨l, xs, rfl, hseq, few, q1⟩ := q1
  cases r1
  obtain ⟨its, r, hl⟩ : ∃ its : List Value, Vals xs its ∧ (s1.heap.IsList l its.toArray ∨ s1.heap.IsTuple l its.toArray) := by
    rcases hseq with z | z
    · obtain ⟨its, r, pl, _⟩ := I1.list z
      exact ⟨its, r, .inl pl.isList⟩
    · obtain ⟨its, r, pl, _⟩ := I1.tuple z
      exact ⟨its, r, .inr pl⟩
  have len : its.length = xs.length := r.length.symm
  have hd := I1.ok.hd hc
  -- the end, alike for both
  have fin : ∀ (s3 : Shared) (h' : Heap) (tk : Nat) (d : Addr) (out : List Value) (ys : List V), Stay s1.heap h' → Stay h' s3.heap → s3.gens = s1.gens → s3.os = s1.os → h'.get? d = none → (∃ n, s3.heap.get? d = some (seqObj "list" out.toArray n)) → h'.objs.size ≤ d → Vals ys out → ys.length ≤ sizeLine →
      (∀ p, H1 p = none → Q (.ref p) (upd H1 p (.lst ys))) → ∃ x H', Inv X pins σ H' s3 ∧ RelV x (.ref d) ∧ Q x H' := fun s3 h' tk d out ys st1 st2 eg eo hn hp hsz hv hly hq => by
    obtain ⟨n, hp⟩ := hp
    have I2 : Inv X pins σ H1 { s1 with heap := h', toks := tk } := I1.kept fun b o e => st1 b o e
    have fr : H1 d = none := I2.hok.fresh hsz
    refine ⟨.ref d, upd H1 d (.lst ys), ?_, rfl, hq d fr⟩
    refine Inv.call' (ch := []) I2 eo (Un.laid st2 hsz fr) (I2.hok.laid st2 hsz ⟨hly, out, n, hv, ?_⟩) (by rw [eg]; exact I2.bare) (fun _ z => nomatch z)
    exact hp
  rcases q1 with ⟨ks, ex, q1⟩ | ⟨bs, ex, ht, q1⟩
  · subst ex
    obtain ⟨k1, k2⟩ := vals_txt r
    refine set_seq (key := txt) (hs := fun v => hashStr X.w (txt v)) (I := IsTxt) (its := its.toArray) hd hl grow_tx (by simpa using k2) (by rw [List.size_toArray, len]; exact few) fun h' tk L B tk2 st => ?_
    refine PyProof.Rows.args_nil ?_
    refine sorted_gath (s := { s1 with heap := h', toks := tk }) (tot_S.swo txt) hd B.gath (fun h1 b vs two pm hb kp s2 e2 => ?_) fun s3 d out hs pm st2 eg eo hn hp hsz => ?_
    · subst e2
      exact txt_sortable two fun v hv => B.ok v (pm.mem_iff.mp hv)
    · have ok : ∀ v ∈ out, IsTxt v := fun v hv => B.ok v (pm.mem_iff.mp hv)
      have e : out.map txt = sortU ltS ks := sortU_eq tot_S (List.pairwise_map.mpr hs) ((pm.map txt).nodup_iff.mpr B.nd) fun x => by
        rw [took_keys tk2 pm x, k1]
      have hv := txt_vals ok
      rw [e] at hv
      have lo : out.length < 64 := by rw [pm.length_eq]; exact B.few
      exact fin s3 h' tk d out _ st st2 eg eo hn hp hsz hv (by rw [hv.length, sizeLine_eq]; omega) q1
  · subst ex
    have ei := vals_tt r
    subst ei
    have ok : ∀ b ∈ bs, IsTT X.prog X.w s1.heap (.ref b.1) b.2 := fun b hb => Inv_tt I1 (ht b hb)
    have ok' : ∀ v ∈ (bs.map fun b => Value.ref b.1), ∃ k, IsTT X.prog X.w s1.heap v k := fun v hv => by
      obtain ⟨b, hb, e⟩ := List.mem_map.mp hv
      rw [← e]
      exact ⟨_, ok b hb⟩
    refine set_seq (key := keyT X.prog X.w s1.heap) (hs := fun v => tupleKeyHash (strKind X.prog X.w) (keyT X.prog X.w s1.heap v)) (its := (bs.map fun b => Value.ref b.1).toArray) hd hl
      (grow_tb (tt_itm (by show X.A.units + 3 < cLine; omega)) tt_obs) (by simpa using ok') (by rw [List.size_toArray, len]; exact few) fun h' tk L ⟨es, ep, t, B⟩ tk2 st => ?_
    refine PyProof.Rows.args_nil ?_
    have sub : ∀ v ∈ L, v ∈ bs.map fun b => Value.ref b.1 := fun v hv => by simpa using tk2.sub v hv
    refine sorted_gath (s := { s1 with heap := h', toks := tk }) (tot_L.swo (keyT X.prog X.w s1.heap)) hd B.gath (fun h1 b vs two pm hb kp s2 e2 => ?_) fun s3 d out hs pm st2 eg eo hn hp hsz => ?_
    · subst e2
      exact tt_sortable (by show X.A.units + 2 < cLine; omega) two (fun c o e => kp c o (st c o e)) fun v hv => ok' v (sub v (pm.mem_iff.mp hv))
    · obtain ⟨cs, e1, e2⟩ := lift_tt out fun v hv => sub v (pm.mem_iff.mp hv)
      subst e1
      have ek : (cs.map fun b => Value.ref b.1).map (keyT X.prog X.w s1.heap) = cs.map (·.2) := by
        rw [List.map_map]
        exact List.map_congr_left fun c hc => keyT_of (ok c (e2 c hc))
      have ek2 : (bs.map fun b => Value.ref b.1).map (keyT X.prog X.w s1.heap) = bs.map (·.2) := by
        rw [List.map_map]
        exact List.map_congr_left fun c hc => keyT_of (ok c hc)
      have e : cs.map (·.2) = sortU ltL (bs.map (·.2)) := by
        rw [← ek]
        refine sortU_eq tot_L (List.pairwise_map.mpr hs) ((pm.map _).nodup_iff.mpr B.nd) fun x => ?_
        rw [took_keys tk2 pm x, ← ek2]
      have lo : (cs.map fun b => Value.ref b.1).length < 64 := by rw [pm.length_eq]; exact B.few
      rw [List.length_map] at lo
      exact fin s3 h' tk d _ _ st st2 eg eo hn hp hsz (tt_vals cs) (by rw [List.length_map, sizeLine_eq]; omega) fun p hp2 => q1 p cs hp2 e e2
end
end VI
namespace VI
open PySem PySem.Spec PyProof.Rows L2
def tupsOf : List D → Option (List (List Str))
  | [] => some []
  | .tuple ds :: r => match strsOf ds with
    | some x => (tupsOf r).map (x :: ·)
    | none => none
  | _ :: _ => none
def tupD (x : List Str) : D := .tuple (x.map .str)
theorem tupsOf_eq : ∀ {ds : List D} {xs : List (List Str)}, tupsOf ds = some xs → ds = xs.map tupD
  | [], xs, h => by cases h; rfl
  | d :: ds, xs, h => by
    unfold tupsOf at h
    split at h
    · rename_i e2
      exact absurd e2 (by simp)
    · rename_i e1 ds' r e2
      cases e2
      split at h
      · rename_i x hx
        cases q : tupsOf ds with
        | none => rw [q] at h; cases h
        | some ys =>
          rw [q] at h
          cases h
          rw [List.map_cons, ← tupsOf_eq q]
          show _ = PyData.tuple (x.map .str) :: ds
          rw [← strsOf_eq hx]
      · cases h
    · cases h
theorem tupsOf_map : ∀ xs : List (List Str), tupsOf (xs.map tupD) = some xs
  | [] => rfl
  | x :: r => by
    rw [List.map_cons]
    show (match strsOf (x.map .str) with | some x => (tupsOf (r.map tupD)).map (x :: ·) | none => none) = _
    rw [strsOf_map, tupsOf_map r]
    rfl
def ssG (ds : List D) : Res EV := if ds.length < 64 then (match strsOf ds with
  | some xs => .ok (.own ((sortU ltS xs).map .str))
  | none => match tupsOf ds with
    | some xs => .ok (.own ((sortU ltL xs).map tupD))
    | none => .bad) else .bad
def ssM (m : ME) : ME := fun ρ φ => (m ρ φ).bind fun r => match r.1.toD with
  | .list ds => (ssG ds).bind fun e => .ok (e, r.2)
  | .tuple ds => (ssG ds).bind fun e => .ok (e, r.2)
  | _ => .bad
section
variable {p : Pr} {G : Hp}
theorem rep_tups : ∀ {xs : List (List Str)} {vs : List V}, RepAll p G (xs.map tupD) vs → ∃ bs : List (Addr × List Str), bs.map (·.2) = xs ∧ vs = bs.map (fun b => V.ref b.1) ∧ ∀ b ∈ bs, TupN p.K G b.1 (b.2.map V.str)
  | [], _, h => by cases h; exact ⟨[], rfl, rfl, fun b m => by cases m⟩
  | x :: xs, _, h => by
    obtain ⟨v, r, rfl, ⟨a, ys, rfl, h1, h2⟩, h3⟩ := h
    obtain ⟨bs, e1, e2, e3⟩ := rep_tups h3
    rw [h2.strs] at h1
    refine ⟨(a, x) :: bs, by rw [List.map_cons, e1], by rw [List.map_cons, e2], fun b m => ?_⟩
    rcases List.mem_cons.mp m with z | z
    · rw [z]; exact h1
    · exact e3 b z
theorem tups_rep : ∀ {cs : List (Addr × List Str)}, (∀ c ∈ cs, TupN p.K G c.1 (c.2.map V.str)) → RepAll p G ((cs.map (·.2)).map tupD) (cs.map fun b => V.ref b.1)
  | [], _ => rfl
  | c :: cs, h => ⟨_, _, rfl, ⟨c.1, _, rfl, h c List.mem_cons_self, RepAll.of_strs _⟩, tups_rep fun d m => h d (List.mem_cons_of_mem _ m)⟩
end
section
variable {X : Cx} {q : Pk} {pos p1 p2 p3 : Pos} {e : Expr} {me : ME}
theorem de_ss (hc : X.calm = true) (hu : X.A.units + 65 < cLine) (hg1 : Gl X "sorted") (hm1 : X.mg "sorted" = none) (hg2 : Gl X "set") (hm2 : X.mg "set" = none) (he : DE X q e me)
    (na : starEach [e] X.env = (false, eval e X.env) :: starEach [] X.env := by rfl) :
    DE X q (.Call (.Name "sorted" p1) [.Call (.Name "set" p2) [e] [] p3] [] pos) (ssM me) := (pe_ss hc hu hg1 hm1 hg2 hm2 he na).imp fun σ H Q w => by
  obtain ⟨P, ρ, φ, e, φ', a, h, k⟩ := w
  obtain ⟨⟨e1, φ1⟩, h1, h⟩ := Res.bind_ok h
  dsimp only at h
  refine part a h1 fun v H1 a1 u1 r1 => ?_
  have rr := r1.rep a.live
  have go : ∀ (l : Addr) (ds : List D) (xs : List V), (SqL (q.at X.K).K H1 l xs ∨ SqT (q.at X.K).K H1 l xs) → RepAll (q.at X.K) (hide P H1) ds xs → (ssG ds).bind (fun e => Res.ok (e, φ1)) = .ok (e, φ') →
      ∃ (l' : Addr) (xs : List V), V.ref l = V.ref l' ∧ (SqL X.K H1 l' xs ∨ SqT X.K H1 l' xs) ∧ xs.length < 64 ∧
  ((∃ ks : List Str, xs = ks.map V.str ∧ ∀ p, H1 p = none → Q (.ref p) (upd H1 p (.lst ((sortU ltS ks).map V.str)))) ∨
   (∃ bs : List (Addr × List Str), xs = bs.map (fun b => V.ref b.1) ∧ (∀ b ∈ bs, SqT X.K H1 b.1 (b.2.map V.str)) ∧
      ∀ (p : Addr) (cs : List (Addr × List Str)), H1 p = none → cs.map (·.2) = sortU ltL (bs.map (·.2)) → (∀ c ∈ cs, c ∈ bs) → Q (.ref p) (upd H1 p (.lst (cs.map fun b => V.ref b.1))))) := fun l ds xs hs hr hh => by
    obtain ⟨e2, g, hh⟩ := Res.bind_ok hh
    cases hh
    unfold ssG at g
    split at g
    · rename_i few
      refine ⟨l, xs, rfl, hs, by rw [hr.len]; exact few, ?_⟩
      split at g
      · rename_i ks hk
        cases g
        rw [strsOf_eq hk] at hr
        refine .inl ⟨ks, hr.strs, fun n nn => k _ _ (u1.trans (Ext.new nn).up) (a1.fo.ext (hide_ext (Ext.new nn))) (rep_newL (RepAll.of_strs (sortU ltS ks)) u1 nn)⟩
      · split at g
        · rename_i ks hk
          cases g
          rw [tupsOf_eq hk] at hr
          obtain ⟨bs, b1, b2, b3⟩ := rep_tups hr
          refine .inr ⟨bs, b2, fun b m => (TupN.at (b3 b m) fun c o _ z => (hide_of z).2).sq, fun n cs nn ec sub => ?_⟩
          have rep := tups_rep (p := q.at X.K) (G := hide P H1) (cs := cs) fun c m => b3 c (sub c m)
          rw [ec, b1] at rep
          exact k _ _ (u1.trans (Ext.new nn).up) (a1.fo.ext (hide_ext (Ext.new nn))) (rep_newL rep u1 nn)
        · cases g
    · cases g
  split at h
  · rename_i ds ed
    rw [ed] at rr
    obtain ⟨l, xs, rfl, g1, g2⟩ := rr
    exact go l ds xs (.inl (SqL.of (hide_of g1).2)) g2 h
  · rename_i ds ed
    rw [ed] at rr
    obtain ⟨l, xs, rfl, g1, g2⟩ := rr
    exact go l ds xs (.inr (TupN.at g1 fun c o _ z => (hide_of z).2).sq) g2 h
  · cases h
end
end VI
namespace VI
open PySem PySem.Spec PyProof.Rows L2
/-- the feed is made of a script -/
def spFeed (K : PySem.W.Frag) (k2 k3 k4 : Str) : Sp := fun vs H Q _ => ∃ (a : Addr) (ns : List Int), vs = [.ref a] ∧ SqL K H a (ns.map V.int) ∧ ns.length ≤ 63 ∧
  ∀ (fa ca : Addr) (H' : Hp), Ext H H' → FO ⟨K, fa, ca, k2, k3, k4⟩ ⟨ns, 0, 0, 0⟩ H' → Q (.ref fa) H'
def rInt1 : List V → Hp → VK → Prop := fun xs H Q => (∃ i, xs = [.int i] ∧ Q (.int i) H) ∨ ∃ k, xs = [.bl k] ∧ Q (.int (if k then 1 else 0)) H
theorem cr_int1 {X : Cx} : CallR X (.type "int") rInt1 := call_int1
def tFeed (K : PySem.W.Frag) (k2 k3 k4 : Str) : L2.TS := tRet (tDisp [(tC (.str "cells"), tLc (iList K (L2.tSl (rSlL K) (tVar 0) tNoPart (tPart (tC (.int 63))))) (gName 1) tYes (tCB rInt1 (tCons (tVar 1) tNil)) [1]),
  (tC (.str k2), tC (.int 0)), (tC (.str k3), tC (.int 0)), (tC (.str k4), tC (.int 0))])
theorem cut_63 {ns : List Int} (h : ns.length ≤ 63) : cutV (ns.map V.int) none (some 63) = ns.map V.int := by
  unfold cutV
  rw [HT.sIx_none, show HT.sIx (ns.map V.int).length (ns.map V.int).length (some 63) = min 63 (ns.map V.int).length from HT.sIx_nat _ _ 63, List.drop_zero, Nat.sub_zero]
  exact List.take_of_length_le (by rw [List.length_map]; omega)
theorem feed_run {K : PySem.W.Frag} {k2 k3 k4 : Str} {D : Ends} {H : Hp} {vs : List V} {E : XK} {N : List Str} (hN : N.length = 2) (ne : ("cells" : Str) ≠ k2 ∧ ("cells" : Str) ≠ k3 ∧ ("cells" : Str) ≠ k4 ∧ k2 ≠ k3 ∧ k2 ≠ k4 ∧ k3 ≠ k4) (h : spFeed K k2 k3 k4 vs H D.rt E) :
    tFeed K k2 k3 k4 D (L2.start N vs) H := by
  obtain ⟨a, ns, rfl, hs, hl, q⟩ := h
  have es : L2.start N [V.ref a] = [some (.ref a), none] := by
    unfold L2.start
    rw [hN]
    rfl
  rw [es]
  intro p hp
  have x0 : Ext H (upd H p (.dK [])) := Ext.new hp
  have hs0 : SqL K (upd H p (.dK [])) a (ns.map V.int) := Same.seq (fun b o e => x0.all b o e) hs
  refine ⟨.ref a, rfl, 63, rfl, a, ns.map V.int, rfl, hs0, fun c nc => ?_⟩
  rw [cut_63 hl]
  have x1 : Ext (upd H p (.dK [])) (upd (upd H p (.dK [])) c (.lst (ns.map V.int))) := Ext.new nc
  have pc : p ≠ c := fun z => by rw [z, upd_same] at nc; cases nc
  generalize hH1 : upd (upd H p (.dK [])) c (.lst (ns.map V.int)) = H1 at x1 ⊢
  have c1 : H1 c = some (.lst (ns.map V.int)) := by rw [← hH1, upd_same]
  have p1 : H1 p = some (.dK []) := by rw [← hH1, upd_ne pc, upd_same]
  refine ⟨c, rfl, ⟨_, .inl (.inl c1)⟩, fun d nd => ?_⟩
  have x2 : Ext H1 (upd H1 d (.lst [])) := Ext.new nd
  have cd : c ≠ d := ne_of_none c1 nd
  have pd : p ≠ d := ne_of_none p1 nd
  refine lc_list (xs := ns.map V.int) (fun i H' => (∀ b o, H1 b = some o → H' b = some o) ∧ H' d = some (.lst ((ns.take i).map V.int))) ⟨x2.all, upd_same⟩ (fun i H' _ w => .inl (.inl (w.1 c _ c1))) (fun i x H' hi w => ?_) fun H' w => ?_
  · obtain ⟨w1, w2⟩ := w
    rw [List.getElem?_map] at hi
    cases hn : ns[i]? with
    | none => rw [hn] at hi; cases hi
    | some n =>
      rw [hn] at hi
      cases hi
      have hi2 : i < ns.length := (List.getElem?_eq_some_iff.mp hn).1
      refine ⟨rfl, .int n, rfl, .inl ⟨n, rfl, _, w2, by rw [List.length_map, List.length_take, sizeLine_eq]; omega, fun b o e => ?_, ?_⟩⟩
      · rw [upd_ne (ne_of_none e nd)]
        exact w1 b o e
      · rw [upd_same, take_next hn, List.map_append]
        rfl
  · obtain ⟨w1, w2⟩ := w
    rw [List.take_of_length_le (by rw [List.length_map]; exact Nat.le_refl _)] at w2
    refine ⟨w1 p _ p1, [(.inr "cells", .ref d), (.inr k2, .int 0), (.inr k3, .int 0), (.inr k4, .int 0)], rfl, (by show 4 ≤ 15; decide), ?_⟩
    have xe : Ext H (upd H' p (.dK (mergeK [] [(.inr "cells", .ref d), (.inr k2, .int 0), (.inr k3, .int 0), (.inr k4, .int 0)]))) := ⟨fun b o e => by
      rw [upd_ne (ne_of_none e hp)]
      exact w1 b o (x1.all b o (x0.all b o e))⟩
    obtain ⟨n1, n2, n3, n4, n5, n6⟩ := ne
    have em : mergeK [] [(.inr "cells", V.ref d), (.inr k2, V.int 0), (.inr k3, V.int 0), (.inr k4, V.int 0)] = [(.inr "cells", V.ref d), (.inr k2, V.int 0), (.inr k3, V.int 0), (.inr k4, V.int 0)] := by
      simp [mergeK, putK, n1, n2, n3, n4, n5, n6]
    rw [em] at xe ⊢
    exact q p d _ xe ⟨upd_same, by rw [upd_ne (Ne.symm pd)]; exact w2⟩
def spLaw (K : PySem.W.Frag) : Sp := fun vs H Q _ => ∃ (a : Addr) (ns : List Int), vs = [.ref a] ∧ SqL K H a (ns.map V.int) ∧ ns.length ≤ 63 ∧ ∀ H', Q (.bl true) H'
def lawS (n : Nat) : EnvS := none :: some (.dat (.dict [])) :: List.replicate (n - 2) none
theorem stR_law {K : PySem.W.Frag} {k2 k3 k4 : Str} {H : Hp} {fa ca : Addr} {φ : FS} {N : List Str} {v : V} (f : FO ⟨K, fa, ca, k2, k3, k4⟩ φ H) (hn : 2 ≤ N.length) :
    StR ⟨K, fa, ca, k2, k3, k4⟩ H (fun _ => False) H (lawS N.length) φ ((L2.start N [v]).set 1 (some (.ref fa))) := by
  have at1 : ∀ (i : Nat) (x : EV), (lawS N.length)[i]? = some (some x) → i = 1 ∧ x = .dat (.dict []) := fun i x h => by
    unfold lawS at h
    match i, h with
    | 0, h => rw [List.getElem?_cons_zero] at h; cases h
    | 1, h => rw [List.getElem?_cons_succ, List.getElem?_cons_zero] at h; cases h; exact ⟨rfl, rfl⟩
    | i + 2, h =>
      rw [List.getElem?_cons_succ, List.getElem?_cons_succ, List.getElem?_replicate] at h
      split at h <;> cases h
  have noown : ∀ i a, ¬ OwnS (lawS N.length) ((L2.start N [v]).set 1 (some (.ref fa))) i a := fun i a ⟨⟨es, h⟩, _⟩ => by
    obtain ⟨_, e⟩ := at1 _ _ h
    cases e
  have hid : Hid (fun _ => False) (lawS N.length) ((L2.start N [v]).set 1 (some (.ref fa))) = fun _ => False := by
    funext b
    exact propext ⟨fun z => z.elim id fun ⟨i, h⟩ => (noown i b h).elim, .inl⟩
  have hh : hide (fun _ => False) H = H := funext fun b => hide_eq fun z => z
  have len : (L2.start N [v]).length = N.length := by
    unfold L2.start
    rw [List.length_append, List.length_map, List.length_replicate, List.length_singleton]
    omega
  refine ⟨⟨?_, fun a h => h.elim, Up.refl H, fun i d h => ?_, fun i es h => ?_, fun i j a h => (noown i a h).elim⟩, by rw [hid, hh]; exact f⟩
  · rw [List.length_set, len]
    unfold lawS
    rw [List.length_cons, List.length_cons, List.length_replicate]
    omega
  · obtain ⟨rfl, e⟩ := at1 _ _ h
    cases e
    exact ⟨.ref fa, by rw [List.getElem?_set_self (by rw [len]; omega)], rfl⟩
  · obtain ⟨_, e⟩ := at1 _ _ h
    cases e
/-- the law's def: its feed, then what its text says over data -/
theorem fn_law {P : Program} {w : World} {K : PySem.W.Frag} {mg : Str → Option Value} {base : Heap} {k : Nat} {x qual scr : Str} {st st0 : Stmt} {rest : List Stmt} {f : Addr} {fd : FuncData} {N : List Str} {k2 k3 k4 : Str} {mb : MS}
    (F : Fun K x qual st f fd) (S : FnScope N [scr] (defScope st)) (hn : 2 ≤ N.length) (hb : defBody st = st0 :: rest)
    (h0 : ∀ (cdv : Value) (A : Around) (outer : List Env) (s : Shared) (H : Hp) (E : XK), A.guards = some [] → Room k (A.deeper (envOfC qual (defScope st) s.heap.objs.size f cdv)) →
      PS (cxOf CX0 P w K mg base N qual (defScope st) f cdv A outer s H E) st0 (fun D σ H => ∃ v, σ[0]? = some (some v) ∧ spFeed K k2 k3 k4 [v] H (fun v H1 => D.nx (σ.set 1 (some v)) H1) E0))
    (h1 : ∀ (fa ca : Addr) (cdv : Value) (A : Around) (outer : List Env) (s : Shared) (H : Hp) (E : XK), A.guards = some [] → Room k (A.deeper (envOfC qual (defScope st) s.heap.objs.size f cdv)) →
      DSs (cxOf CX0 P w K mg base N qual (defScope st) f cdv A outer s H E).nox ⟨fa, ca, k2, k3, k4⟩ rest mb)
    (ok : ∀ ns : List Int, ns.length ≤ 63 → ∃ ρ φ, mb (lawS N.length) ⟨ns, 0, 0, 0⟩ = .ok (.ret (.dat (.bool true)), ρ, φ)) :
    FnG P w K mg base CX0 (k + 1) f fd [scr] (spLaw K) := by
  refine fnG_of F S (fun vs H Q E h => ?_) fun cdv A outer s H vs Q E hg hr h => ?_
  · obtain ⟨a, ns, rfl, _⟩ := h
    rfl
  obtain ⟨a, ns, rfl, hs, hl, q⟩ := h
  have rest' : PSs (cxOf CX0 P w K mg base N qual (defScope st) f cdv A outer s H E) rest (fun D σ H1 => ∃ fa ca, tS ⟨K, fa, ca, k2, k3, k4⟩ mb D σ H1) := ⟨fun pins s1 σ H1 D I ⟨fa, ca, z⟩ => (h1 fa ca cdv A outer s H E hg hr).nox.run pins s1 σ H1 D I z⟩
  refine ⟨_, by rw [hb]; exact pss_cons (h0 cdv A outer s H E hg hr) rest', ?_⟩
  refine ⟨.ref a, start_val (N := N) (vs := [V.ref a]) rfl, a, ns, rfl, hs, hl, fun fa ca H' x fo => ?_⟩
  obtain ⟨ρ, φ, e⟩ := ok ns hl
  refine ⟨fa, ca, H', fun _ => False, lawS N.length, ⟨ns, 0, 0, 0⟩, _, stR_law fo hn, e, ?_⟩
  intro v H2 _ _ r
  cases r
  exact q H2
end VI
namespace VI
open PySem PySem.Spec PyProof.Rows L2
/-- what the script's object may be at the law's call: tracked and frozen, or one of the module's own -/
structure Scr (P : Program) (w : World) (K : PySem.W.Frag) (h : Heap) (a : Addr) (vs : List Value) (ns : List Int) (H : Hp) : Prop where
  ok : HOk P w H h
  seq : SqL K H a (ns.map V.int)
  one : ∀ b, H b = none ∨ (b = a ∧ H b = some (.frz { cls := .type "list", data := .seq vs.toArray } (.lst (ns.map V.int))) ∧ K.lookup b = none)
theorem scr_of {P : Program} {w : World} {K : PySem.W.Frag} {h : Heap} {a : Addr} {vs : List Value} {ns : List Int} (X : K.In h) (ha : h.get? a = some { cls := .type "list", data := .seq vs.toArray }) (hi : IntsAre vs ns) (hl : ns.length ≤ sizeLine) : ∃ H, Scr P w K h a vs ns H := by
  have rv := vals_ints hi
  cases q : K.lookup a with
  | some o =>
    have e := X a o q
    rw [ha] at e
    cases e
    exact ⟨fun _ => none, ⟨fun b u z => (by cases (show (none : Option HO) = some u from z)), .inr ⟨_, vs.toArray, _, q, rfl, rfl, rfl, by rw [List.size_toArray, hi.length]; exact hl, by simpa using rv⟩, fun b => .inl rfl⟩⟩
  | none =>
    refine ⟨upd (fun _ => none) a (.frz { cls := .type "list", data := .seq vs.toArray } (.lst (ns.map V.int))), ⟨fun b u z => ?_, .inl (.inr ⟨_, upd_same⟩), fun b => ?_⟩⟩
    · by_cases hb : b = a
      · subst hb
        rw [upd_same] at z
        cases z
        exact ⟨ha, by rw [List.length_map]; exact hl, vs, _, rv, ha⟩
      · rw [upd_ne hb] at z
        cases z
    · by_cases hb : b = a
      · subst hb
        exact .inr ⟨rfl, upd_same, q⟩
      · exact .inl (upd_ne hb)
section
variable {P : Program} {w : World} {K : PySem.W.Frag} {mg mb : Str → Option Value} {s : Shared} {a : Addr} {vs : List Value} {ns : List Int} {H : Hp}
/-- under it the caller stands right -/
theorem Scr.env (S : Scr P w K s.heap a vs ns H) (ha : s.heap.get? a = some { cls := .type "list", data := .seq vs.toArray }) (X : K.In s.heap) (g : s.heap.Ns mainGlobals mg) (b : s.heap.Ns builtinsNs mb) (bb : ∀ x : Str, x ≠ "__name__" → mb x = bootBuiltins x)
    (lim : s.heap.NoLimit) (hg : s.gens = #[]) : K.In (hidT s.heap H) ∧ (hidT s.heap H).Ns mainGlobals mg ∧ Env0 P w K mg (hidT s.heap H) callerA [] s H := by
  have in' : K.In (hidT s.heap H) := fun c o e => by
    rcases S.one c with z | ⟨_, _, z⟩
    · exact hidT_get (X c o e) z
    · rw [z] at e
      cases e
  have ns' : ∀ {c : Addr} {m : Str → Option Value}, s.heap.Ns c m → (hidT s.heap H).Ns c m := fun {c m} ⟨o, es, ep, e, d, r⟩ => by
    refine ⟨o, es, ep, ?_, d, r⟩
    rcases S.one c with z | ⟨e2, _, _⟩
    · exact hidT_get e z
    · subst e2
      rw [ha] at e
      cases e
      cases (show Data.seq vs.toArray _ = Data.dict es ep from d)
  obtain ⟨mc, l1, l2⟩ := lim
  exact ⟨in', ns' g, ⟨rfl, ⟨in', ns' g, ⟨mb, ns' b, bb⟩, ⟨mc, ns' l1, l2⟩⟩, fun c o e => of_hidT e, Nat.le_of_eq (hidT_size _ _), trivial, fun c m => (by cases (show c ∈ ([] : List Addr) from m)), S.ok, .of_eq hg⟩⟩
theorem law_runs {k : Nat} {fa : Addr} {fd : FuncData} {x : Str} (S : Scr P w K s.heap a vs ns H) (ha : s.heap.get? a = some { cls := .type "list", data := .seq vs.toArray }) (X : K.In s.heap) (g : s.heap.Ns mainGlobals mg) (b : s.heap.Ns builtinsNs mb) (bb : ∀ x : Str, x ≠ "__name__" → mb x = bootBuiltins x)
    (lim : s.heap.NoLimit) (hg : s.gens = #[]) (hr : Room k callerA) (hl : ns.length ≤ 63) (F : ∀ base : Heap, K.In base → base.Ns mainGlobals mg → FnG P w K mg base CX0 k fa fd [x] (spLaw K)) (bind : ∀ (s : Shared) (u : Value), BindsTo s fd ⟨[u], []⟩ [(x, u)]) :
    codeAny (model P w) callerA (.call (.ref fa) ⟨[.ref a], []⟩) (fun r s' => r = .ok (.ret (.bool true)) ∧ OldK s.heap s'.heap ∧ s'.os = s.os ∧ AllBare s'.gens) s := by
  obtain ⟨in', ns', e0⟩ := S.env (P := P) (w := w) ha X g b bb lim hg
  refine codeAny_mono ((F _ in' ns').go callerA [] s H ⟨[.ref a], []⟩ [.ref a] [.ref a] (fun v _ => v = .bl true) (fun _ _ _ => False) rfl hr e0 (bind s (.ref a)) (.cons rfl .nil) ⟨a, ns, rfl, S.seq, hl, fun _ => rfl⟩) fun r s' h => ?_
  match r, h with
  | .error e, h => exact False.elim h
  | .ok .next, h => exact False.elim h
  | .ok .brk, h => exact False.elim h
  | .ok .cont, h => exact False.elim h
  | .ok (.ret u), h =>
    obtain ⟨v, H', os, bare, un, ok', rv, ev⟩ := h
    have ev' : v = .bl true := ev
    subst ev'
    obtain rfl : u = Value.bool true := rv
    refine ⟨rfl, OldK.of_keep fun c o e => ?_, os, bare⟩
    rcases S.one c with z | ⟨_, z, _⟩
    · exact un.keep c o e z (fun m => by cases (show c ∈ ([] : List Addr) from m)) (by simp)
    · have z2 := un.frzs c _ _ z
      obtain ⟨e1, _⟩ := S.ok c _ z
      obtain ⟨e2, _⟩ := ok' c _ z2
      rw [e] at e1
      cases e1
      exact e2
end
/-- the goal behind k_head -/
theorem walkG {l : PySem.W.OpenLaw} {k : Nat} {q : Program} {loose : List Str} {XP : (Str → Option Value) → Heap → Prop} {YP : World → Heap → Prop} {d : DefRec} {K : Params → PySem.W.Frag} {x : Str}
    (hn : l.most = some 63) (hdf : d.params.defaults = []) (hr : Room k callerA) (hY : ∀ (w : World) (h : Heap), YP w h → (K w.params).In h)
    (F : ∀ (w : World) (mg : Str → Option Value) (fa : Addr) (h : Heap), (K w.params).In h → h.Ns mainGlobals mg → mg d.name = some (.ref fa) →
      ∃ fd : FuncData, (∀ (s : Shared) (u : Value), BindsTo s fd ⟨[u], []⟩ [(x, u)]) ∧ ∀ base : Heap, (K w.params).In base → base.Ns mainGlobals mg → FnG l.prog w (K w.params) mg base CX0 k fa fd [x] (spLaw (K w.params))) :
    PySem.W.WalkO q loose XP YP l.row.toRowW d [] (fun f vs => PySem.call f vs) := by
  refine Att.attach_call hn hdf fun w s₀ s₁ mg mb fa o pm cd doc a vs ns G Y ho hd hcd hmg hobj hints hlen hg => ?_
  have X := hY w _ Y
  obtain ⟨fd, hb, hF⟩ := F w mg fa _ X G.T.g hmg
  obtain ⟨H, S⟩ := scr_of (P := l.prog) (w := w) X hobj hints (by rw [sizeLine_eq]; omega)
  exact law_runs S hobj X G.T.g G.T.b G.T.builtins G.T.nolimit hg hr hlen hF hb
end VI
namespace VI
open PySem PySem.Spec PyProof.Rows L2
def FunAt (K : PySem.W.Frag) (x : Str) (st : Stmt) : Prop := ∃ (f : Addr) (oc : Value) (od an : Option Addr) (osl : Array (Option Value)) (kV doc pm cdv ct : Value), PySem.W.nsIn K mainGlobals x = some (some (.ref f)) ∧
  K.lookup f = some ⟨oc, od, .func (PySem.W.fnOf x x (defArgs st) (defBody st) (defScope st) .none kV doc pm an cdv ct), osl⟩ ∧ PySem.W.codeIn K cdv x = true ∧ PySem.W.keepIn K (.ref f) = true
theorem funAt {K : PySem.W.Frag} {x : Str} {st : Stmt} {f : Addr} {oc : Value} {od an : Option Addr} {osl : Array (Option Value)} {kV doc pm cdv ct : Value} (a : PySem.W.nsIn K mainGlobals x = some (some (.ref f)))
    (l : K.lookup f = some ⟨oc, od, .func (PySem.W.fnOf x x (defArgs st) (defBody st) (defScope st) .none kV doc pm an cdv ct), osl⟩) (c : PySem.W.codeIn K cdv x = true) (k : PySem.W.keepIn K (.ref f) = true) : FunAt K x st := ⟨f, oc, od, an, osl, kV, doc, pm, cdv, ct, a, l, c, k⟩
theorem FunAt.get {K : PySem.W.Frag} {x : Str} {st : Stmt} {h : Heap} {mg : Str → Option Value} (F : FunAt K x st) (X : K.In h) (G : h.Ns mainGlobals mg) : ∃ (f : Addr) (fd : FuncData), mg x = some (.ref f) ∧ Fun K x x st f fd := by
  obtain ⟨f, oc, od, an, osl, kV, doc, pm, cdv, ct, a, l, c, k⟩ := F
  exact ⟨f, _, PySem.W.mg_of X G a, fun_mk l c k⟩
end VI
namespace VI
open PySem PySem.Spec PyProof.Rows L2
def DIc {α : Type} (X : Cx) (q : Pk) (tg iter : Expr) (R : RI α) (m : MI α) : Prop :=
  ∃ wi, PI X tg iter wi ∧ ∀ (σ : L2.St) (H : Hp) (C : It → Hp → Prop), (∃ P ρ φ as φ', At (q.at X.K) P H ρ φ σ ∧ m ρ φ = .ok (as, φ') ∧
    ∀ J H', Up H H' → FO (q.at X.K) φ' (hide P H') → (∀ P2 H2, ItD R P2 H2 as J) → C J H') → wi σ H C
def forC {α : Type} (vs : List Nat) (mi : MI α) (set : α → EnvS → Option EnvS) (mb : MS) : MS := fun ρ φ => (mi (soft vs ρ) φ).bind fun r => forGo set mb r.1 ρ r.2
section
variable {X : Cx} {q : Pk} {tg iter e e2 : Expr} {body : List Stmt} {pos p : Pos} {α : Type} {R : RI α} {mi : MI α} {set : α → EnvS → Option EnvS} {mb : MS} {ma mc : ME}
theorem dic_rng1 (hg : Gl X "range") (hm : X.mg "range" = none) (ha : DE X q e ma) (hs : starEach [e] X.env = (false, eval e X.env) :: starEach [] X.env) : DIc X q tg (.Call (.Name "range" p) [e] [] pos) (R1 (q.at X.K)) (rng1I ma) := by
  refine ⟨_, pi_range1 hg hm (pa_cons ha pa_nil hs) hs, fun σ H C w => ?_⟩
  obtain ⟨P, ρ, φ, as, φ', a, hm, k⟩ := w
  obtain ⟨⟨e1, φ1⟩, h1, hm⟩ := Res.bind_ok hm
  dsimp only at hm
  split at hm
  · rename_i he
    split at hm
    · rename_i hb
      cases hm
      refine part a h1 fun v H1 a1 u1 r1 => ?_
      have r2 := r1.rep a.live
      rw [he] at r2
      cases r2
      exact ⟨_, rfl, by omega, by omega, k _ H1 u1 a1.fo fun _ _ => itd_rng⟩
    · cases hm
  · cases hm
theorem dic_rng2 (hg : Gl X "range") (hm : X.mg "range" = none) (ha : DE X q e ma) (hb : DE X q e2 mc) (hs : starEach [e, e2] X.env = (false, eval e X.env) :: starEach [e2] X.env) (hs2 : starEach [e2] X.env = (false, eval e2 X.env) :: starEach [] X.env) :
    DIc X q tg (.Call (.Name "range" p) [e, e2] [] pos) (R1 (q.at X.K)) (rng2I ma mc) := by
  refine ⟨_, pi_range2 hg hm (pa_cons ha (pa_cons hb pa_nil hs2) hs) (hs.trans (by rw [hs2]; rfl)) hs2, fun σ H C w => ?_⟩
  obtain ⟨P, ρ, φ, as, φ', a, hm, k⟩ := w
  obtain ⟨⟨e1, φ1⟩, h1, hm⟩ := Res.bind_ok hm
  obtain ⟨⟨e2, φ2⟩, h2, hm⟩ := Res.bind_ok hm
  dsimp only at hm
  split at hm
  · rename_i he he2
    split at hm
    · rename_i hb
      cases hm
      refine part a h1 fun v H1 a1 u1 r1 => part a1 h2 fun v2 H2 a2 u2 r2 => ?_
      have r1 := r1.rep a.live
      have r2 := r2.rep a1.live
      rw [he] at r1
      rw [he2] at r2
      cases r1
      cases r2
      exact ⟨_, _, rfl, ⟨by omega, by omega, by omega, by omega⟩, k _ H2 (u1.trans u2) a2.fo fun _ _ => itd_rng⟩
    · cases hm
  · cases hm
theorem ds_forC (vs : List Nat) (hp : PassesOwn (model X.prog X.w) X.A X.env X.xe) (hc : X.calm = true) (hi : DIc X q tg iter R mi) (hg : DGS X (q.at X.K) tg R set) (hb : DSs X q body mb) (hs : ∀ x, foldedSetIterable iter X.env x = pure x) :
    DS X q (.For tg iter body [] pos) (forC vs mi set mb) := by
  obtain ⟨wi, h1, h2⟩ := hi
  obtain ⟨g, h3, h4⟩ := hg
  refine ps_imp (ps_for hp hc h1 h3 hb hs) fun D σ H z => ?_
  obtain ⟨H0, P0, ρ, φ, r, S, h, k⟩ := z
  obtain ⟨⟨as, φ1⟩, e1, h⟩ := Res.bind_ok h
  dsimp only at h
  refine h2 σ H _ ⟨_, _, _, as, φ1, S.moment vs, e1, fun J H1 u1 f1 it => ?_⟩
  have S1 : StR (q.at X.K) H0 P0 H1 ρ φ1 σ := S.upTo u1 (f1.see S.fo.nfa.1 S.fo.nca.1)
  have s1 : Seen (Hid P0 ρ σ) H (Hid P0 ρ σ) H1 := seen_up u1
  refine ⟨fun i m σc Hc => m = as.length - i ∧ i ≤ as.length ∧ ∃ ρc φc, StR (q.at X.K) H0 P0 Hc ρc φc σc ∧ Seen (Hid P0 ρ σ) H1 (Hid P0 ρc σc) Hc ∧ forGo set mb (as.drop i) ρc φc = .ok r,
    ⟨as.length, by omega, Nat.zero_le _, ρ, φ1, S1, fun _ _ _ z => z, by rw [List.drop_zero]; exact h⟩, ?_⟩
  rintro i m σc Hc ⟨rfl, hi, ρc, φc, Sc, sc, hgo⟩
  obtain ⟨go, stop⟩ := it (Hid P0 ρc σc) Hc i Hc (Hid P0 ρc σc) fun _ _ _ z => z
  by_cases hlt : i < as.length
  · obtain ⟨go1, go2⟩ := go as[i] (List.getElem?_eq_getElem hlt)
    rw [List.drop_eq_getElem_cons hlt] at hgo
    unfold forGo at hgo
    split at hgo
    · cases hgo
    · rename_i ρ1 hset
      obtain ⟨⟨fl, ρ2, φ2⟩, h3, hgo⟩ := Res.bind_ok hgo
      dsimp only at hgo
      refine .inr ⟨go1, fun σn Hn => ∃ ρc φc, StR (q.at X.K) H0 P0 Hn ρc φc σn ∧ Seen (Hid P0 ρ σ) H1 (Hid P0 ρc σn) Hn ∧ forGo set mb (as.drop (i + 1)) ρc φc = .ok r,
        fun σn Hn hn => ⟨as.length - (i + 1), by omega, rfl, hlt, hn⟩, fun x H2 hy => ?_⟩
      obtain ⟨x2, rx⟩ := go2 x H2 hy
      have S2 : StR (q.at X.K) H0 P0 H2 ρc φc σc := Sc.upTo x2.up (Sc.fo.ext (hide_ext x2))
      refine h4 H0 P0 H2 ρc φc σc as[i] x ρ1 _ S2 rx hset fun σ3 S3 s3 => ?_
      have s4 := (sc.trans (seen_up x2.up)).trans s3
      refine ⟨H0, P0, ρ1, φc, (fl, ρ2, φ2), S3, h3, ?_⟩
      cases fl with
      | nx => exact fun σ5 H5 S5 s5 => ⟨ρ2, φ2, S5, s4.trans s5, hgo⟩
      | ct => exact fun σ5 H5 S5 s5 => ⟨ρ2, φ2, S5, s4.trans s5, hgo⟩
      | bk =>
        cases hgo
        exact fun σ5 H5 S5 s5 => k σ5 H5 S5 ((s1.trans s4).trans s5)
      | ret e =>
        cases hgo
        exact fun v H5 u5 f5 r5 => k v H5 u5 f5 r5
  · have ei : i = as.length := by omega
    subst ei
    rw [List.drop_length] at hgo
    cases hgo
    exact .inl ⟨stop (Nat.le_refl _), k σc Hc Sc (s1.trans sc)⟩
end
end VI
namespace VI
open PySem PySem.Spec PyProof.Rows L2
mutual
def plain : D → Bool
  | .none => true
  | .bool _ => true
  | .int _ => false
  | .str x => PyData.strOk x && PyData.strOk (reprText x)
  | .list ds => plainAll ds
  | .tuple ds => plainAll ds
  | .dict _ => false
def plainAll : List D → Bool
  | [] => true
  | d :: ds => plain d && plainAll ds
end
mutual
def sz : D → Nat
  | .none => 4
  | .bool _ => 5
  | .int _ => 0
  | .str x => (reprText x).length
  | .list ds => szAll ds + 4
  | .tuple ds => szAll ds + 4
  | .dict _ => 0
def szAll : List D → Nat
  | [] => 0
  | d :: ds => sz d + 2 + szAll ds
end
theorem strLen_app (x y : Str) : (x ++ y).length = x.length + y.length := strLen_append x y
theorem tupleText_le (ts : List Str) : (tupleText ts).length ≤ piled ts + 3 := by
  unfold tupleText
  rw [strLen_app, strLen_app]
  have e1 : ((("(" : String) : Str)).length = 1 := rfl
  have e2 : ((if (ts.length == 1) = true then (",)" : String) else ")" : String) : Str).length ≤ 2 := by split <;> decide
  by_cases h : ts = []
  · subst h
    have e3 : (Str.join ", " []).length = 0 := rfl
    rw [e1, e3]
    omega
  · have := join_length_add ts h
    rw [e1]
    omega
theorem listText_le (ts : List Str) : (listText ts).length ≤ piled ts + 3 := by
  unfold listText
  cases ts with
  | nil => exact (by decide : (textFrom 0 "[" [] ++ (("]" : String) : Str)).length ≤ 0 + 3)
  | cons t r =>
    have h := textFrom_length_pos r 1 ((("[" : String) : Str) ++ (("" : String) : Str) ++ t) (by omega)
    have e : textFrom 0 "[" (t :: r) = textFrom 1 ((("[" : String) : Str) ++ (("" : String) : Str) ++ t) r := rfl
    rw [strLen_app, e, h, strLen_app, strLen_app, piled_cons]
    have e1 : ((("[" : String) : Str)).length = 1 := rfl
    have e2 : ((("]" : String) : Str)).length = 1 := rfl
    have e3 : ((("" : String) : Str)).length = 0 := rfl
    omega
mutual
theorem shown_le : ∀ d : D, plain d = true → d.shown.length ≤ sz d
  | .none, _ => (by decide : (PyData.none).shown.length ≤ 4)
  | .bool true, _ => (by decide : (PyData.bool true).shown.length ≤ 5)
  | .bool false, _ => (by decide : (PyData.bool false).shown.length ≤ 5)
  | .int _, h => by simp [plain] at h
  | .str x, _ => Nat.le_refl _
  | .list ds, h => by
    have := shown_all ds (by simpa only [plain] using h)
    have h2 := listText_le (PyData.shownAll ds)
    show (listText (PyData.shownAll ds)).length ≤ szAll ds + 4
    omega
  | .tuple ds, h => by
    have := shown_all ds (by simpa only [plain] using h)
    have h2 := tupleText_le (PyData.shownAll ds)
    show (tupleText (PyData.shownAll ds)).length ≤ szAll ds + 4
    omega
  | .dict _, h => by simp [plain] at h
theorem shown_all : ∀ ds : List D, plainAll ds = true → piled (PyData.shownAll ds) ≤ szAll ds
  | [], _ => Nat.le_refl _
  | d :: ds, h => by
    simp only [plainAll, Bool.and_eq_true] at h
    have h1 := shown_le d h.1
    have h2 := shown_all ds h.2
    show piled (d.shown :: PyData.shownAll ds) ≤ sz d + 2 + szAll ds
    rw [piled_cons]
    omega
end
mutual
theorem lay_plain : ∀ d : D, plain d = true → d.canLay0 = true ∧ d.showable = true
  | .none, _ => ⟨rfl, rfl⟩
  | .bool _, _ => ⟨rfl, rfl⟩
  | .int _, h => by simp [plain] at h
  | .str x, h => by
    simp only [plain, Bool.and_eq_true] at h
    exact ⟨h.1, rfl⟩
  | .list ds, h => lay_all ds (by simpa only [plain] using h)
  | .tuple ds, h => lay_all ds (by simpa only [plain] using h)
  | .dict _, h => by simp [plain] at h
theorem lay_all : ∀ ds : List D, plainAll ds = true → PyData.canLayAll0 ds = true ∧ PyData.showableAll ds = true
  | [], _ => ⟨rfl, rfl⟩
  | d :: ds, h => by
    simp only [plainAll, Bool.and_eq_true] at h
    obtain ⟨a, b⟩ := lay_plain d h.1
    obtain ⟨a2, b2⟩ := lay_all ds h.2
    exact ⟨by simp [PyData.canLayAll0, a, a2], by simp [PyData.showableAll, b, b2]⟩
end
theorem strOk_iff {x : Str} : PyData.strOk x = true ↔ ∀ c ∈ x.cps.toList, c < 0x110000 := by
  unfold PyData.strOk
  rw [← Array.all_toList, List.all_eq_true]
  exact ⟨fun h c m => of_decide_eq_true (h c m), fun h c m => decide_eq_true (h c m)⟩
theorem strOk_app {x y : Str} (h1 : PyData.strOk x = true) (h2 : PyData.strOk y = true) : PyData.strOk (x ++ y) = true := by
  rw [strOk_iff] at *
  intro c m
  have e : (x ++ y).cps.toList = x.cps.toList ++ y.cps.toList := Array.toList_append
  rw [e] at m
  rcases List.mem_append.mp m with q | q
  · exact h1 c q
  · exact h2 c q
theorem strOk_join : ∀ ts : List Str, (∀ t ∈ ts, PyData.strOk t = true) → PyData.strOk (Str.join ", " ts) = true
  | [], _ => (by decide +kernel : PyData.strOk (Str.join ", " []) = true)
  | [x], h => h x List.mem_cons_self
  | x :: y :: r, h => strOk_app (strOk_app (h x List.mem_cons_self) (by decide +kernel)) (strOk_join (y :: r) fun t m => h t (List.mem_cons_of_mem _ m))
theorem strOk_from : ∀ (ts : List Str) (k : Nat) (acc : Str), (∀ t ∈ ts, PyData.strOk t = true) → PyData.strOk acc = true → PyData.strOk (textFrom k acc ts) = true
  | [], _, acc, _, h => h
  | t :: ts, k, acc, ht, h => by
    show PyData.strOk (textFrom (k + 1) (acc ++ (if k > 0 then ", " else "" : String) ++ t) ts) = true
    refine strOk_from ts (k + 1) _ (fun u m => ht u (List.mem_cons_of_mem _ m)) (strOk_app (strOk_app h ?_) (ht t List.mem_cons_self))
    split <;> decide +kernel
theorem strOk_tuple {ts : List Str} (h : ∀ t ∈ ts, PyData.strOk t = true) : PyData.strOk (tupleText ts) = true := by
  unfold tupleText
  refine strOk_app (strOk_app (by decide +kernel) (strOk_join ts h)) ?_
  split <;> decide +kernel
theorem strOk_list {ts : List Str} (h : ∀ t ∈ ts, PyData.strOk t = true) : PyData.strOk (listText ts) = true := strOk_app (strOk_from ts 0 _ h (by decide +kernel)) (by decide +kernel)
mutual
theorem shown_ok : ∀ d : D, plain d = true → PyData.strOk d.shown = true
  | .none, _ => (by decide +kernel : PyData.strOk (PyData.none).shown = true)
  | .bool true, _ => (by decide +kernel : PyData.strOk (PyData.bool true).shown = true)
  | .bool false, _ => (by decide +kernel : PyData.strOk (PyData.bool false).shown = true)
  | .int _, h => by simp [plain] at h
  | .str x, h => by
    simp only [plain, Bool.and_eq_true] at h
    exact h.2
  | .list ds, h => strOk_list (shown_oks ds (by simpa only [plain] using h))
  | .tuple ds, h => strOk_tuple (shown_oks ds (by simpa only [plain] using h))
  | .dict _, h => by simp [plain] at h
theorem shown_oks : ∀ ds : List D, plainAll ds = true → ∀ t ∈ PyData.shownAll ds, PyData.strOk t = true
  | [], _, t, m => by cases m
  | d :: ds, h, t, m => by
    simp only [plainAll, Bool.and_eq_true] at h
    rcases List.mem_cons.mp (show t ∈ d.shown :: PyData.shownAll ds from m) with e | q
    · rw [e]; exact shown_ok d h.1
    · exact shown_oks ds h.2 t q
end
theorem shaped_of {d : D} (h : plain d = true) (hd : d.depth ≤ 64) : SeqAt.shaped d = true := by
  unfold SeqAt.shaped
  rw [(lay_plain d h).1, decide_eq_true hd]
  rfl
theorem repr_of {d : D} (h : plain d = true) (hd : d.depth ≤ 64) (hs : sz d ≤ 1000000) : reprG [d] = .ok (.dat (.str d.shown)) := by
  show (if _ then _ else _) = _
  rw [if_pos ⟨shaped_of h hd, (lay_plain d h).2, Nat.le_trans (shown_le d h) (small6 hs)⟩]
end VI
namespace VI
open PySem PySem.Spec PyProof.Rows L2
section
variable {ρ : Env'} {σ : EnvS} {φ φ1 φ2 : FS} {m m1 m2 : ME} {ms : MA} {t t1 t2 : MT} {s s1 s2 : MS} {g : D → D → Res EV} {gs : List D → Res EV} {d d1 d2 : D} {ds : List D} {e : EV} {vs : List Nat} {i : Nat} {α : Type}
@[simp] theorem bind_e {β γ : Type} {a : β} {f : β → Res γ} : Res.bind (.ok a) f = f a := rfl
@[simp] theorem toD_dat : EV.toD (.dat d) = d := rfl
@[simp] theorem toD_own : EV.toD (.own ds) = .list ds := rfl
@[simp] theorem rb_e {b : Bool} : rb b = .ok (.dat (.bool b)) := rfl
@[simp] theorem cD_e : cD d ρ φ = .ok (.dat d, φ) := rfl
theorem vD_e (h : ρ[i]? = some (some d)) : vD i ρ φ = .ok (.dat d, φ) := by
  unfold vD
  rw [h]
@[simp] theorem vD0 : vD 0 (some d :: ρ) φ = .ok (.dat d, φ) := rfl
@[simp] theorem vDs {x : Option D} : vD (i + 1) (x :: ρ) φ = vD i ρ φ := rfl
@[simp] theorem nilA_e : nilA ρ φ = .ok ([], φ) := rfl
@[simp] theorem consA_e : consA m ms ρ φ = (m ρ φ).bind fun r => (ms ρ r.2).bind fun r2 => .ok (r.1.toD :: r2.1, r2.2) := rfl
@[simp] theorem callM_e : callM gs ms ρ φ = (ms ρ φ).bind fun r => (gs r.1).bind fun e => .ok (e, r.2) := rfl
@[simp] theorem op2_e : op2 g m1 m2 ρ φ = (m1 ρ φ).bind fun r1 => (m2 ρ r1.2).bind fun r2 => (g r1.1.toD r2.1.toD).bind fun e => .ok (e, r2.2) := rfl
@[simp] theorem tst_b : tst m ρ φ = (m ρ φ).bind fun r => match r.1 with | .dat (.bool b) => .ok (b, r.2) | _ => .bad := rfl
@[simp] theorem soM_b : soM m ρ φ = (m ρ φ).bind fun r => match r.1 with | .dat (.int i) => .ok (some i, r.2) | _ => .bad := rfl
theorem tst_e {b : Bool} (h : m ρ φ = .ok (.dat (.bool b), φ1)) : tst m ρ φ = .ok (b, φ1) := by
  unfold tst
  rw [h]
  rfl
@[simp] theorem notT_e : notT t ρ φ = (t ρ φ).bind fun r => .ok (!r.1, r.2) := rfl
@[simp] theorem orT_e : orT t1 t2 ρ φ = (t1 ρ φ).bind fun r => if r.1 = true then .ok (true, r.2) else t2 ρ r.2 := rfl
@[simp] theorem andT_e : andT t1 t2 ρ φ = (t1 ρ φ).bind fun r => if r.1 = true then t2 ρ r.2 else .ok (false, r.2) := rfl
theorem andM_t (h : m1 ρ φ = .ok (.dat (.bool true), φ1)) : andM m1 m2 ρ φ = m2 ρ φ1 := by
  unfold andM
  rw [h]
  rfl
theorem andM_f (h : m1 ρ φ = .ok (.dat (.bool false), φ1)) : andM m1 m2 ρ φ = .ok (.dat (.bool false), φ1) := by
  unfold andM
  rw [h]
  rfl
theorem andM_b {b c : Bool} (h : m1 ρ φ = .ok (.dat (.bool b), φ1)) (h2 : b = true → m2 ρ φ1 = .ok (.dat (.bool c), φ1)) : andM m1 m2 ρ φ = .ok (.dat (.bool (b && c)), φ1) := by
  cases b with
  | true => rw [andM_t h, h2 rfl]; rfl
  | false => rw [andM_f h]; rfl
@[simp] theorem ifM_e : ifM t m1 m2 ρ φ = (t ρ φ).bind fun r => if r.1 = true then m1 ρ r.2 else m2 ρ r.2 := rfl
@[simp] theorem tupM_e : tupM ms ρ φ = (ms ρ φ).bind fun r => if r.1.length ≤ 1000000 then .ok (.dat (.tuple r.1), r.2) else .bad := rfl
@[simp] theorem lstM_e : lstM ms ρ φ = (ms ρ φ).bind fun r => if r.1.length ≤ 1000000 then .ok (.own r.1, r.2) else .bad := rfl
@[simp] theorem isiM_e {T : String} : isiM T m ρ φ = (m ρ φ).bind fun r => .ok (.dat (.bool (isiB T r.1.toD)), r.2) := rfl
@[simp] theorem isi_tup : isiB "tuple" (.tuple ds) = true := rfl
@[simp] theorem isi_str {x : Str} : isiB "str" (.str x) = true := rfl
@[simp] theorem slM_e {lo hi : MO} : slM m lo hi ρ φ = (m ρ φ).bind fun r => (lo ρ r.2).bind fun r1 => (hi ρ r1.2).bind fun r2 => (slG r.1.toD r1.1 r2.1).bind fun e => .ok (e, r2.2) := rfl
@[simp] theorem noM_e : noM ρ φ = .ok (none, φ) := rfl
theorem soM_e {z : Int} (h : m ρ φ = .ok (.dat (.int z), φ1)) : soM m ρ φ = .ok (some z, φ1) := by
  unfold soM
  rw [h]
  rfl
theorem lst2 {e1 e2 : EV} (h1 : m1 ρ φ = .ok (e1, φ1)) (h2 : m2 ρ φ1 = .ok (e2, φ2)) : lstM (consA m1 (consA m2 nilA)) ρ φ = .ok (.own [e1.toD, e2.toD], φ2) := by
  rw [lstM_e, consA_e, h1, bind_e, consA_e, h2]
  rfl
theorem app_e {n : Nat} {f : MF} (h : ms ρ φ = .ok (ds, φ1)) (hn : ds.length = n) : appM n f ms ρ φ = f ds φ1 := by
  unfold appM
  rw [h, bind_e, if_pos hn]
@[simp] theorem app0_e {f : MF} : appM 0 f nilA ρ φ = f [] φ := rfl
theorem bind_assoc' {β γ δ : Type} {r : Res β} {f : β → Res γ} {g : γ → Res δ} : (r.bind f).bind g = r.bind fun x => (f x).bind g := by
  cases r <;> rfl
@[simp] theorem app1_e {f : MF} : appM 1 f (consA m nilA) ρ φ = (m ρ φ).bind fun r => f [r.1.toD] r.2 := by
  simp [appM, bind_assoc']
@[simp] theorem app2_e {f : MF} : appM 2 f (consA m1 (consA m2 nilA)) ρ φ = (m1 ρ φ).bind fun r1 => (m2 ρ r1.2).bind fun r2 => f [r1.1.toD, r2.1.toD] r2.2 := by
  simp [appM, bind_assoc']
@[simp] theorem app3_e {f : MF} {m3 : ME} : appM 3 f (consA m1 (consA m2 (consA m3 nilA))) ρ φ = (m1 ρ φ).bind fun r1 => (m2 ρ r1.2).bind fun r2 => (m3 ρ r2.2).bind fun r3 => f [r1.1.toD, r2.1.toD, r3.1.toD] r3.2 := by
  simp [appM, bind_assoc']
@[simp] theorem soft_n : soft [] [] = [] := rfl
theorem soft_c {x : Option EV} : soft [] (x :: σ) = soft1 [] 0 x :: soft [] σ := by
  unfold soft
  rw [List.mapIdx_cons]
  congr 1
@[simp] theorem soft_o : soft [] (none :: σ) = none :: soft [] σ := soft_c
@[simp] theorem soft_d : soft [] (some (.dat d) :: σ) = some d :: soft [] σ := soft_c
@[simp] theorem soft_w : soft [] (some (.own ds) :: σ) = none :: soft [] σ := by rw [soft_c]; simp [soft1]
@[simp] theorem settle_nil : settle [] σ = σ := by
  unfold settle
  refine (List.mapIdx_eq_iff.mpr fun i => ?_)
  cases σ[i]? with
  | none => rfl
  | some x => cases x with
    | none => rfl
    | some y => cases y <;> simp [settle1]
@[simp] theorem aft_nil : aft [] e σ = σ := by
  unfold aft
  rw [settle_nil]
  split <;> rfl
@[simp] theorem start_nil {n : Nat} : startS n [] = List.replicate n none := rfl
@[simp] theorem start_cons {n : Nat} : startS (n + 1) (d :: ds) = some (.dat d) :: startS n ds := by
  unfold startS
  simp
@[simp] theorem nxM_e : nxM σ φ = .ok (.nx, σ, φ) := rfl
theorem seq_nx {σ1 : EnvS} (h : s1 σ φ = .ok (.nx, σ1, φ1)) : seqM s1 s2 σ φ = s2 σ1 φ1 := by
  unfold seqM
  rw [h]
  rfl
theorem seq_rt {σ1 : EnvS} (h : s1 σ φ = .ok (.ret e, σ1, φ1)) : seqM s1 s2 σ φ = .ok (.ret e, σ1, φ1) := by
  unfold seqM
  rw [h]
  rfl
theorem if_t (h : t (soft vs σ) φ = .ok (true, φ1)) : ifS vs t s1 s2 σ φ = s1 σ φ1 := by
  unfold ifS
  rw [h]
  rfl
theorem if_f (h : t (soft vs σ) φ = .ok (false, φ1)) : ifS vs t s1 s2 σ φ = s2 σ φ1 := by
  unfold ifS
  rw [h]
  rfl
theorem ret_e (h : m (soft vs σ) φ = .ok (e, φ1)) : retM vs m σ φ = .ok (.ret e, σ, φ1) := by
  unfold retM
  rw [h]
  rfl
theorem drop_e (h : m (soft vs σ) φ = .ok (e, φ1)) : dropM vs m σ φ = .ok (.nx, σ, φ1) := by
  unfold dropM
  rw [h]
  rfl
theorem asgD_e (h : m (soft vs σ) φ = .ok (e, φ1)) (hi : i < σ.length) : asgD vs i m σ φ = .ok (.nx, (aft vs e σ).set i (some (.dat e.toD)), φ1) := by
  unfold asgD
  rw [h, bind_e, if_pos hi]
theorem asgM_e (h : m (soft vs σ) φ = .ok (e, φ1)) (hi : i < σ.length) : asgM vs i m σ φ = .ok (.nx, (aft vs e σ).set i (some e), φ1) := by
  unfold asgM
  rw [h, bind_e, if_pos hi]
theorem fn_rt {n : Nat} {σ1 : EnvS} (h : s (startS n ds) φ = .ok (.ret e, σ1, φ1)) : fnM n s ds φ = .ok (e, φ1) := by
  unfold fnM
  rw [h]
  rfl
theorem fn_nx {n : Nat} {σ1 : EnvS} (h : s (startS n ds) φ = .ok (.nx, σ1, φ1)) : fnM n s ds φ = .ok (.dat .none, φ1) := by
  unfold fnM
  rw [h]
  rfl
theorem lcGo_pure {set : α → Env' → Option Env'} {ρ0 : Env'} {b : α → Bool} {f : α → D} : ∀ as : List α, (∀ a ∈ as, ∃ ρ1, set a ρ0 = some ρ1 ∧ t ρ1 φ = .ok (b a, φ) ∧ (b a = true → ∃ e, m ρ1 φ = .ok (e, φ) ∧ e.toD = f a)) →
    lcGo set t m ρ0 as φ = .ok ((as.filter b).map f, φ)
  | [], _ => rfl
  | a :: as, h => by
    obtain ⟨ρ1, h1, h2, h3⟩ := h a List.mem_cons_self
    have ih := lcGo_pure as fun x hx => h x (List.mem_cons_of_mem _ hx)
    unfold lcGo
    rw [h1]
    dsimp only
    rw [h2, bind_e]
    cases hb : b a with
    | true =>
      obtain ⟨e, h4, h5⟩ := h3 hb
      rw [if_pos rfl, h4, bind_e, ih, bind_e, List.filter_cons, hb, if_pos rfl, List.map_cons, h5]
    | false => rw [if_neg Bool.false_ne_true, ih, List.filter_cons, hb, if_neg Bool.false_ne_true]
theorem lc_pure {own : List Nat} {mi : MI α} {set : α → Env' → Option Env'} {as : List α} (b : α → Bool) (f : α → D) (hi : mi ρ φ = .ok (as, φ1)) (hl : as.length ≤ 1000000)
    (h : ∀ a ∈ as, ∃ ρ1, set a (wipeD ρ own) = some ρ1 ∧ t ρ1 φ1 = .ok (b a, φ1) ∧ (b a = true → ∃ e, m ρ1 φ1 = .ok (e, φ1) ∧ e.toD = f a)) : lcM own mi set t m ρ φ = .ok (.own ((as.filter b).map f), φ1) := by
  unfold lcM
  rw [hi, bind_e, if_pos hl, lcGo_pure as h]
  rfl
theorem lc_all {own : List Nat} {mi : MI α} {set : α → Env' → Option Env'} {as : List α} (f : α → D) (hi : mi ρ φ = .ok (as, φ1)) (hl : as.length ≤ 1000000)
    (h : ∀ a ∈ as, ∃ ρ1, set a (wipeD ρ own) = some ρ1 ∧ ∃ e, m ρ1 φ1 = .ok (e, φ1) ∧ e.toD = f a) : lcM own mi set yesT m ρ φ = .ok (.own (as.map f), φ1) := by
  have := lc_pure (t := yesT) (own := own) (set := set) (m := m) (fun _ => true) f hi hl fun a ha => by
    obtain ⟨ρ1, h1, e, h2, h3⟩ := h a ha
    exact ⟨ρ1, h1, rfl, fun _ => ⟨e, h2, h3⟩⟩
  rwa [List.filter_eq_self.mpr fun _ _ => rfl] at this
/-- a loop that leaves at the first hit -/
theorem forGo_find {set : α → EnvS → Option EnvS} {mb : MS} {as : List α} (I : EnvS → Prop) (b : α → Bool) (e : EV) (h : ∀ a ∈ as, ∀ σ, I σ → ∃ σ1, set a σ = some σ1 ∧ (b a = true → ∃ σ2, mb σ1 φ = .ok (.ret e, σ2, φ)) ∧ (b a = false → ∃ σ2, I σ2 ∧ mb σ1 φ = .ok (.nx, σ2, φ))) : ∀ σ, I σ →
    (as.any b = true → ∃ σ', forGo set mb as σ φ = .ok (.ret e, σ', φ)) ∧ (as.any b = false → ∃ σ', I σ' ∧ forGo set mb as σ φ = .ok (.nx, σ', φ)) := by
  induction as with
  | nil => exact fun σ hI => ⟨fun z => (by cases z), fun _ => ⟨σ, hI, rfl⟩⟩
  | cons a as ih =>
    intro σ hI
    obtain ⟨σ1, h1, h2, h3⟩ := h a List.mem_cons_self σ hI
    unfold forGo
    rw [h1]
    dsimp only
    cases hb : b a with
    | true =>
      obtain ⟨σ2, h4⟩ := h2 hb
      exact ⟨fun _ => ⟨σ2, by rw [h4]; rfl⟩, fun z => by rw [List.any_cons, hb] at z; cases z⟩
    | false =>
      obtain ⟨σ2, h4, h5⟩ := h3 hb
      obtain ⟨g1, g2⟩ := ih (fun x hx => h x (List.mem_cons_of_mem _ hx)) σ2 h4
      rw [List.any_cons, hb, Bool.false_or]
      refine ⟨fun z => ?_, fun z => ?_⟩
      · obtain ⟨σ', g⟩ := g1 z
        exact ⟨σ', by rw [h5]; exact g⟩
      · obtain ⟨σ', g, k⟩ := g2 z
        exact ⟨σ', g, by rw [h5]; exact k⟩
/-- a loop that keeps an invariant -/
theorem forGo_inv {set : α → EnvS → Option EnvS} {mb : MS} (I : List α → EnvS → FS → Prop) : ∀ (as done : List α), (∀ pre a post σ φ, done ++ as = pre ++ a :: post → I pre σ φ → ∃ σ1, set a σ = some σ1 ∧ ∃ σ2 φ2, mb σ1 φ = .ok (.nx, σ2, φ2) ∧ I (pre ++ [a]) σ2 φ2) →
    ∀ σ φ, I done σ φ → ∃ σ' φ', forGo set mb as σ φ = .ok (.nx, σ', φ') ∧ I (done ++ as) σ' φ'
  | [], done, _, σ, φ, h => ⟨σ, φ, rfl, by rw [List.append_nil]; exact h⟩
  | a :: as, done, step, σ, φ, h => by
    obtain ⟨σ1, h1, σ2, φ2, h2, h3⟩ := step done a as σ φ rfl h
    have e : done ++ [a] ++ as = done ++ a :: as := by rw [List.append_assoc]; rfl
    obtain ⟨σ', φ', h4, h5⟩ := forGo_inv I as (done ++ [a]) (fun pre b post σ φ q => step pre b post σ φ (e ▸ q)) σ2 φ2 h3
    refine ⟨σ', φ', ?_, by rw [← e]; exact h5⟩
    unfold forGo
    rw [h1]
    dsimp only
    rw [h2]
    exact h4
theorem for_e {mi : MI α} {set : α → EnvS → Option EnvS} {mb : MS} {as : List α} (h : mi (soft vs σ) φ = .ok (as, φ1)) : forM vs mi set mb σ φ = forGo set mb as (settle vs σ) φ1 := by
  unfold forM
  rw [h]
  rfl
theorem forC_e {mi : MI α} {set : α → EnvS → Option EnvS} {mb : MS} {as : List α} (h : mi (soft vs σ) φ = .ok (as, φ1)) : forC vs mi set mb σ φ = forGo set mb as σ φ1 := by
  unfold forC
  rw [h]
  rfl
theorem setNS_e (hi : i < σ.length) : setNS i d σ = some (σ.set i (some (.dat d))) := by
  unfold setNS
  rw [if_pos hi]
theorem seqI_t (h : m ρ φ = .ok (.dat (.tuple ds), φ1)) : seqI m ρ φ = .ok (ds, φ1) := by
  unfold seqI
  rw [h]
  rfl
theorem seqI_l (h : m ρ φ = .ok (.dat (.list ds), φ1)) : seqI m ρ φ = .ok (ds, φ1) := by
  unfold seqI
  rw [h]
  rfl
theorem seqI_w (h : m ρ φ = .ok (.own ds, φ1)) : seqI m ρ φ = .ok (ds, φ1) := by
  unfold seqI
  rw [h]
  rfl
theorem seqI_s {x : Str} (h : m ρ φ = .ok (.dat (.str x), φ1)) : seqI m ρ φ = .ok (x.cps.toList.map fun c => .str ⟨#[c]⟩, φ1) := by
  unfold seqI
  rw [h]
  rfl
theorem boolsOf_map : ∀ bs : List Bool, boolsOf (bs.map .bool) = some bs
  | [] => rfl
  | b :: r => by
    rw [List.map_cons]
    show (boolsOf (r.map .bool)).map (b :: ·) = _
    rw [boolsOf_map r]
    rfl
theorem allG_e (bs : List Bool) : allG [.list (bs.map .bool)] = .ok (.dat (.bool (bs.all fun b => b))) := by
  show (match boolsOf (bs.map .bool) with | some bs => rb (bs.all fun b => b) | none => .bad) = _
  rw [boolsOf_map]
  rfl
theorem anyG_e (bs : List Bool) : anyG [.list (bs.map .bool)] = .ok (.dat (.bool (bs.any fun b => b))) := by
  show (match boolsOf (bs.map .bool) with | some bs => rb (bs.any fun b => b) | none => .bad) = _
  rw [boolsOf_map]
  rfl
@[simp] theorem tupleG_l : tupleG [.list ds] = .ok (.dat (.tuple ds)) := rfl
@[simp] theorem tupleG_t : tupleG [.tuple ds] = .ok (.dat (.tuple ds)) := rfl
@[simp] theorem lenG_t : lenG [.tuple ds] = .ok (.dat (.int ds.length)) := rfl
@[simp] theorem lenG_l : lenG [.list ds] = .ok (.dat (.int ds.length)) := rfl
end
theorem eqv_str {x y : Str} : PyData.eqv (.str x) (.str y) = decide (x = y) := by
  show (x == y) = _
  by_cases h : x = y
  · rw [decide_eq_true h, h, beq_self_eq_true]
  · rw [decide_eq_false h, beq_eq_false_iff_ne.mpr h]
theorem eqvAll_map {α : Type} [DecidableEq α] {g : α → D} (h : ∀ x y, PyData.eqv (g x) (g y) = decide (x = y)) : ∀ xs ys : List α, PyData.eqvAll (xs.map g) (ys.map g) = decide (xs = ys)
  | [], [] => rfl
  | [], y :: ys => rfl
  | x :: xs, [] => rfl
  | x :: xs, y :: ys => by
    show (PyData.eqv (g x) (g y) && PyData.eqvAll (xs.map g) (ys.map g)) = _
    rw [h, eqvAll_map h xs ys]
    by_cases h1 : x = y
    · subst h1
      by_cases h2 : xs = ys
      · subst h2; simp
      · simp [h2]
    · simp [h1]
theorem any_map {α β : Type} (f : α → β) (b : β → Bool) (l : List α) : (l.map f).any b = l.any fun x => b (f x) := by
  induction l with
  | nil => rfl
  | cons x l ih => rw [List.map_cons, List.any_cons, List.any_cons, ih]
def strD : D → Str
  | .str x => x
  | _ => ⟨#[]⟩
def lotD : D → List Str
  | .tuple ds => ds.map strD
  | _ => []
theorem lot_tup (xs : List Str) : lotD (tupD xs) = xs := by
  show (xs.map PyData.str).map strD = xs
  rw [List.map_map]
  exact List.map_id'' (fun _ => rfl) xs
def famD (f : List (List Str)) : D := .tuple (f.map tupD)
def netD (hs : List Str) (fs : List (List (List Str))) : D := .tuple [tupD hs, .tuple (fs.map famD)]
theorem eqv_tup (xs ys : List Str) : PyData.eqv (tupD xs) (tupD ys) = decide (xs = ys) := eqvAll_map (fun _ _ => eqv_str) xs ys
theorem eqv_fam (f g : List (List Str)) : PyData.eqv (famD f) (famD g) = decide (f = g) := eqvAll_map eqv_tup f g
def memB (x : Str) (ys : List Str) : Bool := decide (x ∈ ys)
theorem memB_iff {x : Str} {ys : List Str} : memB x ys = true ↔ x ∈ ys := decide_eq_true_iff
theorem memB_no {x : Str} {ys : List Str} : memB x ys = false ↔ x ∉ ys := decide_eq_false_iff_not
theorem any_str (x : Str) : ∀ ys : List Str, ((ys.map PyData.str).any fun z => PyData.eqv z (.str x)) = memB x ys
  | [] => rfl
  | y :: ys => by
    rw [List.map_cons, List.any_cons, any_str x ys, eqv_str]
    unfold memB
    by_cases h : y = x
    · subst h; simp
    · simp [h, Ne.symm h]
def Ok (x : Str) : Prop := (PyData.strOk x && PyData.strOk (reprText x)) = true ∧ (reprText x).length ≤ 10 ∧ 1 ≤ x.length ∧ x.length ≤ 8 ∧ x.cps.toList.all (fun c => decide (97 ≤ c) && decide (c ≤ 122)) = true
def Oks (xs : List Str) : Prop := ∀ x ∈ xs, Ok x
theorem plain_all {α : Type} {g : α → D} : ∀ {xs : List α}, (∀ x ∈ xs, plain (g x) = true) → plainAll (xs.map g) = true
  | [], _ => rfl
  | x :: xs, h => by
    show (plain (g x) && plainAll (xs.map g)) = true
    rw [h x List.mem_cons_self, plain_all fun y hy => h y (List.mem_cons_of_mem _ hy)]
    rfl
theorem depth_all {α : Type} {g : α → D} {n : Nat} : ∀ {xs : List α}, (∀ x ∈ xs, (g x).depth ≤ n) → PyData.depthAll (xs.map g) ≤ n
  | [], _ => Nat.zero_le _
  | x :: xs, h => by
    have h1 := h x List.mem_cons_self
    have h2 := depth_all fun y hy => h y (List.mem_cons_of_mem _ hy)
    show max (g x).depth (PyData.depthAll (xs.map g)) ≤ n
    omega
theorem sz_all {α : Type} {g : α → D} {n : Nat} : ∀ {xs : List α}, (∀ x ∈ xs, sz (g x) ≤ n) → szAll (xs.map g) ≤ (n + 2) * xs.length
  | [], _ => Nat.zero_le _
  | x :: xs, h => by
    have h1 := h x List.mem_cons_self
    have h2 := sz_all fun y hy => h y (List.mem_cons_of_mem _ hy)
    show sz (g x) + 2 + szAll (xs.map g) ≤ (n + 2) * (xs.length + 1)
    rw [Nat.mul_add]
    omega
/-- plain, not deep, not long -/
structure Fit (d : D) (k n : Nat) : Prop where
  pl : plain d = true
  dp : d.depth ≤ k
  sz : sz d ≤ n
theorem Fit.mono {d : D} {k n k' n' : Nat} (h : Fit d k n) (h1 : k ≤ k') (h2 : n ≤ n') : Fit d k' n' := ⟨h.pl, Nat.le_trans h.dp h1, Nat.le_trans h.sz h2⟩
theorem Fit.tup {α : Type} {g : α → D} {xs : List α} {k n : Nat} (h : ∀ x ∈ xs, Fit (g x) k n) : Fit (.tuple (xs.map g)) (k + 1) ((n + 2) * xs.length + 4) :=
  ⟨plain_all fun x hx => (h x hx).pl, Nat.succ_le_succ (depth_all fun x hx => (h x hx).dp), Nat.add_le_add_right (sz_all fun x hx => (h x hx).sz) 4⟩
theorem Fit.lst {α : Type} {g : α → D} {xs : List α} {k n : Nat} (h : ∀ x ∈ xs, Fit (g x) k n) : Fit (.list (xs.map g)) (k + 1) ((n + 2) * xs.length + 4) :=
  ⟨plain_all fun x hx => (h x hx).pl, Nat.succ_le_succ (depth_all fun x hx => (h x hx).dp), Nat.add_le_add_right (sz_all fun x hx => (h x hx).sz) 4⟩
theorem Fit.str {x : Str} (h : Ok x) : Fit (.str x) 0 10 := ⟨h.1, Nat.zero_le _, h.2.1⟩
theorem Fit.lot {xs : List Str} (h : Oks xs) : Fit (tupD xs) 1 (12 * xs.length + 4) := Fit.tup fun x hx => Fit.str (h x hx)
theorem Fit.shaped {d : D} {k n : Nat} (h : Fit d k n) (hk : k ≤ 64 := by omega) : SeqAt.shaped d = true := shaped_of h.pl (Nat.le_trans h.dp hk)
theorem Fit.repr {d : D} {k n : Nat} (h : Fit d k n) (hk : k ≤ 64 := by omega) (hn : n ≤ 1000000 := by omega) : reprG [d] = .ok (.dat (.str d.shown)) := repr_of h.pl (Nat.le_trans h.dp hk) (Nat.le_trans h.sz hn)
theorem eqG_shown {d : D} {k n : Nat} (h : Fit d k n) : eqG (.str d.shown) (.str d.shown) = .ok (.dat (.bool true)) := by
  have ok : SeqAt.shaped (.str d.shown) = true := by
    unfold SeqAt.shaped
    have e : (PyData.str d.shown).canLay0 = true := shown_ok d h.pl
    rw [e]
    rfl
  unfold eqG
  rw [if_pos ⟨ok, ok⟩, eqv_str, decide_eq_true rfl]
  rfl
theorem neG_shown {d : D} {k n : Nat} (h : Fit d k n) : neG (.str d.shown) (.str d.shown) = .ok (.dat (.bool false)) := by
  have ok : SeqAt.shaped (.str d.shown) = true := by
    unfold SeqAt.shaped
    have e : (PyData.str d.shown).canLay0 = true := shown_ok d h.pl
    rw [e]
    rfl
  unfold neG
  rw [if_pos ⟨ok, ok⟩, eqv_str, decide_eq_true rfl]
  rfl
theorem eqG_e {d e : D} {k n k' n' : Nat} (h : Fit d k n) (h' : Fit e k' n') (hk : k ≤ 64 := by omega) (hk' : k' ≤ 64 := by omega) : eqG d e = .ok (.dat (.bool (PyData.eqv d e))) := by
  unfold eqG
  rw [if_pos ⟨h.shaped hk, h'.shaped hk'⟩]
  rfl
theorem neG_e {d e : D} {k n k' n' : Nat} (h : Fit d k n) (h' : Fit e k' n') (hk : k ≤ 64 := by omega) (hk' : k' ≤ 64 := by omega) : neG d e = .ok (.dat (.bool (!PyData.eqv d e))) := by
  unfold neG
  rw [if_pos ⟨h.shaped hk, h'.shaped hk'⟩]
  rfl
theorem inG_e {x : Str} {ys : List Str} {neg : Bool} (hx : Ok x) (h : Oks ys) : inG neg (.str x) (tupD ys) = .ok (.dat (.bool (neg ^^ memB x ys))) := by
  show (if SeqAt.shaped (.str x) = true ∧ SeqAt.shaped (.list (ys.map .str)) = true then rb (neg ^^ (ys.map PyData.str).any fun z => PyData.eqv z (.str x)) else .bad) = _
  rw [if_pos ⟨(Fit.str hx).shaped, (Fit.lst (k := 0) (n := 10) fun y hy => Fit.str (h y hy)).shaped⟩, any_str]
  rfl
end VI
namespace VI
open PySem PySem.Spec PyProof.Rows L2
theorem cut_from {α : Type} (xs : List α) (n : Nat) : cutD xs (some (n : Int)) none = xs.drop n := by
  unfold cutD
  rw [HT.sIx_nat, HT.sIx_none]
  by_cases h : n ≤ xs.length
  · rw [Nat.min_eq_left h, ← List.length_drop, List.take_length]
  · rw [Nat.min_eq_right (by omega), List.drop_eq_nil_of_le (Nat.le_refl _), List.drop_eq_nil_of_le (by omega), List.take_nil]
theorem cut_to {α : Type} (xs : List α) (n : Nat) : cutD xs none (some (n : Int)) = xs.take n := by
  unfold cutD
  rw [HT.sIx_nat, HT.sIx_none, List.drop_zero, Nat.sub_zero]
  by_cases h : n ≤ xs.length
  · rw [Nat.min_eq_left h]
  · rw [Nat.min_eq_right (by omega), List.take_length, List.take_of_length_le (by omega)]
theorem cut1 {α : Type} (xs : List α) : cutD xs (some 1) none = xs.drop 1 := cut_from xs 1
@[simp] theorem slG_t {ds : List D} {lo hi : Option Int} : slG (.tuple ds) lo hi = .ok (.dat (.tuple (cutD ds lo hi))) := rfl
@[simp] theorem slG_l {ds : List D} {lo hi : Option Int} : slG (.list ds) lo hi = .ok (.own (cutD ds lo hi)) := rfl
theorem zip_map' {α β : Type} (f : α → β) : ∀ xs ys : List α, (xs.map f).zip (ys.map f) = (xs.zip ys).map fun p => (f p.1, f p.2)
  | [], _ => by simp
  | _ :: _, [] => by simp
  | x :: xs, y :: ys => by
    rw [List.map_cons, List.map_cons, List.zip_cons_cons, List.zip_cons_cons, zip_map' f xs ys, List.map_cons]
theorem all_map {α : Type} (f : α → Bool) (l : List α) : ((l.map f).all fun b => b) = l.all f := by
  induction l with
  | nil => rfl
  | cons x l ih => rw [List.map_cons, List.all_cons, List.all_cons, ih]
theorem any_map' {α : Type} (f : α → Bool) (l : List α) : ((l.map f).any fun b => b) = l.any f := any_map f _ l
def subL (xs ys : List Str) : Bool := xs.all fun x => memB x ys
def ascB (xs : List Str) : Bool := (xs.zip (xs.drop 1)).all fun p => ltS p.1 p.2
def maxU (l : List (List Str)) : List (List Str) := l.filter fun x => (l.filter fun y => decide (y ≠ x) && subL x y).isEmpty
def topU (f : List (List Str)) : List (List Str) := maxU (sortU ltL f)
abbrev Asc (xs : List Str) : Prop := xs.Pairwise fun x y => ltS x y = true
theorem subL_iff {xs ys : List Str} : subL xs ys = true ↔ ∀ x ∈ xs, x ∈ ys := by
  unfold subL
  rw [List.all_eq_true]
  exact ⟨fun h x m => memB_iff.mp (h x m), fun h x m => memB_iff.mpr (h x m)⟩
theorem ascB_of : ∀ {xs : List Str}, Asc xs → ascB xs = true
  | [], _ => rfl
  | [_], _ => rfl
  | x :: y :: r, h => by
    obtain ⟨h1, h2⟩ := List.pairwise_cons.mp h
    have ih := ascB_of h2
    show (ltS x y && ascB (y :: r)) = true
    rw [h1 y List.mem_cons_self, ih]
    rfl
theorem Asc.sub {xs ys : List Str} (h : Asc ys) (s : xs.Sublist ys) : Asc xs := h.sublist s
theorem asc_sublist : ∀ {ys xs : List Str}, Asc xs → Asc ys → (∀ x ∈ xs, x ∈ ys) → xs.Sublist ys
  | [], [], _, _, _ => .slnil
  | [], x :: xs, _, _, h => by have z := h x List.mem_cons_self; cases z
  | y :: ys, [], _, _, _ => List.nil_sublist _
  | y :: ys, x :: xs, h1, h2, h => by
    obtain ⟨a1, b1⟩ := List.pairwise_cons.mp h1
    obtain ⟨a2, b2⟩ := List.pairwise_cons.mp h2
    by_cases e : x = y
    · subst e
      refine .cons_cons x (asc_sublist b1 b2 fun z hz => ?_)
      rcases List.mem_cons.mp (h z (List.mem_cons_of_mem _ hz)) with q | q
      · have g := a1 z hz
        rw [q, tot_S.irr] at g
        cases g
      · exact q
    · have hx : x ∈ ys := by
        rcases List.mem_cons.mp (h x List.mem_cons_self) with q | q
        · exact absurd q e
        · exact q
      have lt := a2 x hx
      refine .cons y (asc_sublist h1 b2 fun z hz => ?_)
      rcases List.mem_cons.mp (h z hz) with q | q
      · rcases List.mem_cons.mp hz with q2 | q2
        · exact absurd (q2.symm.trans q) e
        · have g := a1 z q2
          rw [q] at g
          have g2 := tot_S.trans _ _ _ lt g
          rw [tot_S.irr] at g2
          cases g2
      · exact q
theorem mem_topU {f : List (List Str)} {x : List Str} : x ∈ topU f ↔ x ∈ f ∧ ∀ y ∈ f, y ≠ x → subL x y = false := by
  unfold topU maxU
  rw [List.mem_filter, mem_sortU tot_L, List.isEmpty_iff, List.filter_eq_nil_iff]
  refine and_congr_right fun _ => ⟨fun h y hy ne => ?_, fun h y hy => ?_⟩
  · have q := h y ((mem_sortU tot_L).mpr hy)
    rw [decide_eq_true ne, Bool.true_and] at q
    cases e : subL x y with
    | true => exact absurd e q
    | false => rfl
  · by_cases ne : y = x
    · rw [decide_eq_false (by simp [ne])]
      simp
    · rw [h y ((mem_sortU tot_L).mp hy) ne]
      simp
theorem topU_asc (f : List (List Str)) : (topU f).Pairwise fun x y => ltL x y = true := (sortU_asc tot_L f).sublist List.filter_sublist
theorem topU_idem (f : List (List Str)) : topU (topU f) = topU f := by
  refine asc_same tot_L (topU_asc _) (topU_asc _) fun x => ?_
  rw [mem_topU]
  exact ⟨fun h => h.1, fun h => ⟨h, fun y hy ne => (mem_topU.mp h).2 y (mem_topU.mp hy).1 ne⟩⟩
theorem topU_ne {f : List (List Str)} (ha : ∀ x ∈ f, Asc x) (hn : f ≠ []) : topU f ≠ [] := by
  -- one of the longest
  have long : ∀ g : List (List Str), g ≠ [] → ∃ x ∈ g, ∀ y ∈ g, y.length ≤ x.length := by
    intro g
    induction g with
    | nil => intro h; exact absurd rfl h
    | cons a g ih =>
      intro _
      by_cases hg : g = []
      · subst hg
        exact ⟨a, List.mem_cons_self, fun y hy => by rw [List.mem_singleton.mp hy]; exact Nat.le_refl _⟩
      · obtain ⟨x, hx, h⟩ := ih hg
        by_cases c : a.length ≤ x.length
        · refine ⟨x, List.mem_cons_of_mem _ hx, fun y hy => ?_⟩
          rcases List.mem_cons.mp hy with e | m
          · rw [e]; exact c
          · exact h y m
        · refine ⟨a, List.mem_cons_self, fun y hy => ?_⟩
          rcases List.mem_cons.mp hy with e | m
          · rw [e]; exact Nat.le_refl _
          · have := h y m
            omega
  obtain ⟨x, hx, h⟩ := long f hn
  have m : x ∈ topU f := mem_topU.mpr ⟨hx, fun y hy ne => by
    cases e : subL x y with
    | false => rfl
    | true =>
      have s := asc_sublist (ha x hx) (ha y hy) (subL_iff.mp e)
      exact absurd (s.eq_of_length_le (h y hy)).symm ne⟩
  exact fun e => by rw [e] at m; cases m
theorem sortU_id {f : List (List Str)} (h : f.Pairwise fun x y => ltL x y = true) : sortU ltL f = f := asc_same tot_L (sortU_asc tot_L f) h fun x => mem_sortU tot_L
end VI
namespace VI
open PySem PySem.Spec PyProof.Rows L2
section
variable {ρ : Env'} {φ φ1 : FS} {m : ME}
theorem ssG_tup {f : List (List Str)} (h : f.length < 64) : ssG (f.map tupD) = .ok (.own ((sortU ltL f).map tupD)) := by
  unfold ssG
  rw [if_pos (by rw [List.length_map]; exact h)]
  cases f with
  | nil => rfl
  | cons x r =>
    have e : strsOf ((x :: r).map tupD) = none := rfl
    rw [e, tupsOf_map]
theorem ssG_str {f : List Str} (h : f.length < 64) : ssG (f.map PyData.str) = .ok (.own ((sortU ltS f).map PyData.str)) := by
  unfold ssG
  rw [if_pos (by rw [List.length_map]; exact h), strsOf_map]
theorem ssM_e {e e2 : EV} {ds : List D} (h : m ρ φ = .ok (e, φ1)) (he : e.toD = .list ds ∨ e.toD = .tuple ds) (hs : ssG ds = .ok e2) : ssM m ρ φ = .ok (e2, φ1) := by
  unfold ssM
  rw [h, bind_e]
  rcases he with he | he <;> rw [he] <;> dsimp only <;> rw [hs] <;> rfl
end
end VI
namespace VI
open PySem PySem.Spec PyProof.Rows L2
theorem insU_len {α : Type} {lt : α → α → Bool} {x : α} : ∀ {l : List α}, (insU lt x l).length ≤ l.length + 1
  | [] => Nat.le_refl _
  | y :: r => by
    unfold insU
    split
    · exact Nat.le_refl _
    · split
      · exact Nat.succ_le_succ insU_len
      · exact Nat.le_succ _
theorem sortU_len {α : Type} {lt : α → α → Bool} : ∀ {l : List α}, (sortU lt l).length ≤ l.length
  | [] => Nat.le_refl _
  | x :: r => Nat.le_trans insU_len (Nat.succ_le_succ sortU_len)
theorem topU_len {f : List (List Str)} : (topU f).length ≤ f.length := Nat.le_trans (List.length_filter_le _ _) sortU_len
theorem maxU_any (l : List (List Str)) (x : List Str) : (!((l.filter fun y => decide (y ≠ x)).any fun y => subL x y)) = (l.filter fun y => decide (y ≠ x) && subL x y).isEmpty := by
  induction l with
  | nil => rfl
  | cons y l ih =>
    by_cases h : y = x
    · simpa [List.filter_cons, h] using ih
    · cases h2 : subL x y with
      | true => simp [List.filter_cons, h, h2]
      | false => simpa [List.filter_cons, h, h2] using ih
end VI
namespace VI
open PySem PySem.Spec PyProof.Rows L2
section
variable {ρ : Env'} {σ : EnvS} {φ φ1 : FS} {m m1 m2 m3 : ME}
theorem chn_tt {g g' : D → D → Res EV} {e1 e2 e3 : EV} {b : Bool} (h1 : m1 ρ φ = .ok (e1, φ)) (h2 : m2 ρ φ = .ok (e2, φ)) (h3 : m3 ρ φ = .ok (e3, φ)) (g1 : g e1.toD e2.toD = .ok (.dat (.bool true))) (g2 : g' e2.toD e3.toD = .ok (.dat (.bool b))) : chn g g' m1 m2 m3 ρ φ = .ok (.dat (.bool b), φ) := by
  unfold chn
  rw [h1, bind_e, h2, bind_e, g1, bind_e]
  dsimp only
  rw [h3, bind_e, g2]
  rfl
theorem le_one {x : Str} {n c : Nat} (hx : x.cps.toList = [n]) (h : n ≤ c) : leG (.str x) (.str ⟨#[c]⟩) = .ok (.dat (.bool true)) := by
  show rb (!decide ((#[c] : Array Nat).toList < x.cps.toList)) = _
  rw [hx]
  have e : ¬ [c] < [n] := fun z => by
    have z : [c] < [n] := z
    rcases List.cons_lt_cons_iff.mp z with q | ⟨_, q⟩
    · omega
    · cases q
  rw [show decide ((#[c] : Array Nat).toList < [n]) = false from decide_eq_false e]
  rfl
theorem one_le {x : Str} {n c : Nat} (hx : x.cps.toList = [n]) (h : c ≤ n) : leG (.str ⟨#[c]⟩) (.str x) = .ok (.dat (.bool true)) := by
  show rb (!decide (x.cps.toList < (#[c] : Array Nat).toList)) = _
  rw [hx]
  have e : ¬ [n] < [c] := fun z => by
    rcases List.cons_lt_cons_iff.mp z with q | ⟨_, q⟩
    · omega
    · cases q
  rw [show decide ([n] < (#[c] : Array Nat).toList) = false from decide_eq_false e]
  rfl
theorem unp_e {vs is : List Nat} {ds : List D} (h : m (soft vs σ) φ = .ok (.dat (.tuple ds), φ1)) (hi : is.length = ds.length) : unpM vs is m σ φ = .ok (.nx, setsE is (ds.map .dat) (aft vs (.dat (.tuple ds)) σ), φ1) := by
  unfold unpM
  rw [h, bind_e]
  dsimp only
  rw [if_pos hi]
@[simp] theorem setsE_c {i : Nat} {is : List Nat} {e : EV} {es : List EV} : setsE (i :: is) (e :: es) σ = setsE is es (σ.set i (some e)) := rfl
@[simp] theorem setsE_n {es : List EV} : setsE [] es σ = σ := rfl
end
theorem idxG_e {hs : List Str} {x : Str} {i : Nat} (h : hs.findIdx? (· == x) = some i) : idxG (tupD hs) (.str x) = .ok (.dat (.int i)) := by
  show (match strsOf (hs.map .str) with | some ys => _ | none => _) = _
  rw [strsOf_map]
  dsimp only
  rw [h]
theorem ixG_n {ds : List D} {i : Nat} {d : D} (h : ds[i]? = some d) : ixG (.tuple ds) (.int i) = .ok (.dat d) := by
  show atD ds i = _
  unfold atD
  have hi : i < ds.length := (List.getElem?_eq_some_iff.mp h).1
  have e : atI ds (i : Int) = some d := by
    unfold atI
    have e1 : ixN ds.length (i : Int) = some i := by
      unfold ixN
      rw [if_pos (by omega), if_pos (by omega)]
      rfl
    rw [e1]
    exact h
  rw [e]
theorem ixG_l {ds : List D} {i : Nat} {d : D} (h : ds[i]? = some d) : ixG (.list ds) (.int i) = .ok (.dat d) := ixG_n h
end VI
namespace VI
open PySem PySem.Spec PyProof.Rows L2
section
variable {ρ : Env'} {σ : EnvS} {φ φ1 φ2 : FS} {m m1 m2 m3 : ME} {i : Nat} {vs : List Nat}
theorem fp_e {n : Int} {put : FS → Int → FS} (h : m (soft [] σ) φ = .ok (.dat (.int n), φ1)) (hf : isFeed i (soft [] σ) = true) : fpM i m put σ φ = .ok (.nx, σ, put φ1 n) := by
  unfold fpM
  rw [h, bind_e]
  dsimp only
  rw [if_pos hf]
theorem fgI_e {get : FS → Int} (hf : isFeed i ρ = true) : fgI i get ρ φ = .ok (.dat (.int (get φ)), φ) := if_pos hf
theorem fgC_e (hf : isFeed i ρ = true) : fgC i ρ φ = .ok (.dat (.list (φ.cells.map .int)), φ) := if_pos hf
@[simp] theorem feed0 {kv : List (D × D)} : isFeed 0 (some (.dict kv) :: ρ) = true := rfl
@[simp] theorem feeds {x : Option D} : isFeed (i + 1) (x :: ρ) = isFeed i ρ := rfl
@[simp] theorem fgI0 {kv : List (D × D)} {get : FS → Int} : fgI 0 get (some (.dict kv) :: ρ) φ = .ok (.dat (.int (get φ)), φ) := fgI_e rfl
@[simp] theorem fgC0 {kv : List (D × D)} : fgC 0 (some (.dict kv) :: ρ) φ = .ok (.dat (.list (φ.cells.map .int)), φ) := fgC_e rfl
@[simp] theorem intG_e {z : Int} : intG [.int z] = .ok (.dat (.int z)) := rfl
@[simp] theorem add_ii {a b : Int} : addG (.int a) (.int b) = .ok (.dat (.int (a + b))) := rfl
@[simp] theorem gt_ii {a b : Int} : gtG (.int a) (.int b) = .ok (.dat (.bool (decide (b < a)))) := rfl
@[simp] theorem ge_ii {a b : Int} : geG (.int a) (.int b) = .ok (.dat (.bool (decide (b ≤ a)))) := rfl
@[simp] theorem lt_ii {a b : Int} : ltG (.int a) (.int b) = .ok (.dat (.bool (decide (a < b)))) := rfl
theorem mod_ii {a b : Int} (h : 0 < b) : modG (.int a) (.int b) = .ok (.dat (.int (a % b))) := if_pos h
theorem fd_ii {a b : Int} (h : 0 < b) (h2 : b < 2 ^ 64) : fdG (.int a) (.int b) = .ok (.dat (.int (a / b))) := if_pos ⟨h, h2⟩
theorem mul_l {a b : Int} (h : -(2 ^ 64) < a) (h2 : a < 2 ^ 64) : mulG (.int a) (.int b) = .ok (.dat (.int (a * b))) := if_pos (.inl ⟨h, h2⟩)
theorem mul_r {a b : Int} (h : -(2 ^ 64) < b) (h2 : b < 2 ^ 64) : mulG (.int a) (.int b) = .ok (.dat (.int (a * b))) := if_pos (.inr ⟨h, h2⟩)
theorem atI_in {ds : List D} {z : Int} (h : 0 ≤ z) (h2 : z < ds.length) : ∃ d ∈ ds, ixG (.list ds) (.int z) = .ok (.dat d) := by
  obtain ⟨n, e⟩ := Int.eq_ofNat_of_zero_le h
  subst e
  have hn : n < ds.length := by omega
  exact ⟨ds[n], List.getElem_mem hn, ixG_l (List.getElem?_eq_getElem hn)⟩
theorem par_e {is : List Nat} {ms : MAE} {es : List EV} (h : ms (soft vs σ) φ = .ok (es, φ1)) (hi : is.length = es.length) : parM vs is ms σ φ = .ok (.nx, setsE is es (settle vs σ), φ1) := by
  unfold parM
  rw [h, bind_e, if_pos hi]
@[simp] theorem nilE_e : nilE ρ φ = .ok ([], φ) := rfl
@[simp] theorem consD_e {ms : MAE} : consD m ms ρ φ = (m ρ φ).bind fun r => (ms ρ r.2).bind fun r2 => .ok (.dat r.1.toD :: r2.1, r2.2) := rfl
@[simp] theorem consE_e {ms : MAE} : consE m ms ρ φ = (m ρ φ).bind fun r => (ms ρ r.2).bind fun r2 => .ok (r.1 :: r2.1, r2.2) := rfl
end
end VI
set_option maxHeartbeats 4000000
namespace V03
open PySem PySem.Spec PyProof.Rows L2 VI
def topS (i : Nat) : Stmt := PySem.Challenge.pw_ownfears_k03_parts_told.main.body.getD i (.Pass ⟨0, 0, 0, 0⟩)
abbrev s_ascend : Stmt := topS 1
abbrev N_ascend : List Str := ["things", "one", "after"]
theorem S_ascend : FnScope N_ascend ["things"] (defScope s_ascend) := ⟨rfl, rfl, rfl, by decide +kernel, rfl, by decide +kernel, by decide +kernel⟩
abbrev s_includes : Stmt := topS 4
abbrev N_includes : List Str := ["lot", "part", "name"]
theorem S_includes : FnScope N_includes ["lot", "part"] (defScope s_includes) := ⟨rfl, rfl, rfl, by decide +kernel, rfl, by decide +kernel, by decide +kernel⟩
abbrev s_without : Stmt := topS 5
abbrev N_without : List Str := ["lot", "part", "name"]
theorem S_without : FnScope N_without ["lot", "part"] (defScope s_without) := ⟨rfl, rfl, rfl, by decide +kernel, rfl, by decide +kernel, by decide +kernel⟩
abbrev s_need : Stmt := topS 12
abbrev N_need : List Str := ["usable", "word"]
theorem S_need : FnScope N_need ["usable", "word"] (defScope s_need) := ⟨rfl, rfl, rfl, by decide +kernel, rfl, by decide +kernel, by decide +kernel⟩
abbrev s_is_name : Stmt := topS 14
abbrev N_is_name : List Str := ["thing", "letter"]
theorem S_is_name : FnScope N_is_name ["thing"] (defScope s_is_name) := ⟨rfl, rfl, rfl, by decide +kernel, rfl, by decide +kernel, by decide +kernel⟩
abbrev s_is_tuple_of : Stmt := topS 17
abbrev N_is_tuple_of : List Str := ["thing", "size"]
theorem S_is_tuple_of : FnScope N_is_tuple_of ["thing", "size"] (defScope s_is_tuple_of) := ⟨rfl, rfl, rfl, by decide +kernel, rfl, by decide +kernel, by decide +kernel⟩
abbrev s_family_of : Stmt := topS 20
abbrev N_family_of : List Str := ["net", "house", "houses", "fears"]
theorem S_family_of : FnScope N_family_of ["net", "house"] (defScope s_family_of) := ⟨rfl, rfl, rfl, by decide +kernel, rfl, by decide +kernel, by decide +kernel⟩
abbrev s_w_feed : Stmt := topS 28
abbrev N_w_feed : List Str := ["_law_script", "_law_cell"]
theorem S_w_feed : FnScope N_w_feed ["_law_script"] (defScope s_w_feed) := ⟨rfl, rfl, rfl, by decide +kernel, rfl, by decide +kernel, by decide +kernel⟩
abbrev s_w_draw : Stmt := topS 29
abbrev N_w_draw : List Str := ["_law_feed_here", "_law_many", "_law_cell", "_law_mixed", "_law_figure", "_law_idx", "_law_cells"]
theorem S_w_draw : FnScope N_w_draw ["_law_feed_here", "_law_many"] (defScope s_w_draw) := ⟨rfl, rfl, rfl, by decide +kernel, rfl, by decide +kernel, by decide +kernel⟩
abbrev s_w_same : Stmt := topS 31
abbrev N_w_same : List Str := ["_law_heard", "_law_due"]
theorem S_w_same : FnScope N_w_same ["_law_heard", "_law_due"] (defScope s_w_same) := ⟨rfl, rfl, rfl, by decide +kernel, rfl, by decide +kernel, by decide +kernel⟩
abbrev s_w_lies : Stmt := topS 32
abbrev N_w_lies : List Str := ["_law_less", "_law_more", "_law_tag"]
theorem S_w_lies : FnScope N_w_lies ["_law_less", "_law_more"] (defScope s_w_lies) := ⟨rfl, rfl, rfl, by decide +kernel, rfl, by decide +kernel, by decide +kernel⟩
abbrev s_w_hand : Stmt := topS 37
abbrev N_w_hand : List Str := ["_law_found", "_law_signs", "_law_near", "_law_ones", "_law_four", "_law_k", "_law_sign"]
theorem S_w_hand : FnScope N_w_hand [] (defScope s_w_hand) := ⟨rfl, rfl, rfl, by decide +kernel, rfl, by decide +kernel, by decide +kernel⟩
abbrev s_w_crowds_of : Stmt := topS 38
abbrev N_w_crowds_of : List Str := ["_law_web_here", "_law_tag"]
theorem S_w_crowds_of : FnScope N_w_crowds_of ["_law_web_here", "_law_tag"] (defScope s_w_crowds_of) := ⟨rfl, rfl, rfl, by decide +kernel, rfl, by decide +kernel, by decide +kernel⟩
abbrev s_w_wide : Stmt := topS 39
abbrev N_w_wide : List Str := ["_law_k", "_law_tags_here", "_law_signs", "_law_pairs", "_law_sign", "_law_j"]
theorem S_w_wide : FnScope N_w_wide [] (defScope s_w_wide) := ⟨rfl, rfl, rfl, by decide +kernel, rfl, by decide +kernel, by decide +kernel⟩
abbrev s_is_lot_of : Stmt := topS 2
abbrev N_is_lot_of : List Str := ["houses", "thing", "name"]
theorem S_is_lot_of : FnScope N_is_lot_of ["houses", "thing"] (defScope s_is_lot_of) := ⟨rfl, rfl, rfl, by decide +kernel, rfl, by decide +kernel, by decide +kernel⟩
abbrev s_greatest : Stmt := topS 6
abbrev N_greatest : List Str := ["lots", "once", "lot", "other"]
theorem S_greatest : FnScope N_greatest ["lots"] (defScope s_greatest) := ⟨rfl, rfl, rfl, by decide +kernel, rfl, by decide +kernel, by decide +kernel⟩
abbrev s_is_name_set : Stmt := topS 15
abbrev N_is_name_set : List Str := ["thing", "name"]
theorem S_is_name_set : FnScope N_is_name_set ["thing"] (defScope s_is_name_set) := ⟨rfl, rfl, rfl, by decide +kernel, rfl, by decide +kernel, by decide +kernel⟩
abbrev s_within_one : Stmt := topS 21
abbrev N_within_one : List Str := ["family", "lot", "greater"]
theorem S_within_one : FnScope N_within_one ["family", "lot"] (defScope s_within_one) := ⟨rfl, rfl, rfl, by decide +kernel, rfl, by decide +kernel, by decide +kernel⟩
abbrev s_w_pick : Stmt := topS 30
abbrev N_w_pick : List Str := ["_law_feed_here", "_law_some_here"]
theorem S_w_pick : FnScope N_w_pick ["_law_feed_here", "_law_some_here"] (defScope s_w_pick) := ⟨rfl, rfl, rfl, by decide +kernel, rfl, by decide +kernel, by decide +kernel⟩
abbrev s_w_greatest : Stmt := topS 33
abbrev N_w_greatest : List Str := ["_law_crowds", "_law_some_here", "_law_one", "_law_far"]
theorem S_w_greatest : FnScope N_w_greatest ["_law_crowds"] (defScope s_w_greatest) := ⟨rfl, rfl, rfl, by decide +kernel, rfl, by decide +kernel, by decide +kernel⟩
abbrev s_w_some : Stmt := topS 35
abbrev N_w_some : List Str := ["_law_feed_here", "_law_tags_here", "_law_thick", "_law_tag"]
theorem S_w_some : FnScope N_w_some ["_law_feed_here", "_law_tags_here", "_law_thick"] (defScope s_w_some) := ⟨rfl, rfl, rfl, by decide +kernel, rfl, by decide +kernel, by decide +kernel⟩
abbrev s_is_family_of : Stmt := topS 3
abbrev N_is_family_of : List Str := ["houses", "thing", "lot"]
theorem S_is_family_of : FnScope N_is_family_of ["houses", "thing"] (defScope s_is_family_of) := ⟨rfl, rfl, rfl, by decide +kernel, rfl, by decide +kernel, by decide +kernel⟩
abbrev s_are_houses : Stmt := topS 16
abbrev N_are_houses : List Str := ["thing"]
theorem S_are_houses : FnScope N_are_houses ["thing"] (defScope s_are_houses) := ⟨rfl, rfl, rfl, by decide +kernel, rfl, by decide +kernel, by decide +kernel⟩
abbrev s_w_tags : Stmt := topS 34
abbrev N_w_tags : List Str := ["_law_feed_here", "_law_pools", "_law_late", "_law_some_here", "_law_turn"]
theorem S_w_tags : FnScope N_w_tags ["_law_feed_here"] (defScope s_w_tags) := ⟨rfl, rfl, rfl, by decide +kernel, rfl, by decide +kernel, by decide +kernel⟩
abbrev s_w_asked : Stmt := topS 41
abbrev N_w_asked : List Str := ["_law_feed_here", "_law_web_here", "_law_tag", "_law_lap", "_law_crowds", "_law_late", "_law_some_here", "_law_found", "_law_crowd"]
theorem S_w_asked : FnScope N_w_asked ["_law_feed_here", "_law_web_here"] (defScope s_w_asked) := ⟨rfl, rfl, rfl, by decide +kernel, rfl, by decide +kernel, by decide +kernel⟩
abbrev s_is_net : Stmt := topS 18
abbrev N_is_net : List Str := ["thing", "houses", "fears", "family"]
theorem S_is_net : FnScope N_is_net ["thing"] (defScope s_is_net) := ⟨rfl, rfl, rfl, by decide +kernel, rfl, by decide +kernel, by decide +kernel⟩
abbrev s_w_web : Stmt := topS 36
abbrev N_w_web : List Str := ["_law_feed_here", "_law_far", "_law_tag", "_law_tags_here", "_law_crowds", "_law_some_here", "_law_lap"]
theorem S_w_web : FnScope N_w_web ["_law_feed_here", "_law_far"] (defScope s_w_web) := ⟨rfl, rfl, rfl, by decide +kernel, rfl, by decide +kernel, by decide +kernel⟩
abbrev s_lots_of : Stmt := topS 23
abbrev N_lots_of : List Str := ["net", "house"]
theorem S_lots_of : FnScope N_lots_of ["net", "house"] (defScope s_lots_of) := ⟨rfl, rfl, rfl, by decide +kernel, rfl, by decide +kernel, by decide +kernel⟩
abbrev s_reckons : Stmt := topS 24
abbrev N_reckons : List Str := ["net", "house", "lot"]
theorem S_reckons : FnScope N_reckons ["net", "house", "lot"] (defScope s_reckons) := ⟨rfl, rfl, rfl, by decide +kernel, rfl, by decide +kernel, by decide +kernel⟩
abbrev s_feared_by : Stmt := topS 25
abbrev N_feared_by : List Str := ["net", "lot", "house"]
theorem S_feared_by : FnScope N_feared_by ["net", "lot"] (defScope s_feared_by) := ⟨rfl, rfl, rfl, by decide +kernel, rfl, by decide +kernel, by decide +kernel⟩
abbrev s_rest_of : Stmt := topS 26
abbrev N_rest_of : List Str := ["net", "lot"]
theorem S_rest_of : FnScope N_rest_of ["net", "lot"] (defScope s_rest_of) := ⟨rfl, rfl, rfl, by decide +kernel, rfl, by decide +kernel, by decide +kernel⟩
abbrev s_w_is_right : Stmt := topS 40
abbrev N_w_is_right : List Str := ["_law_web_here", "_law_crowd", "_law_fears", "_law_tag", "_law_rest", "_law_told_of", "_law_is_so", "_law_some_here"]
theorem S_w_is_right : FnScope N_w_is_right ["_law_web_here", "_law_crowd"] (defScope s_w_is_right) := ⟨rfl, rfl, rfl, by decide +kernel, rfl, by decide +kernel, by decide +kernel⟩
abbrev s_law : Stmt := topS 42
abbrev N_law : List Str := ["_law_script", "_law_feed_here", "_law_that", "_law_web_here", "_law_tag", "_law_crowd", "_law_was", "_law_some_here", "_law_crowds", "_law_lap"]
theorem S_law : FnScope N_law ["_law_script"] (defScope s_law) := ⟨rfl, rfl, rfl, by decide +kernel, rfl, by decide +kernel, by decide +kernel⟩
structure TopD where
  a_ascend : Addr
  d_ascend : FuncData
  a_includes : Addr
  d_includes : FuncData
  a_without : Addr
  d_without : FuncData
  a_need : Addr
  d_need : FuncData
  a_is_name : Addr
  d_is_name : FuncData
  a_is_tuple_of : Addr
  d_is_tuple_of : FuncData
  a_family_of : Addr
  d_family_of : FuncData
  a_w_feed : Addr
  d_w_feed : FuncData
  a_w_draw : Addr
  d_w_draw : FuncData
  a_w_same : Addr
  d_w_same : FuncData
  a_w_lies : Addr
  d_w_lies : FuncData
  a_w_hand : Addr
  d_w_hand : FuncData
  a_w_crowds_of : Addr
  d_w_crowds_of : FuncData
  a_w_wide : Addr
  d_w_wide : FuncData
  a_is_lot_of : Addr
  d_is_lot_of : FuncData
  a_greatest : Addr
  d_greatest : FuncData
  a_is_name_set : Addr
  d_is_name_set : FuncData
  a_within_one : Addr
  d_within_one : FuncData
  a_w_pick : Addr
  d_w_pick : FuncData
  a_w_greatest : Addr
  d_w_greatest : FuncData
  a_w_some : Addr
  d_w_some : FuncData
  a_is_family_of : Addr
  d_is_family_of : FuncData
  a_are_houses : Addr
  d_are_houses : FuncData
  a_w_tags : Addr
  d_w_tags : FuncData
  a_w_asked : Addr
  d_w_asked : FuncData
  a_is_net : Addr
  d_is_net : FuncData
  a_w_web : Addr
  d_w_web : FuncData
  a_lots_of : Addr
  d_lots_of : FuncData
  a_reckons : Addr
  d_reckons : FuncData
  a_feared_by : Addr
  d_feared_by : FuncData
  a_rest_of : Addr
  d_rest_of : FuncData
  a_w_is_right : Addr
  d_w_is_right : FuncData
  a_law : Addr
  d_law : FuncData
structure Top (K : PySem.W.Frag) (mg : Str → Option Value) (t : TopD) : Prop where
  F_ascend : Fun K "ascend" "ascend" s_ascend t.a_ascend t.d_ascend
  g_ascend : mg "ascend" = some (.ref t.a_ascend)
  F_includes : Fun K "includes" "includes" s_includes t.a_includes t.d_includes
  g_includes : mg "includes" = some (.ref t.a_includes)
  F_without : Fun K "without" "without" s_without t.a_without t.d_without
  g_without : mg "without" = some (.ref t.a_without)
  F_need : Fun K "need" "need" s_need t.a_need t.d_need
  g_need : mg "need" = some (.ref t.a_need)
  F_is_name : Fun K "is_name" "is_name" s_is_name t.a_is_name t.d_is_name
  g_is_name : mg "is_name" = some (.ref t.a_is_name)
  F_is_tuple_of : Fun K "is_tuple_of" "is_tuple_of" s_is_tuple_of t.a_is_tuple_of t.d_is_tuple_of
  g_is_tuple_of : mg "is_tuple_of" = some (.ref t.a_is_tuple_of)
  F_family_of : Fun K "family_of" "family_of" s_family_of t.a_family_of t.d_family_of
  g_family_of : mg "family_of" = some (.ref t.a_family_of)
  F_w_feed : Fun K "_law_feed" "_law_feed" s_w_feed t.a_w_feed t.d_w_feed
  g_w_feed : mg "_law_feed" = some (.ref t.a_w_feed)
  F_w_draw : Fun K "_law_draw" "_law_draw" s_w_draw t.a_w_draw t.d_w_draw
  g_w_draw : mg "_law_draw" = some (.ref t.a_w_draw)
  F_w_same : Fun K "_law_same" "_law_same" s_w_same t.a_w_same t.d_w_same
  g_w_same : mg "_law_same" = some (.ref t.a_w_same)
  F_w_lies : Fun K "_law_lies" "_law_lies" s_w_lies t.a_w_lies t.d_w_lies
  g_w_lies : mg "_law_lies" = some (.ref t.a_w_lies)
  F_w_hand : Fun K "_law_hand" "_law_hand" s_w_hand t.a_w_hand t.d_w_hand
  g_w_hand : mg "_law_hand" = some (.ref t.a_w_hand)
  F_w_crowds_of : Fun K "_law_crowds_of" "_law_crowds_of" s_w_crowds_of t.a_w_crowds_of t.d_w_crowds_of
  g_w_crowds_of : mg "_law_crowds_of" = some (.ref t.a_w_crowds_of)
  F_w_wide : Fun K "_law_wide" "_law_wide" s_w_wide t.a_w_wide t.d_w_wide
  g_w_wide : mg "_law_wide" = some (.ref t.a_w_wide)
  F_is_lot_of : Fun K "is_lot_of" "is_lot_of" s_is_lot_of t.a_is_lot_of t.d_is_lot_of
  g_is_lot_of : mg "is_lot_of" = some (.ref t.a_is_lot_of)
  F_greatest : Fun K "greatest" "greatest" s_greatest t.a_greatest t.d_greatest
  g_greatest : mg "greatest" = some (.ref t.a_greatest)
  F_is_name_set : Fun K "is_name_set" "is_name_set" s_is_name_set t.a_is_name_set t.d_is_name_set
  g_is_name_set : mg "is_name_set" = some (.ref t.a_is_name_set)
  F_within_one : Fun K "within_one" "within_one" s_within_one t.a_within_one t.d_within_one
  g_within_one : mg "within_one" = some (.ref t.a_within_one)
  F_w_pick : Fun K "_law_pick" "_law_pick" s_w_pick t.a_w_pick t.d_w_pick
  g_w_pick : mg "_law_pick" = some (.ref t.a_w_pick)
  F_w_greatest : Fun K "_law_greatest" "_law_greatest" s_w_greatest t.a_w_greatest t.d_w_greatest
  g_w_greatest : mg "_law_greatest" = some (.ref t.a_w_greatest)
  F_w_some : Fun K "_law_some" "_law_some" s_w_some t.a_w_some t.d_w_some
  g_w_some : mg "_law_some" = some (.ref t.a_w_some)
  F_is_family_of : Fun K "is_family_of" "is_family_of" s_is_family_of t.a_is_family_of t.d_is_family_of
  g_is_family_of : mg "is_family_of" = some (.ref t.a_is_family_of)
  F_are_houses : Fun K "are_houses" "are_houses" s_are_houses t.a_are_houses t.d_are_houses
  g_are_houses : mg "are_houses" = some (.ref t.a_are_houses)
  F_w_tags : Fun K "_law_tags" "_law_tags" s_w_tags t.a_w_tags t.d_w_tags
  g_w_tags : mg "_law_tags" = some (.ref t.a_w_tags)
  F_w_asked : Fun K "_law_asked" "_law_asked" s_w_asked t.a_w_asked t.d_w_asked
  g_w_asked : mg "_law_asked" = some (.ref t.a_w_asked)
  F_is_net : Fun K "is_net" "is_net" s_is_net t.a_is_net t.d_is_net
  g_is_net : mg "is_net" = some (.ref t.a_is_net)
  F_w_web : Fun K "_law_web" "_law_web" s_w_web t.a_w_web t.d_w_web
  g_w_web : mg "_law_web" = some (.ref t.a_w_web)
  F_lots_of : Fun K "lots_of" "lots_of" s_lots_of t.a_lots_of t.d_lots_of
  g_lots_of : mg "lots_of" = some (.ref t.a_lots_of)
  F_reckons : Fun K "reckons" "reckons" s_reckons t.a_reckons t.d_reckons
  g_reckons : mg "reckons" = some (.ref t.a_reckons)
  F_feared_by : Fun K "feared_by" "feared_by" s_feared_by t.a_feared_by t.d_feared_by
  g_feared_by : mg "feared_by" = some (.ref t.a_feared_by)
  F_rest_of : Fun K "rest_of" "rest_of" s_rest_of t.a_rest_of t.d_rest_of
  g_rest_of : mg "rest_of" = some (.ref t.a_rest_of)
  F_w_is_right : Fun K "_law_is_right" "_law_is_right" s_w_is_right t.a_w_is_right t.d_w_is_right
  g_w_is_right : mg "_law_is_right" = some (.ref t.a_w_is_right)
  F_law : Fun K "law" "law" s_law t.a_law t.d_law
  g_law : mg "law" = some (.ref t.a_law)
  z_all : mg "all" = none
  z_any : mg "any" = none
  z_int : mg "int" = none
  z_isinstance : mg "isinstance" = none
  z_len : mg "len" = none
  z_list : mg "list" = none
  z_min : mg "min" = none
  z_range : mg "range" = none
  z_repr : mg "repr" = none
  z_set : mg "set" = none
  z_sorted : mg "sorted" = none
  z_str : mg "str" = none
  z_tuple : mg "tuple" = none
  z_zip : mg "zip" = none
section
variable {P : Program} {w : World} {K : PySem.W.Frag} {mg : Str → Option Value} {base : Heap} {t : TopD}
theorem bn_ascend (T : Top K mg t) : Binds K t.d_ascend ["things"] [] := T.F_ascend.binds (ps := ["things"]) fun _ _ _ _ _ _ us hl => match us, hl with | [_], _ => rfl
theorem bn_includes (T : Top K mg t) : Binds K t.d_includes ["lot", "part"] [] := T.F_includes.binds (ps := ["lot", "part"]) fun _ _ _ _ _ _ us hl => match us, hl with | [_, _], _ => rfl
theorem bn_without (T : Top K mg t) : Binds K t.d_without ["lot", "part"] [] := T.F_without.binds (ps := ["lot", "part"]) fun _ _ _ _ _ _ us hl => match us, hl with | [_, _], _ => rfl
theorem bn_need (T : Top K mg t) : Binds K t.d_need ["usable", "word"] [] := T.F_need.binds (ps := ["usable", "word"]) fun _ _ _ _ _ _ us hl => match us, hl with | [_, _], _ => rfl
theorem bn_is_name (T : Top K mg t) : Binds K t.d_is_name ["thing"] [] := T.F_is_name.binds (ps := ["thing"]) fun _ _ _ _ _ _ us hl => match us, hl with | [_], _ => rfl
theorem bn_is_tuple_of (T : Top K mg t) : Binds K t.d_is_tuple_of ["thing", "size"] [] := T.F_is_tuple_of.binds (ps := ["thing", "size"]) fun _ _ _ _ _ _ us hl => match us, hl with | [_, _], _ => rfl
theorem bn_family_of (T : Top K mg t) : Binds K t.d_family_of ["net", "house"] [] := T.F_family_of.binds (ps := ["net", "house"]) fun _ _ _ _ _ _ us hl => match us, hl with | [_, _], _ => rfl
theorem bn_w_feed (T : Top K mg t) : Binds K t.d_w_feed ["_law_script"] [] := T.F_w_feed.binds (ps := ["_law_script"]) fun _ _ _ _ _ _ us hl => match us, hl with | [_], _ => rfl
theorem bn_w_draw (T : Top K mg t) : Binds K t.d_w_draw ["_law_feed_here", "_law_many"] [] := T.F_w_draw.binds (ps := ["_law_feed_here", "_law_many"]) fun _ _ _ _ _ _ us hl => match us, hl with | [_, _], _ => rfl
theorem bn_w_same (T : Top K mg t) : Binds K t.d_w_same ["_law_heard", "_law_due"] [] := T.F_w_same.binds (ps := ["_law_heard", "_law_due"]) fun _ _ _ _ _ _ us hl => match us, hl with | [_, _], _ => rfl
theorem bn_w_lies (T : Top K mg t) : Binds K t.d_w_lies ["_law_less", "_law_more"] [] := T.F_w_lies.binds (ps := ["_law_less", "_law_more"]) fun _ _ _ _ _ _ us hl => match us, hl with | [_, _], _ => rfl
theorem bn_w_hand (T : Top K mg t) : Binds K t.d_w_hand [] [] := T.F_w_hand.binds (ps := []) fun _ _ _ _ _ _ us hl => match us, hl with | [], _ => rfl
theorem bn_w_crowds_of (T : Top K mg t) : Binds K t.d_w_crowds_of ["_law_web_here", "_law_tag"] [] := T.F_w_crowds_of.binds (ps := ["_law_web_here", "_law_tag"]) fun _ _ _ _ _ _ us hl => match us, hl with | [_, _], _ => rfl
theorem bn_w_wide (T : Top K mg t) : Binds K t.d_w_wide [] [] := T.F_w_wide.binds (ps := []) fun _ _ _ _ _ _ us hl => match us, hl with | [], _ => rfl
theorem bn_is_lot_of (T : Top K mg t) : Binds K t.d_is_lot_of ["houses", "thing"] [] := T.F_is_lot_of.binds (ps := ["houses", "thing"]) fun _ _ _ _ _ _ us hl => match us, hl with | [_, _], _ => rfl
theorem bn_greatest (T : Top K mg t) : Binds K t.d_greatest ["lots"] [] := T.F_greatest.binds (ps := ["lots"]) fun _ _ _ _ _ _ us hl => match us, hl with | [_], _ => rfl
theorem bn_is_name_set (T : Top K mg t) : Binds K t.d_is_name_set ["thing"] [] := T.F_is_name_set.binds (ps := ["thing"]) fun _ _ _ _ _ _ us hl => match us, hl with | [_], _ => rfl
theorem bn_within_one (T : Top K mg t) : Binds K t.d_within_one ["family", "lot"] [] := T.F_within_one.binds (ps := ["family", "lot"]) fun _ _ _ _ _ _ us hl => match us, hl with | [_, _], _ => rfl
theorem bn_w_pick (T : Top K mg t) : Binds K t.d_w_pick ["_law_feed_here", "_law_some_here"] [] := T.F_w_pick.binds (ps := ["_law_feed_here", "_law_some_here"]) fun _ _ _ _ _ _ us hl => match us, hl with | [_, _], _ => rfl
theorem bn_w_greatest (T : Top K mg t) : Binds K t.d_w_greatest ["_law_crowds"] [] := T.F_w_greatest.binds (ps := ["_law_crowds"]) fun _ _ _ _ _ _ us hl => match us, hl with | [_], _ => rfl
theorem bn_w_some (T : Top K mg t) : Binds K t.d_w_some ["_law_feed_here", "_law_tags_here", "_law_thick"] [] := T.F_w_some.binds (ps := ["_law_feed_here", "_law_tags_here", "_law_thick"]) fun _ _ _ _ _ _ us hl => match us, hl with | [_, _, _], _ => rfl
theorem bn_is_family_of (T : Top K mg t) : Binds K t.d_is_family_of ["houses", "thing"] [] := T.F_is_family_of.binds (ps := ["houses", "thing"]) fun _ _ _ _ _ _ us hl => match us, hl with | [_, _], _ => rfl
theorem bn_are_houses (T : Top K mg t) : Binds K t.d_are_houses ["thing"] [] := T.F_are_houses.binds (ps := ["thing"]) fun _ _ _ _ _ _ us hl => match us, hl with | [_], _ => rfl
theorem bn_w_tags (T : Top K mg t) : Binds K t.d_w_tags ["_law_feed_here"] [] := T.F_w_tags.binds (ps := ["_law_feed_here"]) fun _ _ _ _ _ _ us hl => match us, hl with | [_], _ => rfl
theorem bn_w_asked (T : Top K mg t) : Binds K t.d_w_asked ["_law_feed_here", "_law_web_here"] [] := T.F_w_asked.binds (ps := ["_law_feed_here", "_law_web_here"]) fun _ _ _ _ _ _ us hl => match us, hl with | [_, _], _ => rfl
theorem bn_is_net (T : Top K mg t) : Binds K t.d_is_net ["thing"] [] := T.F_is_net.binds (ps := ["thing"]) fun _ _ _ _ _ _ us hl => match us, hl with | [_], _ => rfl
theorem bn_w_web (T : Top K mg t) : Binds K t.d_w_web ["_law_feed_here", "_law_far"] [] := T.F_w_web.binds (ps := ["_law_feed_here", "_law_far"]) fun _ _ _ _ _ _ us hl => match us, hl with | [_, _], _ => rfl
theorem bn_lots_of (T : Top K mg t) : Binds K t.d_lots_of ["net", "house"] [] := T.F_lots_of.binds (ps := ["net", "house"]) fun _ _ _ _ _ _ us hl => match us, hl with | [_, _], _ => rfl
theorem bn_reckons (T : Top K mg t) : Binds K t.d_reckons ["net", "house", "lot"] [] := T.F_reckons.binds (ps := ["net", "house", "lot"]) fun _ _ _ _ _ _ us hl => match us, hl with | [_, _, _], _ => rfl
theorem bn_feared_by (T : Top K mg t) : Binds K t.d_feared_by ["net", "lot"] [] := T.F_feared_by.binds (ps := ["net", "lot"]) fun _ _ _ _ _ _ us hl => match us, hl with | [_, _], _ => rfl
theorem bn_rest_of (T : Top K mg t) : Binds K t.d_rest_of ["net", "lot"] [] := T.F_rest_of.binds (ps := ["net", "lot"]) fun _ _ _ _ _ _ us hl => match us, hl with | [_, _], _ => rfl
theorem bn_w_is_right (T : Top K mg t) : Binds K t.d_w_is_right ["_law_web_here", "_law_crowd"] [] := T.F_w_is_right.binds (ps := ["_law_web_here", "_law_crowd"]) fun _ _ _ _ _ _ us hl => match us, hl with | [_, _], _ => rfl
theorem bn_law (T : Top K mg t) : Binds K t.d_law ["_law_script"] [] := T.F_law.binds (ps := ["_law_script"]) fun _ _ _ _ _ _ us hl => match us, hl with | [_], _ => rfl
theorem nb_feared_by_lot_net (T : Top K mg t) : NBinds t.d_feared_by ["net", "lot"] ["lot", "net"] [1, 0] := T.F_feared_by.nb fun _ _ _ _ _ _ ws hl => match ws, hl with | [_, _], _ => rfl
theorem nb_lots_of_house_net (T : Top K mg t) : NBinds t.d_lots_of ["net", "house"] ["house", "net"] [1, 0] := T.F_lots_of.nb fun _ _ _ _ _ _ ws hl => match ws, hl with | [_, _], _ => rfl
theorem nb_reckons_lot_house_net (T : Top K mg t) : NBinds t.d_reckons ["net", "house", "lot"] ["lot", "house", "net"] [2, 1, 0] := T.F_reckons.nb fun _ _ _ _ _ _ ws hl => match ws, hl with | [_, _, _], _ => rfl
theorem nb_rest_of_lot_net (T : Top K mg t) : NBinds t.d_rest_of ["net", "lot"] ["lot", "net"] [1, 0] := T.F_rest_of.nb fun _ _ _ _ _ _ ws hl => match ws, hl with | [_, _], _ => rfl
end
-- DRAW
def b_ascend : MS := (retM [] (callM allG (consA (lcM [2, 1] (zipI (vD 0) (slM (vD 0) (soM (cD (.int 1))) noM)) (setP 1 2) yesT (op2 ltG (vD 1) (vD 2))) nilA)))
def m_ascend : MF := fnM 3 b_ascend
theorem ok_ascend {P : Program} {w : World} {K : PySem.W.Frag} {mg : Str → Option Value} {base : Heap} {t : TopD} (T : Top K mg t) : FnG P w K mg base CX0 1 t.a_ascend t.d_ascend ["things"] (spF K "next" "left" "drawn" 1 m_ascend) :=
  fn_D T.F_ascend S_ascend rfl fun fa ca cdv A outer s H E hg hr =>
    show DSs _ ⟨fa, ca, "next", "left", "drawn"⟩ _ b_ascend from
      (dss_one (ds_ret [] (de_callB (cg_all rfl) rfl (T.z_all) bt_all (da_cons (de_lc (own := [("after", 2), ("one", 1)]) rfl S_ascend.nd (di_zip rfl (T.z_zip) (de_var (pv 0)) (de_sl (de_var (pv 0)) (do_some de_int) do_none) rfl rfl) (blkOk_by (N := N_ascend) (sc := defScope s_ascend) (by decide +kernel)) (by decide) (hg_pair fun _ _ _ _ _ => pg_tup rfl (pgs_cons (pg_name (i := 1) S_ascend.nd rfl (by first | exact .inl rfl | exact .inr rfl)) (pgs_cons (pg_name (i := 2) S_ascend.nd rfl (by first | exact .inl rfl | exact .inr rfl)) pgs_nil))) (fun _ _ _ _ _ => dts_nil) (fun _ _ _ _ _ => (de_cmp og_lt (de_var (pv 1)) (de_var (pv 2)) rfl)) (fun _ => rfl)) da_nil))))
def b_includes : MS := (seqM (forM [] (seqI (vD 1)) (setNS 2) (ifS [] (tst (op2 (inG true) (vD 2) (vD 0))) (retM [] (cD (.bool false))) nxM))
  (retM [] (cD (.bool true))))
def m_includes : MF := fnM 3 b_includes
theorem ok_includes {P : Program} {w : World} {K : PySem.W.Frag} {mg : Str → Option Value} {base : Heap} {t : TopD} (T : Top K mg t) : FnG P w K mg base CX0 1 t.a_includes t.d_includes ["lot", "part"] (spF K "next" "left" "drawn" 2 m_includes) :=
  fn_D T.F_includes S_includes rfl fun fa ca cdv A outer s H E hg hr =>
    show DSs _ ⟨fa, ca, "next", "left", "drawn"⟩ _ b_includes from
      (dss_cons (ds_for [] PassesOwn.never rfl (di_seq (de_var (pv 1))) (dgs_name (pg_name (i := 2) S_includes.nd rfl (by first | exact .inl rfl | exact .inr rfl))) (dss_one (ds_if [] (dt_cmp (og_notIn (r65 hr)) (de_var (pv 2)) (de_var (pv 0)) rfl) (dss_one (ds_ret [] de_bl)) dss_nil)) (fun _ => rfl))
      (dss_one (ds_ret [] de_bl)))
def b_without : MS := (retM [] (callM tupleG (consA (lcM [2] (seqI (vD 0)) (setN 2) (tst (op2 (inG true) (vD 2) (vD 1))) (vD 2)) nilA)))
def m_without : MF := fnM 3 b_without
theorem ok_without {P : Program} {w : World} {K : PySem.W.Frag} {mg : Str → Option Value} {base : Heap} {t : TopD} (T : Top K mg t) : FnG P w K mg base CX0 1 t.a_without t.d_without ["lot", "part"] (spF K "next" "left" "drawn" 2 m_without) :=
  fn_D T.F_without S_without rfl fun fa ca cdv A outer s H E hg hr =>
    show DSs _ ⟨fa, ca, "next", "left", "drawn"⟩ _ b_without from
      (dss_one (ds_ret [] (de_callT cg_tuple rfl (T.z_tuple) bt_tuple (da_cons (de_lc (own := [("name", 2)]) rfl S_without.nd (di_seq (de_var (pv 0))) (blkOk_by (N := N_without) (sc := defScope s_without) (by decide +kernel)) (by decide) (hg_name fun _ _ _ _ _ => pg_name (i := 2) S_without.nd rfl (by first | exact .inl rfl | exact .inr rfl)) (fun _ _ _ _ _ => (dts_one (dt_cmp (og_notIn (r65 hr)) (de_var (pv 2)) (de_var (pv 1)) rfl))) (fun _ _ _ _ _ => (de_var (pv 2))) (fun _ => rfl)) da_nil))))
def b_need : MS := (ifS [] (notT (tst (vD 0))) badM nxM)
def m_need : MF := fnM 2 b_need
theorem ok_need {P : Program} {w : World} {K : PySem.W.Frag} {mg : Str → Option Value} {base : Heap} {t : TopD} (T : Top K mg t) : FnG P w K mg base CX0 1 t.a_need t.d_need ["usable", "word"] (spF K "next" "left" "drawn" 2 m_need) :=
  fn_D T.F_need S_need rfl fun fa ca cdv A outer s H E hg hr =>
    show DSs _ ⟨fa, ca, "next", "left", "drawn"⟩ _ b_need from
      (dss_one (ds_if [] (dt_not (dt_val (de_var (pv 0)) (fun _ => rfl))) (dss_one ds_bad) dss_nil))
def b_is_name : MS := (seqM (ifS [] (orT (notT (tst (isiM "str" (vD 0)))) (notT (tst (chn leG leG (cD (.int 1)) (callM lenG (consA (vD 0) nilA)) (cD (.int 8)))))) (retM [] (cD (.bool false))) nxM)
  (retM [] (callM allG (consA (lcM [1] (seqI (vD 0)) (setN 1) yesT (chn leG leG (cD (.str "a")) (vD 1) (cD (.str "z")))) nilA))))
def m_is_name : MF := fnM 2 b_is_name
theorem ok_is_name {P : Program} {w : World} {K : PySem.W.Frag} {mg : Str → Option Value} {base : Heap} {t : TopD} (T : Top K mg t) : FnG P w K mg base CX0 1 t.a_is_name t.d_is_name ["thing"] (spF K "next" "left" "drawn" 1 m_is_name) :=
  fn_D T.F_is_name S_is_name rfl fun fa ca cdv A outer s H E hg hr =>
    show DSs _ ⟨fa, ca, "next", "left", "drawn"⟩ _ b_is_name from
      (dss_cons (ds_if [] (dt_w (dw_or (dt_not (dt_val (de_isi (T := "str") (by unfold tyOk; simp) (de_var (pv 0)) (pe_bltn rfl (T.z_str) bt_str rfl) rfl (T.z_isinstance)) (fun _ => rfl))) (dw_or1 (dt_not (dt_chain og_le og_le de_int (de_callB cg_len rfl (T.z_len) bt_len (da_cons (de_var (pv 0)) da_nil)) de_int (by with_unfolding_all rfl)))))) (dss_one (ds_ret [] de_bl)) dss_nil)
      (dss_one (ds_ret [] (de_callB (cg_all rfl) rfl (T.z_all) bt_all (da_cons (de_lc (own := [("letter", 1)]) rfl S_is_name.nd (di_seq (de_var (pv 0))) (blkOk_by (N := N_is_name) (sc := defScope s_is_name) (by decide +kernel)) (by decide) (hg_name fun _ _ _ _ _ => pg_name (i := 1) S_is_name.nd rfl (by first | exact .inl rfl | exact .inr rfl)) (fun _ _ _ _ _ => dts_nil) (fun _ _ _ _ _ => (de_chain og_le og_le de_str (de_var (pv 1)) de_str (by with_unfolding_all rfl))) (fun _ => rfl)) da_nil)))))
def b_is_tuple_of : MS := (retM [] (andM (isiM "tuple" (vD 0)) (op2 eqG (callM lenG (consA (vD 0) nilA)) (vD 1))))
def m_is_tuple_of : MF := fnM 2 b_is_tuple_of
theorem ok_is_tuple_of {P : Program} {w : World} {K : PySem.W.Frag} {mg : Str → Option Value} {base : Heap} {t : TopD} (T : Top K mg t) : FnG P w K mg base CX0 1 t.a_is_tuple_of t.d_is_tuple_of ["thing", "size"] (spF K "next" "left" "drawn" 2 m_is_tuple_of) :=
  fn_D T.F_is_tuple_of S_is_tuple_of rfl fun fa ca cdv A outer s H E hg hr =>
    show DSs _ ⟨fa, ca, "next", "left", "drawn"⟩ _ b_is_tuple_of from
      (dss_one (ds_ret [] (de_and (de_isi (T := "tuple") (by unfold tyOk; simp) (de_var (pv 0)) (pe_bltn rfl (T.z_tuple) bt_tuple rfl) rfl (T.z_isinstance)) (de_one (de_cmp (og_eq (r64 hr)) (de_callB cg_len rfl (T.z_len) bt_len (da_cons (de_var (pv 0)) da_nil)) (de_var (pv 1)) rfl)))))
def b_family_of : MS := (seqM (unpM [] [2, 3] (vD 0))
  (retM [] (op2 ixG (vD 3) (op2 idxG (vD 2) (vD 1)))))
def m_family_of : MF := fnM 4 b_family_of
theorem ok_family_of {P : Program} {w : World} {K : PySem.W.Frag} {mg : Str → Option Value} {base : Heap} {t : TopD} (T : Top K mg t) : FnG P w K mg base CX0 1 t.a_family_of t.d_family_of ["net", "house"] (spF K "next" "left" "drawn" 2 m_family_of) :=
  fn_D T.F_family_of S_family_of rfl fun fa ca cdv A outer s H E hg hr =>
    show DSs _ ⟨fa, ca, "next", "left", "drawn"⟩ _ b_family_of from
      (dss_cons (ds_unp (is := [2, 3]) [] (de_var (pv 0)) (pg_tup rfl (pgs_cons (pg_name (i := 2) S_family_of.nd rfl (by first | exact .inl rfl | exact .inr rfl)) (pgs_cons (pg_name (i := 3) S_family_of.nd rfl (by first | exact .inl rfl | exact .inr rfl)) pgs_nil))) rfl rfl rfl)
      (dss_one (ds_ret [] (de_ix (de_var (pv 3)) (de_tupIndex (de_var (pv 2)) (de_var (pv 1))) (fun _ _ => rfl)))))
def b_w_draw : MS := (seqM (fpM 0 (op2 addG (fgI 0 FS.dr) (cD (.int 1))) (fun f n => { f with dr := n }))
  (seqM (ifS [] (tst (op2 gtG (fgI 0 FS.left) (cD (.int 0)))) (seqM (asgD [] 4 (op2 modG (callM intG (consA (fgI 0 FS.left) nilA)) (vD 1)))
  (seqM (fpM 0 (op2 fdG (fgI 0 FS.left) (vD 1)) (fun f n => { f with left := n }))
  (retV 4))) nxM)
  (seqM (parM [] [5, 6] (consD (fgI 0 FS.nx) (consD (fgC 0) nilE)))
  (seqM (fpM 0 (op2 addG (vD 5) (cD (.int 1))) (fun f n => { f with nx := n }))
  (seqM (asgD [] 2 (ifM (tst (op2 neG (vD 6) (lstM nilA))) (op2 ixG (vD 6) (op2 modG (callM intG (consA (vD 5) nilA)) (callM lenG (consA (vD 6) nilA)))) (cD (.int 418240))))
  (seqM (ifS [] (andT (tst (op2 geG (vD 2) (op2 powG (cD (.int 10)) (cD (.int 18))))) (tst (op2 ltG (vD 5) (callM lenG (consA (vD 6) nilA))))) (seqM (fpM 0 (op2 fdG (vD 2) (vD 1)) (fun f n => { f with left := n }))
  (retM [] (op2 modG (callM intG (consA (vD 2) nilA)) (vD 1)))) nxM)
  (seqM (asgD [] 3 (op2 modG (callM intG (consA (op2 addG (op2 addG (op2 mulG (op2 modG (callM intG (consA (vD 2) nilA)) (cD (.int 1000000093))) (cD (.int 7))) (op2 mulG (cD (.int 87361)) (fgI 0 FS.dr))) (cD (.int 910))) nilA)) (cD (.int 2147483647))))
  (seqM (asgD [] 3 (op2 modG (callM intG (consA (op2 addG (op2 addG (op2 mulG (vD 3) (vD 3)) (op2 mulG (cD (.int 90791)) (fgI 0 FS.dr))) (cD (.int 962))) nilA)) (cD (.int 2147483477))))
  (retM [] (op2 modG (callM intG (consA (op2 fdG (op2 modG (callM intG (consA (op2 addG (op2 mulG (vD 3) (vD 3)) (op2 mulG (cD (.int 745)) (vD 3))) nilA)) (cD (.int 2147482951))) (cD (.int 32))) nilA)) (vD 1)))))))))))
def m_w_draw : MF := fnM 7 b_w_draw
theorem ok_w_draw {P : Program} {w : World} {K : PySem.W.Frag} {mg : Str → Option Value} {base : Heap} {t : TopD} (T : Top K mg t) : FnG P w K mg base CX0 1 t.a_w_draw t.d_w_draw ["_law_feed_here", "_law_many"] (spF K "next" "left" "drawn" 2 m_w_draw) :=
  fn_D T.F_w_draw S_w_draw rfl fun fa ca cdv A outer s H E hg hr =>
    show DSs _ ⟨fa, ca, "next", "left", "drawn"⟩ _ b_w_draw from
      (dss_cons (ds_fput (put := (fun f n => { f with dr := n })) (pv 0) (de_op og_add (de_fgI (get := FS.dr) (pv 0) (hu_of hr) (fun _ _ => rfl) (fun _ => rfl)) de_int) (hu_of hr) (fun _ _ => rfl) (fun _ _ => rfl) rfl)
      (dss_cons (ds_if [] (dt_cmp og_gt (de_fgI (get := FS.left) (pv 0) (hu_of hr) (fun _ _ => rfl) (fun _ => rfl)) de_int rfl) (dss_cons (ds_setD (i := 4) [] (de_op og_mod (de_callT cg_int rfl (T.z_int) bt_int (da_cons (de_fgI (get := FS.left) (pv 0) (hu_of hr) (fun _ _ => rfl) (fun _ => rfl)) da_nil)) (de_var (pv 1))) S_w_draw.nd rfl (.inl rfl) rfl (.inr rfl))
      (dss_cons (ds_fput (put := (fun f n => { f with left := n })) (pv 0) (de_op og_fd (de_fgI (get := FS.left) (pv 0) (hu_of hr) (fun _ _ => rfl) (fun _ => rfl)) (de_var (pv 1))) (hu_of hr) (fun _ _ => rfl) (fun _ _ => rfl) rfl)
      (dss_one (ds_retV (pv 4))))) dss_nil)
      (dss_cons (ds_par2 [] rfl S_w_draw.nd rfl rfl (by decide) rfl rfl (dae_consD (de_fgI (get := FS.nx) (pv 0) (hu_of hr) (fun _ _ => rfl) (fun _ => rfl)) (dae_consD (de_fgC (pv 0) (hu_of hr) (fun _ _ => rfl)) dae_nil rfl) rfl) rfl)
      (dss_cons (ds_fput (put := (fun f n => { f with nx := n })) (pv 0) (de_op og_add (de_var (pv 5)) de_int) (hu_of hr) (fun _ _ => rfl) (fun _ _ => rfl) rfl)
      (dss_cons (ds_setD (i := 2) [] (de_if (dt_cmp (og_ne (r64 hr)) (de_var (pv 6)) (de_lst da_nil) rfl) (de_ix (de_var (pv 6)) (de_op og_mod (de_callT cg_int rfl (T.z_int) bt_int (da_cons (de_var (pv 5)) da_nil)) (de_callB cg_len rfl (T.z_len) bt_len (da_cons (de_var (pv 6)) da_nil))) (fun _ _ => rfl)) de_int) S_w_draw.nd rfl (.inl rfl) rfl (.inr rfl))
      (dss_cons (ds_if [] (dt_w (dw_and (dt_cmp og_ge (de_var (pv 2)) (de_op og_pow de_int de_int) rfl) (dw_and1 (dt_cmp og_lt (de_var (pv 5)) (de_callB cg_len rfl (T.z_len) bt_len (da_cons (de_var (pv 6)) da_nil)) rfl)))) (dss_cons (ds_fput (put := (fun f n => { f with left := n })) (pv 0) (de_op og_fd (de_var (pv 2)) (de_var (pv 1))) (hu_of hr) (fun _ _ => rfl) (fun _ _ => rfl) rfl)
      (dss_one (ds_ret [] (de_op og_mod (de_callT cg_int rfl (T.z_int) bt_int (da_cons (de_var (pv 2)) da_nil)) (de_var (pv 1)))))) dss_nil)
      (dss_cons (ds_setD (i := 3) [] (de_op og_mod (de_callT cg_int rfl (T.z_int) bt_int (da_cons (de_op og_add (de_op og_add (de_op og_mul (de_op og_mod (de_callT cg_int rfl (T.z_int) bt_int (da_cons (de_var (pv 2)) da_nil)) de_int) de_int) (de_op og_mul de_int (de_fgI (get := FS.dr) (pv 0) (hu_of hr) (fun _ _ => rfl) (fun _ => rfl)))) de_int) da_nil)) de_int) S_w_draw.nd rfl (.inl rfl) rfl (.inr rfl))
      (dss_cons (ds_setD (i := 3) [] (de_op og_mod (de_callT cg_int rfl (T.z_int) bt_int (da_cons (de_op og_add (de_op og_add (de_op og_mul (de_var (pv 3)) (de_var (pv 3))) (de_op og_mul de_int (de_fgI (get := FS.dr) (pv 0) (hu_of hr) (fun _ _ => rfl) (fun _ => rfl)))) de_int) da_nil)) de_int) S_w_draw.nd rfl (.inl rfl) rfl (.inr rfl))
      (dss_one (ds_ret [] (de_op og_mod (de_callT cg_int rfl (T.z_int) bt_int (da_cons (de_op og_fd (de_op og_mod (de_callT cg_int rfl (T.z_int) bt_int (da_cons (de_op og_add (de_op og_mul (de_var (pv 3)) (de_var (pv 3))) (de_op og_mul de_int (de_var (pv 3)))) da_nil)) de_int) de_int) da_nil)) (de_var (pv 1)))))))))))))
def b_w_same : MS := (retM [] (op2 eqG (callM reprG (consA (vD 0) nilA)) (callM reprG (consA (vD 1) nilA))))
def m_w_same : MF := fnM 2 b_w_same
theorem ok_w_same {P : Program} {w : World} {K : PySem.W.Frag} {mg : Str → Option Value} {base : Heap} {t : TopD} (T : Top K mg t) : FnG P w K mg base CX0 1 t.a_w_same t.d_w_same ["_law_heard", "_law_due"] (spF K "next" "left" "drawn" 2 m_w_same) :=
  fn_D T.F_w_same S_w_same rfl fun fa ca cdv A outer s H E hg hr =>
    show DSs _ ⟨fa, ca, "next", "left", "drawn"⟩ _ b_w_same from
      (dss_one (ds_ret [] (de_cmp (og_eq (r64 hr)) (de_callB (cg_repr hg (r66 hr)) rfl (T.z_repr) bt_repr (da_cons (de_var (pv 0)) da_nil)) (de_callB (cg_repr hg (r66 hr)) rfl (T.z_repr) bt_repr (da_cons (de_var (pv 1)) da_nil)) rfl)))
def b_w_lies : MS := (retM [] (op2 eqG (lcM [2] (seqI (vD 0)) (setN 2) (tst (op2 (inG true) (vD 2) (vD 1))) (vD 2)) (lstM nilA)))
def m_w_lies : MF := fnM 3 b_w_lies
theorem ok_w_lies {P : Program} {w : World} {K : PySem.W.Frag} {mg : Str → Option Value} {base : Heap} {t : TopD} (T : Top K mg t) : FnG P w K mg base CX0 1 t.a_w_lies t.d_w_lies ["_law_less", "_law_more"] (spF K "next" "left" "drawn" 2 m_w_lies) :=
  fn_D T.F_w_lies S_w_lies rfl fun fa ca cdv A outer s H E hg hr =>
    show DSs _ ⟨fa, ca, "next", "left", "drawn"⟩ _ b_w_lies from
      (dss_one (ds_ret [] (de_cmp (og_eq (r64 hr)) (de_lc (own := [("_law_tag", 2)]) rfl S_w_lies.nd (di_seq (de_var (pv 0))) (blkOk_by (N := N_w_lies) (sc := defScope s_w_lies) (by decide +kernel)) (by decide) (hg_name fun _ _ _ _ _ => pg_name (i := 2) S_w_lies.nd rfl (by first | exact .inl rfl | exact .inr rfl)) (fun _ _ _ _ _ => (dts_one (dt_cmp (og_notIn (r65 hr)) (de_var (pv 2)) (de_var (pv 1)) rfl))) (fun _ _ _ _ _ => (de_var (pv 2))) (fun _ => rfl)) (de_lst da_nil) rfl)))
def b_w_hand : MS := (seqM (parM [] [3, 4] (consD (tupM (consA (tupM (consA (cD (.str "a")) nilA)) (consA (tupM (consA (cD (.str "b")) nilA)) (consA (tupM (consA (cD (.str "c")) nilA)) (consA (tupM (consA (cD (.str "d")) nilA)) nilA))))) (consD (tupM (consA (cD (.str "a")) (consA (cD (.str "b")) (consA (cD (.str "c")) (consA (cD (.str "d")) nilA))))) nilE)))
  (seqM (asgM [] 0 (lstM (consA (tupM (consA (vD 4) (consA (tupM (consA (vD 3) (consA (vD 3) (consA (vD 3) (consA (vD 3) nilA))))) nilA))) (consA (tupM (consA (vD 4) (consA (tupM (consA (tupM (consA (tupM (consA (cD (.str "b")) nilA)) (consA (tupM (consA (cD (.str "c")) (consA (cD (.str "d")) nilA))) nilA))) (consA (vD 3) (consA (vD 3) (consA (vD 3) nilA))))) nilA))) nilA))))
  (seqM (appendM [] 0 (tupM (consA (vD 4) (consA (tupM (consA (tupM (consA (tupM (consA (cD (.str "b")) nilA)) (consA (tupM (consA (cD (.str "c")) nilA)) nilA))) (consA (tupM (consA (tupM (consA (cD (.str "a")) (consA (cD (.str "d")) nilA))) nilA)) (consA (tupM (consA (tupM (consA (cD (.str "a")) nilA)) (consA (tupM (consA (cD (.str "b")) nilA)) nilA))) (consA (tupM (consA (tupM (consA (cD (.str "c")) nilA)) nilA)) nilA))))) nilA))))
  (seqM (asgM [0] 0 (op2 addG (vD 0) (lstM (consA (tupM (consA (tupM (consA (cD (.str "a")) nilA)) (consA (tupM (consA (tupM (consA (tupM nilA) nilA)) nilA)) nilA))) (consA (tupM (consA (tupM (consA (cD (.str "a")) nilA)) (consA (tupM (consA (tupM (consA (tupM (consA (cD (.str "a")) nilA)) nilA)) nilA)) nilA))) (consA (tupM (consA (tupM (consA (cD (.str "a")) (consA (cD (.str "b")) nilA))) (consA (tupM (consA (tupM (consA (tupM (consA (cD (.str "a")) (consA (cD (.str "b")) nilA))) nilA)) (consA (tupM (consA (tupM nilA) nilA)) nilA))) nilA))) nilA))))))
  (seqM (asgD [] 1 (cD (.str "abcdefghi")))
  (seqM (asgD [] 2 (callM tupleG (consA (lcM [5] (rng1I (cD (.int 8))) (setN 5) yesT (tupM (consA (op2 ixG (vD 1) (vD 5)) (consA (op2 ixG (vD 1) (op2 addG (vD 5) (cD (.int 1)))) nilA)))) nilA)))
  (retM [0] (op2 addG (vD 0) (lstM (consA (tupM (consA (callM tupleG (consA (lcM [6] (seqI (vD 1)) (setN 6) yesT (vD 6)) nilA)) (consA (op2 mulG (tupM (consA (vD 2) nilA)) (cD (.int 9))) nilA))) nilA))))))))))
def m_w_hand : MF := fnM 7 b_w_hand
theorem ok_w_hand {P : Program} {w : World} {K : PySem.W.Frag} {mg : Str → Option Value} {base : Heap} {t : TopD} (T : Top K mg t) : FnG P w K mg base CX0 1 t.a_w_hand t.d_w_hand [] (spF K "next" "left" "drawn" 0 m_w_hand) :=
  fn_D T.F_w_hand S_w_hand rfl fun fa ca cdv A outer s H E hg hr =>
    show DSs _ ⟨fa, ca, "next", "left", "drawn"⟩ _ b_w_hand from
      (dss_cons (ds_parT (is := [3, 4]) [] (dae_consD (de_tup (da_cons (de_tup (da_cons de_str da_nil)) (da_cons (de_tup (da_cons de_str da_nil)) (da_cons (de_tup (da_cons de_str da_nil)) (da_cons (de_tup (da_cons de_str da_nil)) da_nil))))) (dae_consD (de_tup (da_cons de_str (da_cons de_str (da_cons de_str (da_cons de_str da_nil))))) dae_nil rfl) rfl) (pg_tup rfl (pgs_cons (pg_name (i := 3) S_w_hand.nd rfl (by first | exact .inl rfl | exact .inr rfl)) (pgs_cons (pg_name (i := 4) S_w_hand.nd rfl (by first | exact .inl rfl | exact .inr rfl)) pgs_nil))) rfl rfl rfl (by decide))
      (dss_cons (ds_set (i := 0) [] (de_lst (da_cons (de_tup (da_cons (de_var (pv 4)) (da_cons (de_tup (da_cons (de_var (pv 3)) (da_cons (de_var (pv 3)) (da_cons (de_var (pv 3)) (da_cons (de_var (pv 3)) da_nil))))) da_nil))) (da_cons (de_tup (da_cons (de_var (pv 4)) (da_cons (de_tup (da_cons (de_tup (da_cons (de_tup (da_cons de_str da_nil)) (da_cons (de_tup (da_cons de_str (da_cons de_str da_nil))) da_nil))) (da_cons (de_var (pv 3)) (da_cons (de_var (pv 3)) (da_cons (de_var (pv 3)) da_nil))))) da_nil))) da_nil))) S_w_hand.nd rfl (.inl rfl) rfl (.inr rfl))
      (dss_cons (ds_append [] (pv 0) (de_tup (da_cons (de_var (pv 4)) (da_cons (de_tup (da_cons (de_tup (da_cons (de_tup (da_cons de_str da_nil)) (da_cons (de_tup (da_cons de_str da_nil)) da_nil))) (da_cons (de_tup (da_cons (de_tup (da_cons de_str (da_cons de_str da_nil))) da_nil)) (da_cons (de_tup (da_cons (de_tup (da_cons de_str da_nil)) (da_cons (de_tup (da_cons de_str da_nil)) da_nil))) (da_cons (de_tup (da_cons (de_tup (da_cons de_str da_nil)) da_nil)) da_nil))))) da_nil))))
      (dss_cons (ds_set (i := 0) [0] (de_op og_add (de_var (pv 0)) (de_lst (da_cons (de_tup (da_cons (de_tup (da_cons de_str da_nil)) (da_cons (de_tup (da_cons (de_tup (da_cons (de_tup da_nil) da_nil)) da_nil)) da_nil))) (da_cons (de_tup (da_cons (de_tup (da_cons de_str da_nil)) (da_cons (de_tup (da_cons (de_tup (da_cons (de_tup (da_cons de_str da_nil)) da_nil)) da_nil)) da_nil))) (da_cons (de_tup (da_cons (de_tup (da_cons de_str (da_cons de_str da_nil))) (da_cons (de_tup (da_cons (de_tup (da_cons (de_tup (da_cons de_str (da_cons de_str da_nil))) da_nil)) (da_cons (de_tup (da_cons (de_tup da_nil) da_nil)) da_nil))) da_nil))) da_nil))))) S_w_hand.nd rfl (.inl rfl) rfl (.inr rfl))
      (dss_cons (ds_setD (i := 1) [] de_str S_w_hand.nd rfl (.inr rfl) rfl (.inl rfl))
      (dss_cons (ds_setD (i := 2) [] (de_callT cg_tuple rfl (T.z_tuple) bt_tuple (da_cons (de_lc (own := [("_law_k", 5)]) rfl S_w_hand.nd (di_rng1 rfl (T.z_range) de_int rfl) (blkOk_by (N := N_w_hand) (sc := defScope s_w_hand) (by decide +kernel)) (by decide) (hg_name fun _ _ _ _ _ => pg_name (i := 5) S_w_hand.nd rfl (by first | exact .inl rfl | exact .inr rfl)) (fun _ _ _ _ _ => dts_nil) (fun _ _ _ _ _ => (de_tup (da_cons (de_ix (de_var (pv 1)) (de_var (pv 5)) (fun _ _ => rfl)) (da_cons (de_ix (de_var (pv 1)) (de_op og_add (de_var (pv 5)) de_int) (fun _ _ => rfl)) da_nil)))) (fun _ => rfl)) da_nil)) S_w_hand.nd rfl (.inl rfl) rfl (.inr rfl))
      (dss_one (ds_ret [0] (de_op og_add (de_var (pv 0)) (de_lst (da_cons (de_tup (da_cons (de_callT cg_tuple rfl (T.z_tuple) bt_tuple (da_cons (de_lc (own := [("_law_sign", 6)]) rfl S_w_hand.nd (di_seq (de_var (pv 1))) (blkOk_by (N := N_w_hand) (sc := defScope s_w_hand) (by decide +kernel)) (by decide) (hg_name fun _ _ _ _ _ => pg_name (i := 6) S_w_hand.nd rfl (by first | exact .inl rfl | exact .inr rfl)) (fun _ _ _ _ _ => dts_nil) (fun _ _ _ _ _ => (de_var (pv 6))) (fun _ => rfl)) da_nil)) (da_cons (de_op og_mul (de_tup (da_cons (de_var (pv 2)) da_nil)) de_int) da_nil))) da_nil)))))))))))
def b_w_crowds_of : MS := (retM [] (op2 ixG (op2 ixG (vD 0) (cD (.int 1))) (op2 idxG (op2 ixG (vD 0) (cD (.int 0))) (vD 1))))
def m_w_crowds_of : MF := fnM 2 b_w_crowds_of
theorem ok_w_crowds_of {P : Program} {w : World} {K : PySem.W.Frag} {mg : Str → Option Value} {base : Heap} {t : TopD} (T : Top K mg t) : FnG P w K mg base CX0 1 t.a_w_crowds_of t.d_w_crowds_of ["_law_web_here", "_law_tag"] (spF K "next" "left" "drawn" 2 m_w_crowds_of) :=
  fn_D T.F_w_crowds_of S_w_crowds_of rfl fun fa ca cdv A outer s H E hg hr =>
    show DSs _ ⟨fa, ca, "next", "left", "drawn"⟩ _ b_w_crowds_of from
      (dss_one (ds_ret [] (de_ix (de_ix (de_var (pv 0)) de_int (fun _ _ => rfl)) (de_tupIndex (de_ix (de_var (pv 0)) de_int (fun _ _ => rfl)) (de_var (pv 1))) (fun _ _ => rfl))))
def b_w_wide : MS := (seqM (parM [] [2, 3] (consD (cD (.str "abcdefghijkl")) (consD (lstM nilA) nilE)))
  (seqM (forC [] (rng1I (cD (.int 7))) (setNS 0) (asgD [] 3 (op2 addG (vD 3) (lcM [5] (rng2I (op2 addG (vD 0) (cD (.int 1))) (cD (.int 7))) (setN 5) yesT (tupM (consA (op2 ixG (vD 2) (vD 0)) (consA (op2 ixG (vD 2) (vD 5)) nilA)))))))
  (seqM (asgD [] 1 (callM tupleG (consA (lcM [4] (seqI (vD 2)) (setN 4) yesT (vD 4)) nilA)))
  (retM [] (tupM (consA (vD 1) (consA (op2 addG (tupM (consA (callM tupleG (consA (ssM (op2 addG (vD 3) (lstM (consA (tupM (consA (cD (.str "h")) (consA (cD (.str "i")) nilA))) nilA)))) nilA)) nilA)) (op2 mulG (tupM (consA (tupM (consA (tupM (consA (cD (.str "a")) nilA)) nilA)) nilA)) (cD (.int 11)))) nilA)))))))
def m_w_wide : MF := fnM 6 b_w_wide
theorem ok_w_wide {P : Program} {w : World} {K : PySem.W.Frag} {mg : Str → Option Value} {base : Heap} {t : TopD} (T : Top K mg t) : FnG P w K mg base CX0 1 t.a_w_wide t.d_w_wide [] (spF K "next" "left" "drawn" 0 m_w_wide) :=
  fn_D T.F_w_wide S_w_wide rfl fun fa ca cdv A outer s H E hg hr =>
    show DSs _ ⟨fa, ca, "next", "left", "drawn"⟩ _ b_w_wide from
      (dss_cons (ds_parT (is := [2, 3]) [] (dae_consD de_str (dae_consD (de_lst da_nil) dae_nil rfl) rfl) (pg_tup rfl (pgs_cons (pg_name (i := 2) S_w_wide.nd rfl (by first | exact .inl rfl | exact .inr rfl)) (pgs_cons (pg_name (i := 3) S_w_wide.nd rfl (by first | exact .inl rfl | exact .inr rfl)) pgs_nil))) rfl rfl rfl (by decide))
      (dss_cons (ds_forC [] PassesOwn.never rfl (dic_rng1 rfl (T.z_range) de_int rfl) (dgs_name (pg_name (i := 0) S_w_wide.nd rfl (by first | exact .inl rfl | exact .inr rfl))) (dss_one (ds_setD (i := 3) [] (de_op og_add (de_var (pv 3)) (de_lc (own := [("_law_j", 5)]) rfl S_w_wide.nd (di_rng2 rfl (T.z_range) (de_op og_add (de_var (pv 0)) de_int) de_int rfl rfl) (blkOk_by (N := N_w_wide) (sc := defScope s_w_wide) (by decide +kernel)) (by decide) (hg_name fun _ _ _ _ _ => pg_name (i := 5) S_w_wide.nd rfl (by first | exact .inl rfl | exact .inr rfl)) (fun _ _ _ _ _ => dts_nil) (fun _ _ _ _ _ => (de_tup (da_cons (de_ix (de_var (pv 2)) (de_var (pv 0)) (fun _ _ => rfl)) (da_cons (de_ix (de_var (pv 2)) (de_var (pv 5)) (fun _ _ => rfl)) da_nil)))) (fun _ => rfl))) S_w_wide.nd rfl (.inl rfl) rfl (.inr rfl))) (fun _ => rfl))
      (dss_cons (ds_setD (i := 1) [] (de_callT cg_tuple rfl (T.z_tuple) bt_tuple (da_cons (de_lc (own := [("_law_sign", 4)]) rfl S_w_wide.nd (di_seq (de_var (pv 2))) (blkOk_by (N := N_w_wide) (sc := defScope s_w_wide) (by decide +kernel)) (by decide) (hg_name fun _ _ _ _ _ => pg_name (i := 4) S_w_wide.nd rfl (by first | exact .inl rfl | exact .inr rfl)) (fun _ _ _ _ _ => dts_nil) (fun _ _ _ _ _ => (de_var (pv 4))) (fun _ => rfl)) da_nil)) S_w_wide.nd rfl (.inl rfl) rfl (.inr rfl))
      (dss_one (ds_ret [] (de_tup (da_cons (de_var (pv 1)) (da_cons (de_op og_add (de_tup (da_cons (de_callT cg_tuple rfl (T.z_tuple) bt_tuple (da_cons (de_ss rfl (r65 hr) rfl (T.z_sorted) rfl (T.z_set) (de_op og_add (de_var (pv 3)) (de_lst (da_cons (de_tup (da_cons de_str (da_cons de_str da_nil))) da_nil)))) da_nil)) da_nil)) (de_op og_mul (de_tup (da_cons (de_tup (da_cons (de_tup (da_cons de_str da_nil)) da_nil)) da_nil)) de_int)) da_nil))))))))
def b_is_lot_of : MS := (seqM (ifS [] (notT (tst (isiM "tuple" (vD 1)))) (retM [] (cD (.bool false))) nxM)
  (retM [] (andM (callM allG (consA (lcM [2] (seqI (vD 1)) (setN 2) yesT (op2 (inG false) (vD 2) (vD 0))) nilA)) (appM 1 m_ascend (consA (vD 1) nilA)))))
def m_is_lot_of : MF := fnM 3 b_is_lot_of
theorem ok_is_lot_of {P : Program} {w : World} {K : PySem.W.Frag} {mg : Str → Option Value} {base : Heap} {t : TopD} (T : Top K mg t) : FnG P w K mg base CX0 2 t.a_is_lot_of t.d_is_lot_of ["houses", "thing"] (spF K "next" "left" "drawn" 2 m_is_lot_of) :=
  fn_D T.F_is_lot_of S_is_lot_of rfl fun fa ca cdv A outer s H E hg hr =>
    show DSs _ ⟨fa, ca, "next", "left", "drawn"⟩ _ b_is_lot_of from
      (dss_cons (ds_if [] (dt_not (dt_val (de_isi (T := "tuple") (by unfold tyOk; simp) (de_var (pv 1)) (pe_bltn rfl (T.z_tuple) bt_tuple rfl) rfl (T.z_isinstance)) (fun _ => rfl))) (dss_one (ds_ret [] de_bl)) dss_nil)
      (dss_one (ds_ret [] (de_and (de_callB (cg_all rfl) rfl (T.z_all) bt_all (da_cons (de_lc (own := [("name", 2)]) rfl S_is_lot_of.nd (di_seq (de_var (pv 1))) (blkOk_by (N := N_is_lot_of) (sc := defScope s_is_lot_of) (by decide +kernel)) (by decide) (hg_name fun _ _ _ _ _ => pg_name (i := 2) S_is_lot_of.nd rfl (by first | exact .inl rfl | exact .inr rfl)) (fun _ _ _ _ _ => dts_nil) (fun _ _ _ _ _ => (de_cmp (og_in (r65 hr)) (de_var (pv 2)) (de_var (pv 0)) rfl)) (fun _ => rfl)) da_nil)) (de_one (de_call (ok_ascend T) hg (hr.mono (by decide)) rfl T.g_ascend T.F_ascend.kp (bn_ascend T) (da_cons (de_var (pv 1)) da_nil)))))))
def b_greatest : MS := (seqM (asgD [] 1 (ssM (vD 0)))
  (retM [] (callM tupleG (consA (lcM [2] (seqI (vD 1)) (setN 2) (notT (tst (callM anyG (consA (lcM [3] (seqI (vD 1)) (setN 3) (tst (op2 neG (vD 3) (vD 2))) (appM 2 m_includes (consA (vD 3) (consA (vD 2) nilA)))) nilA)))) (vD 2)) nilA))))
def m_greatest : MF := fnM 4 b_greatest
theorem ok_greatest {P : Program} {w : World} {K : PySem.W.Frag} {mg : Str → Option Value} {base : Heap} {t : TopD} (T : Top K mg t) : FnG P w K mg base CX0 2 t.a_greatest t.d_greatest ["lots"] (spF K "next" "left" "drawn" 1 m_greatest) :=
  fn_D T.F_greatest S_greatest rfl fun fa ca cdv A outer s H E hg hr =>
    show DSs _ ⟨fa, ca, "next", "left", "drawn"⟩ _ b_greatest from
      (dss_cons (ds_setD (i := 1) [] (de_ss rfl (r65 hr) rfl (T.z_sorted) rfl (T.z_set) (de_var (pv 0))) S_greatest.nd rfl (.inr rfl) rfl (.inl rfl))
      (dss_one (ds_ret [] (de_callT cg_tuple rfl (T.z_tuple) bt_tuple (da_cons (de_lc (own := [("lot", 2)]) rfl S_greatest.nd (di_seq (de_var (pv 1))) (blkOk_by (N := N_greatest) (sc := defScope s_greatest) (by decide +kernel)) (by decide) (hg_name fun _ _ _ _ _ => pg_name (i := 2) S_greatest.nd rfl (by first | exact .inl rfl | exact .inr rfl)) (fun _ _ _ _ _ => (dts_one (dt_not (dt_val (de_callB (cg_any rfl) rfl (T.z_any) bt_any (da_cons (de_lc (own := [("other", 3)]) rfl S_greatest.nd (di_seq (de_var (pv 1))) (by show BlkOk N_greatest (relS _ (defScope s_greatest)) _ _; exact blkOk_by (by decide +kernel)) (by decide) (hg_name fun _ _ _ _ _ => pg_name (i := 3) S_greatest.nd rfl (by first | exact .inl rfl | exact .inr rfl)) (fun _ _ _ _ _ => (dts_one (dt_cmp (og_ne (r64 hr)) (de_var (pv 3)) (de_var (pv 2)) rfl))) (fun _ _ _ _ _ => (de_call (ok_includes T) hg (hr.mono (by decide)) rfl T.g_includes T.F_includes.kp (bn_includes T) (da_cons (de_var (pv 3)) (da_cons (de_var (pv 2)) da_nil)))) (fun _ => rfl)) da_nil)) (fun _ => rfl))))) (fun _ _ _ _ _ => (de_var (pv 2))) (fun _ => rfl)) da_nil)))))
def b_is_name_set : MS := (seqM (ifS [] (notT (tst (isiM "tuple" (vD 0)))) (retM [] (cD (.bool false))) nxM)
  (retM [] (andM (callM allG (consA (lcM [1] (seqI (vD 0)) (setN 1) yesT (appM 1 m_is_name (consA (vD 1) nilA))) nilA)) (appM 1 m_ascend (consA (vD 0) nilA)))))
def m_is_name_set : MF := fnM 2 b_is_name_set
theorem ok_is_name_set {P : Program} {w : World} {K : PySem.W.Frag} {mg : Str → Option Value} {base : Heap} {t : TopD} (T : Top K mg t) : FnG P w K mg base CX0 2 t.a_is_name_set t.d_is_name_set ["thing"] (spF K "next" "left" "drawn" 1 m_is_name_set) :=
  fn_D T.F_is_name_set S_is_name_set rfl fun fa ca cdv A outer s H E hg hr =>
    show DSs _ ⟨fa, ca, "next", "left", "drawn"⟩ _ b_is_name_set from
      (dss_cons (ds_if [] (dt_not (dt_val (de_isi (T := "tuple") (by unfold tyOk; simp) (de_var (pv 0)) (pe_bltn rfl (T.z_tuple) bt_tuple rfl) rfl (T.z_isinstance)) (fun _ => rfl))) (dss_one (ds_ret [] de_bl)) dss_nil)
      (dss_one (ds_ret [] (de_and (de_callB (cg_all rfl) rfl (T.z_all) bt_all (da_cons (de_lc (own := [("name", 1)]) rfl S_is_name_set.nd (di_seq (de_var (pv 0))) (blkOk_by (N := N_is_name_set) (sc := defScope s_is_name_set) (by decide +kernel)) (by decide) (hg_name fun _ _ _ _ _ => pg_name (i := 1) S_is_name_set.nd rfl (by first | exact .inl rfl | exact .inr rfl)) (fun _ _ _ _ _ => dts_nil) (fun _ _ _ _ _ => (de_call (ok_is_name T) hg (hr.mono (by decide)) rfl T.g_is_name T.F_is_name.kp (bn_is_name T) (da_cons (de_var (pv 1)) da_nil))) (fun _ => rfl)) da_nil)) (de_one (de_call (ok_ascend T) hg (hr.mono (by decide)) rfl T.g_ascend T.F_ascend.kp (bn_ascend T) (da_cons (de_var (pv 0)) da_nil)))))))
def b_within_one : MS := (seqM (forM [] (seqI (vD 0)) (setNS 2) (ifS [] (tst (appM 2 m_includes (consA (vD 2) (consA (vD 1) nilA)))) (retM [] (cD (.bool true))) nxM))
  (retM [] (cD (.bool false))))
def m_within_one : MF := fnM 3 b_within_one
theorem ok_within_one {P : Program} {w : World} {K : PySem.W.Frag} {mg : Str → Option Value} {base : Heap} {t : TopD} (T : Top K mg t) : FnG P w K mg base CX0 2 t.a_within_one t.d_within_one ["family", "lot"] (spF K "next" "left" "drawn" 2 m_within_one) :=
  fn_D T.F_within_one S_within_one rfl fun fa ca cdv A outer s H E hg hr =>
    show DSs _ ⟨fa, ca, "next", "left", "drawn"⟩ _ b_within_one from
      (dss_cons (ds_for [] PassesOwn.never rfl (di_seq (de_var (pv 0))) (dgs_name (pg_name (i := 2) S_within_one.nd rfl (by first | exact .inl rfl | exact .inr rfl))) (dss_one (ds_if [] (dt_val (de_call (ok_includes T) hg (hr.mono (by decide)) rfl T.g_includes T.F_includes.kp (bn_includes T) (da_cons (de_var (pv 2)) (da_cons (de_var (pv 1)) da_nil))) (fun _ => rfl)) (dss_one (ds_ret [] de_bl)) dss_nil)) (fun _ => rfl))
      (dss_one (ds_ret [] de_bl)))
def b_w_pick : MS := (retM [] (op2 ixG (vD 1) (appM 2 m_w_draw (consA (vD 0) (consA (callM lenG (consA (vD 1) nilA)) nilA)))))
def m_w_pick : MF := fnM 2 b_w_pick
theorem ok_w_pick {P : Program} {w : World} {K : PySem.W.Frag} {mg : Str → Option Value} {base : Heap} {t : TopD} (T : Top K mg t) : FnG P w K mg base CX0 2 t.a_w_pick t.d_w_pick ["_law_feed_here", "_law_some_here"] (spF K "next" "left" "drawn" 2 m_w_pick) :=
  fn_D T.F_w_pick S_w_pick rfl fun fa ca cdv A outer s H E hg hr =>
    show DSs _ ⟨fa, ca, "next", "left", "drawn"⟩ _ b_w_pick from
      (dss_one (ds_ret [] (de_ix (de_var (pv 1)) (de_call (ok_w_draw T) hg (hr.mono (by decide)) rfl T.g_w_draw T.F_w_draw.kp (bn_w_draw T) (da_cons (de_var (pv 0)) (da_cons (de_callB cg_len rfl (T.z_len) bt_len (da_cons (de_var (pv 1)) da_nil)) da_nil))) (fun _ _ => rfl))))
def b_w_greatest : MS := (seqM (asgD [] 1 (ssM (vD 0)))
  (retM [] (callM tupleG (consA (lcM [2] (seqI (vD 1)) (setN 2) (tst (op2 eqG (lcM [3] (seqI (vD 1)) (setN 3) (andT (tst (op2 neG (vD 3) (vD 2))) (tst (appM 2 m_w_lies (consA (vD 2) (consA (vD 3) nilA))))) (vD 3)) (lstM nilA))) (vD 2)) nilA))))
def m_w_greatest : MF := fnM 4 b_w_greatest
theorem ok_w_greatest {P : Program} {w : World} {K : PySem.W.Frag} {mg : Str → Option Value} {base : Heap} {t : TopD} (T : Top K mg t) : FnG P w K mg base CX0 2 t.a_w_greatest t.d_w_greatest ["_law_crowds"] (spF K "next" "left" "drawn" 1 m_w_greatest) :=
  fn_D T.F_w_greatest S_w_greatest rfl fun fa ca cdv A outer s H E hg hr =>
    show DSs _ ⟨fa, ca, "next", "left", "drawn"⟩ _ b_w_greatest from
      (dss_cons (ds_setD (i := 1) [] (de_ss rfl (r65 hr) rfl (T.z_sorted) rfl (T.z_set) (de_var (pv 0))) S_w_greatest.nd rfl (.inr rfl) rfl (.inl rfl))
      (dss_one (ds_ret [] (de_callT cg_tuple rfl (T.z_tuple) bt_tuple (da_cons (de_lc (own := [("_law_one", 2)]) rfl S_w_greatest.nd (di_seq (de_var (pv 1))) (blkOk_by (N := N_w_greatest) (sc := defScope s_w_greatest) (by decide +kernel)) (by decide) (hg_name fun _ _ _ _ _ => pg_name (i := 2) S_w_greatest.nd rfl (by first | exact .inl rfl | exact .inr rfl)) (fun _ _ _ _ _ => (dts_one (dt_cmp (og_eq (r64 hr)) (de_lc (own := [("_law_far", 3)]) rfl S_w_greatest.nd (di_seq (de_var (pv 1))) (by show BlkOk N_w_greatest (relS _ (defScope s_w_greatest)) _ _; exact blkOk_by (by decide +kernel)) (by decide) (hg_name fun _ _ _ _ _ => pg_name (i := 3) S_w_greatest.nd rfl (by first | exact .inl rfl | exact .inr rfl)) (fun _ _ _ _ _ => (dts_one (dt_w (dw_and (dt_cmp (og_ne (r64 hr)) (de_var (pv 3)) (de_var (pv 2)) rfl) (dw_and1 (dt_val (de_call (ok_w_lies T) hg (hr.mono (by decide)) rfl T.g_w_lies T.F_w_lies.kp (bn_w_lies T) (da_cons (de_var (pv 2)) (da_cons (de_var (pv 3)) da_nil))) (fun _ => rfl))))))) (fun _ _ _ _ _ => (de_var (pv 3))) (fun _ => rfl)) (de_lst da_nil) rfl))) (fun _ _ _ _ _ => (de_var (pv 2))) (fun _ => rfl)) da_nil)))))
def b_w_some : MS := (retM [] (callM tupleG (consA (lcM [3] (seqI (vD 1)) (setN 3) (tst (op2 ltG (appM 2 m_w_draw (consA (vD 0) (consA (cD (.int 4)) nilA))) (vD 2))) (vD 3)) nilA)))
def m_w_some : MF := fnM 4 b_w_some
theorem ok_w_some {P : Program} {w : World} {K : PySem.W.Frag} {mg : Str → Option Value} {base : Heap} {t : TopD} (T : Top K mg t) : FnG P w K mg base CX0 2 t.a_w_some t.d_w_some ["_law_feed_here", "_law_tags_here", "_law_thick"] (spF K "next" "left" "drawn" 3 m_w_some) :=
  fn_D T.F_w_some S_w_some rfl fun fa ca cdv A outer s H E hg hr =>
    show DSs _ ⟨fa, ca, "next", "left", "drawn"⟩ _ b_w_some from
      (dss_one (ds_ret [] (de_callT cg_tuple rfl (T.z_tuple) bt_tuple (da_cons (de_lc (own := [("_law_tag", 3)]) rfl S_w_some.nd (di_seq (de_var (pv 1))) (blkOk_by (N := N_w_some) (sc := defScope s_w_some) (by decide +kernel)) (by decide) (hg_name fun _ _ _ _ _ => pg_name (i := 3) S_w_some.nd rfl (by first | exact .inl rfl | exact .inr rfl)) (fun _ _ _ _ _ => (dts_one (dt_cmp og_lt (de_call (ok_w_draw T) hg (hr.mono (by decide)) rfl T.g_w_draw T.F_w_draw.kp (bn_w_draw T) (da_cons (de_var (pv 0)) (da_cons de_int da_nil))) (de_var (pv 2)) rfl))) (fun _ _ _ _ _ => (de_var (pv 3))) (fun _ => rfl)) da_nil))))
def b_is_family_of : MS := (seqM (ifS [] (orT (notT (tst (isiM "tuple" (vD 1)))) (tst (op2 eqG (vD 1) (tupM nilA)))) (retM [] (cD (.bool false))) nxM)
  (retM [] (andM (callM allG (consA (lcM [2] (seqI (vD 1)) (setN 2) yesT (appM 2 m_is_lot_of (consA (vD 0) (consA (vD 2) nilA)))) nilA)) (op2 eqG (appM 1 m_greatest (consA (vD 1) nilA)) (vD 1)))))
def m_is_family_of : MF := fnM 3 b_is_family_of
theorem ok_is_family_of {P : Program} {w : World} {K : PySem.W.Frag} {mg : Str → Option Value} {base : Heap} {t : TopD} (T : Top K mg t) : FnG P w K mg base CX0 3 t.a_is_family_of t.d_is_family_of ["houses", "thing"] (spF K "next" "left" "drawn" 2 m_is_family_of) :=
  fn_D T.F_is_family_of S_is_family_of rfl fun fa ca cdv A outer s H E hg hr =>
    show DSs _ ⟨fa, ca, "next", "left", "drawn"⟩ _ b_is_family_of from
      (dss_cons (ds_if [] (dt_w (dw_or (dt_not (dt_val (de_isi (T := "tuple") (by unfold tyOk; simp) (de_var (pv 1)) (pe_bltn rfl (T.z_tuple) bt_tuple rfl) rfl (T.z_isinstance)) (fun _ => rfl))) (dw_or1 (dt_cmp (og_eq (r64 hr)) (de_var (pv 1)) (de_tup da_nil) rfl)))) (dss_one (ds_ret [] de_bl)) dss_nil)
      (dss_one (ds_ret [] (de_and (de_callB (cg_all rfl) rfl (T.z_all) bt_all (da_cons (de_lc (own := [("lot", 2)]) rfl S_is_family_of.nd (di_seq (de_var (pv 1))) (blkOk_by (N := N_is_family_of) (sc := defScope s_is_family_of) (by decide +kernel)) (by decide) (hg_name fun _ _ _ _ _ => pg_name (i := 2) S_is_family_of.nd rfl (by first | exact .inl rfl | exact .inr rfl)) (fun _ _ _ _ _ => dts_nil) (fun _ _ _ _ _ => (de_call (ok_is_lot_of T) hg (hr.mono (by decide)) rfl T.g_is_lot_of T.F_is_lot_of.kp (bn_is_lot_of T) (da_cons (de_var (pv 0)) (da_cons (de_var (pv 2)) da_nil)))) (fun _ => rfl)) da_nil)) (de_one (de_cmp (og_eq (r64 hr)) (de_call (ok_greatest T) hg (hr.mono (by decide)) rfl T.g_greatest T.F_greatest.kp (bn_greatest T) (da_cons (de_var (pv 1)) da_nil)) (de_var (pv 1)) rfl))))))
def b_are_houses : MS := (retM [] (andM (appM 1 m_is_name_set (consA (vD 0) nilA)) (op2 neG (vD 0) (tupM nilA))))
def m_are_houses : MF := fnM 1 b_are_houses
theorem ok_are_houses {P : Program} {w : World} {K : PySem.W.Frag} {mg : Str → Option Value} {base : Heap} {t : TopD} (T : Top K mg t) : FnG P w K mg base CX0 3 t.a_are_houses t.d_are_houses ["thing"] (spF K "next" "left" "drawn" 1 m_are_houses) :=
  fn_D T.F_are_houses S_are_houses rfl fun fa ca cdv A outer s H E hg hr =>
    show DSs _ ⟨fa, ca, "next", "left", "drawn"⟩ _ b_are_houses from
      (dss_one (ds_ret [] (de_and (de_call (ok_is_name_set T) hg (hr.mono (by decide)) rfl T.g_is_name_set T.F_is_name_set.kp (bn_is_name_set T) (da_cons (de_var (pv 0)) da_nil)) (de_one (de_cmp (og_ne (r64 hr)) (de_var (pv 0)) (de_tup da_nil) rfl)))))
def b_w_tags : MS := (seqM (asgM [] 1 (lstM (consA (lstM (consA (cD (.str "a")) (consA (cD (.str "b")) (consA (cD (.str "c")) (consA (cD (.str "d")) (consA (cD (.str "e")) (consA (cD (.str "f")) (consA (cD (.str "g")) (consA (cD (.str "h")) nilA))))))))) (consA (lstM (consA (cD (.str "a")) (consA (cD (.str "aa")) (consA (cD (.str "ab")) (consA (cD (.str "abc")) (consA (cD (.str "b")) (consA (cD (.str "ba")) (consA (cD (.str "zzzzzzzz")) (consA (cD (.str "zz")) nilA))))))))) nilA))))
  (seqM (appendM [] 1 (lstM (consA (cD (.str "house")) (consA (cD (.str "lot")) (consA (cD (.str "net")) (consA (cD (.str "fall")) (consA (cD (.str "v")) (consA (cD (.str "w")) (consA (cD (.str "one")) (consA (cD (.str "echo")) nilA))))))))))
  (seqM (parM [1] [3, 4] (consD (appM 2 m_w_pick (consA (vD 0) (consA (vD 1) nilA))) (consD (appM 2 m_w_draw (consA (vD 0) (consA (cD (.int 8)) nilA))) nilE)))
  (seqM (asgD [] 2 (op2 addG (slM (vD 3) (soM (vD 4)) noM) (slM (vD 3) noM (soM (vD 4)))))
  (retM [] (ifM (tst (op2 eqG (appM 2 m_w_draw (consA (vD 0) (consA (cD (.int 2)) nilA))) (cD (.int 0)))) (vD 2) (revM (vD 2))))))))
def m_w_tags : MF := fnM 5 b_w_tags
theorem ok_w_tags {P : Program} {w : World} {K : PySem.W.Frag} {mg : Str → Option Value} {base : Heap} {t : TopD} (T : Top K mg t) : FnG P w K mg base CX0 3 t.a_w_tags t.d_w_tags ["_law_feed_here"] (spF K "next" "left" "drawn" 1 m_w_tags) :=
  fn_D T.F_w_tags S_w_tags rfl fun fa ca cdv A outer s H E hg hr =>
    show DSs _ ⟨fa, ca, "next", "left", "drawn"⟩ _ b_w_tags from
      (dss_cons (ds_set (i := 1) [] (de_lst (da_cons (de_lst (da_cons de_str (da_cons de_str (da_cons de_str (da_cons de_str (da_cons de_str (da_cons de_str (da_cons de_str (da_cons de_str da_nil))))))))) (da_cons (de_lst (da_cons de_str (da_cons de_str (da_cons de_str (da_cons de_str (da_cons de_str (da_cons de_str (da_cons de_str (da_cons de_str da_nil))))))))) da_nil))) S_w_tags.nd rfl (.inl rfl) rfl (.inr rfl))
      (dss_cons (ds_append [] (pv 1) (de_lst (da_cons de_str (da_cons de_str (da_cons de_str (da_cons de_str (da_cons de_str (da_cons de_str (da_cons de_str (da_cons de_str da_nil))))))))))
      (dss_cons (ds_par2 [1] rfl S_w_tags.nd rfl rfl (by decide) rfl rfl (dae_consD (de_call (ok_w_pick T) hg (hr.mono (by decide)) rfl T.g_w_pick T.F_w_pick.kp (bn_w_pick T) (da_cons (de_var (pv 0)) (da_cons (de_var (pv 1)) da_nil))) (dae_consD (de_call (ok_w_draw T) hg (hr.mono (by decide)) rfl T.g_w_draw T.F_w_draw.kp (bn_w_draw T) (da_cons (de_var (pv 0)) (da_cons de_int da_nil))) dae_nil rfl) rfl) rfl)
      (dss_cons (ds_setD (i := 2) [] (de_op og_add (de_sl (de_var (pv 3)) (do_some (de_var (pv 4))) do_none) (de_sl (de_var (pv 3)) do_none (do_some (de_var (pv 4))))) S_w_tags.nd rfl (.inl rfl) rfl (.inr rfl))
      (dss_one (ds_ret [] (de_if (dt_cmp (og_eq (r64 hr)) (de_call (ok_w_draw T) hg (hr.mono (by decide)) rfl T.g_w_draw T.F_w_draw.kp (bn_w_draw T) (da_cons (de_var (pv 0)) (da_cons de_int da_nil))) de_int rfl) (de_var (pv 2)) (de_rev (de_var (pv 2))))))))))
def b_w_asked : MS := (seqM (ifS [] (tst (op2 gtG (callM lenG (consA (op2 ixG (vD 1) (cD (.int 0))) nilA)) (cD (.int 9)))) (seqM (asgD [] 4 (op2 ixG (op2 ixG (vD 1) (cD (.int 1))) (cD (.int 0))))
  (seqM (asgD [] 5 (lstM (consA (op2 ixG (vD 4) (cD (.int (-1)))) (consA (slM (op2 ixG (vD 4) (cD (.int (-2)))) (soM (cD (.int 1))) noM) (consA (appM 2 m_w_pick (consA (vD 0) (consA (vD 4) nilA))) (consA (slM (appM 2 m_w_pick (consA (vD 0) (consA (vD 4) nilA))) (soM (cD (.int 1))) noM) nilA))))))
  (retM [] (op2 addG (op2 addG (lstM (consA (tupM nilA) (consA (slM (op2 ixG (vD 1) (cD (.int 0))) (soM (cD (.int 1))) noM) nilA))) (vD 5)) (lstM (consA (appM 3 m_w_some (consA (vD 0) (consA (op2 ixG (vD 1) (cD (.int 0))) (consA (cD (.int 1)) nilA)))) (consA (appM 3 m_w_some (consA (vD 0) (consA (op2 ixG (vD 1) (cD (.int 0))) (consA (cD (.int 2)) nilA)))) nilA))))))) nxM)
  (seqM (parM [] [6, 7] (consE (lstM nilA) (consE (lstM (consA (tupM nilA) (consA (op2 ixG (vD 1) (cD (.int 0))) (consA (slM (op2 ixG (vD 1) (cD (.int 0))) noM (soM (cD (.int 1)))) (consA (slM (op2 ixG (vD 1) (cD (.int 0))) (soM (cD (.int 1))) noM) nilA))))) nilE)))
  (seqM (forM [] (seqI (op2 ixG (vD 1) (cD (.int 0)))) (setNS 2) (seqM (asgD [] 4 (appM 2 m_w_crowds_of (consA (vD 1) (consA (vD 2) nilA))))
  (asgM [6] 6 (op2 addG (op2 addG (op2 addG (vD 6) (callM listG (consA (slM (vD 4) noM (soM (cD (.int 4)))) nilA))) (lcM [8] (seqI (slM (vD 4) noM (soM (cD (.int 2))))) (setN 8) yesT (slM (vD 8) (soM (cD (.int 1))) noM))) (lstM (consA (appM 3 m_w_some (consA (vD 0) (consA (op2 ixG (vD 1) (cD (.int 0))) (consA (cD (.int 2)) nilA)))) nilA))))))
  (seqM (forC [6] (rng1I (callM min2G (consA (cD (.int 8)) (consA (callM lenG (consA (vD 6) nilA)) nilA)))) (setNS 3) (appPopM [6] 7 6 (appM 2 m_w_draw (consA (vD 0) (consA (callM lenG (consA (vD 6) nilA)) nilA)))))
  (retV 7)))))
def m_w_asked : MF := fnM 9 b_w_asked
theorem ok_w_asked {P : Program} {w : World} {K : PySem.W.Frag} {mg : Str → Option Value} {base : Heap} {t : TopD} (T : Top K mg t) : FnG P w K mg base CX0 3 t.a_w_asked t.d_w_asked ["_law_feed_here", "_law_web_here"] (spF K "next" "left" "drawn" 2 m_w_asked) :=
  fn_D T.F_w_asked S_w_asked rfl fun fa ca cdv A outer s H E hg hr =>
    show DSs _ ⟨fa, ca, "next", "left", "drawn"⟩ _ b_w_asked from
      (dss_cons (ds_if [] (dt_cmp og_gt (de_callB cg_len rfl (T.z_len) bt_len (da_cons (de_ix (de_var (pv 1)) de_int (fun _ _ => rfl)) da_nil)) de_int rfl) (dss_cons (ds_setD (i := 4) [] (de_ix (de_ix (de_var (pv 1)) de_int (fun _ _ => rfl)) de_int (fun _ _ => rfl)) S_w_asked.nd rfl (.inl rfl) rfl (.inr rfl))
      (dss_cons (ds_setD (i := 5) [] (de_lst (da_cons (de_ix (de_var (pv 4)) de_neg (fun _ _ => rfl)) (da_cons (de_sl (de_ix (de_var (pv 4)) de_neg (fun _ _ => rfl)) (do_some de_int) do_none) (da_cons (de_call (ok_w_pick T) hg (hr.mono (by decide)) rfl T.g_w_pick T.F_w_pick.kp (bn_w_pick T) (da_cons (de_var (pv 0)) (da_cons (de_var (pv 4)) da_nil))) (da_cons (de_sl (de_call (ok_w_pick T) hg (hr.mono (by decide)) rfl T.g_w_pick T.F_w_pick.kp (bn_w_pick T) (da_cons (de_var (pv 0)) (da_cons (de_var (pv 4)) da_nil))) (do_some de_int) do_none) da_nil))))) S_w_asked.nd rfl (.inl rfl) rfl (.inr rfl))
      (dss_one (ds_ret [] (de_op og_add (de_op og_add (de_lst (da_cons (de_tup da_nil) (da_cons (de_sl (de_ix (de_var (pv 1)) de_int (fun _ _ => rfl)) (do_some de_int) do_none) da_nil))) (de_var (pv 5))) (de_lst (da_cons (de_call (ok_w_some T) hg (hr.mono (by decide)) rfl T.g_w_some T.F_w_some.kp (bn_w_some T) (da_cons (de_var (pv 0)) (da_cons (de_ix (de_var (pv 1)) de_int (fun _ _ => rfl)) (da_cons de_int da_nil)))) (da_cons (de_call (ok_w_some T) hg (hr.mono (by decide)) rfl T.g_w_some T.F_w_some.kp (bn_w_some T) (da_cons (de_var (pv 0)) (da_cons (de_ix (de_var (pv 1)) de_int (fun _ _ => rfl)) (da_cons de_int da_nil)))) da_nil)))))))) dss_nil)
      (dss_cons (ds_par2 [] rfl S_w_asked.nd rfl rfl (by decide) rfl rfl (dae_cons (de_lst da_nil) (dae_cons (de_lst (da_cons (de_tup da_nil) (da_cons (de_ix (de_var (pv 1)) de_int (fun _ _ => rfl)) (da_cons (de_sl (de_ix (de_var (pv 1)) de_int (fun _ _ => rfl)) do_none (do_some de_int)) (da_cons (de_sl (de_ix (de_var (pv 1)) de_int (fun _ _ => rfl)) (do_some de_int) do_none) da_nil))))) dae_nil rfl) rfl) rfl)
      (dss_cons (ds_for [] PassesOwn.never rfl (di_seq (de_ix (de_var (pv 1)) de_int (fun _ _ => rfl))) (dgs_name (pg_name (i := 2) S_w_asked.nd rfl (by first | exact .inl rfl | exact .inr rfl))) (dss_cons (ds_setD (i := 4) [] (de_call (ok_w_crowds_of T) hg (hr.mono (by decide)) rfl T.g_w_crowds_of T.F_w_crowds_of.kp (bn_w_crowds_of T) (da_cons (de_var (pv 1)) (da_cons (de_var (pv 2)) da_nil))) S_w_asked.nd rfl (.inl rfl) rfl (.inr rfl))
      (dss_one (ds_set (i := 6) [6] (de_op og_add (de_op og_add (de_op og_add (de_var (pv 6)) (de_callT cg_list rfl (T.z_list) bt_list (da_cons (de_sl (de_var (pv 4)) do_none (do_some de_int)) da_nil))) (de_lc (own := [("_law_crowd", 8)]) rfl S_w_asked.nd (di_seq (de_sl (de_var (pv 4)) do_none (do_some de_int))) (blkOk_by (N := N_w_asked) (sc := defScope s_w_asked) (by decide +kernel)) (by decide) (hg_name fun _ _ _ _ _ => pg_name (i := 8) S_w_asked.nd rfl (by first | exact .inl rfl | exact .inr rfl)) (fun _ _ _ _ _ => dts_nil) (fun _ _ _ _ _ => (de_sl (de_var (pv 8)) (do_some de_int) do_none)) (fun _ => rfl))) (de_lst (da_cons (de_call (ok_w_some T) hg (hr.mono (by decide)) rfl T.g_w_some T.F_w_some.kp (bn_w_some T) (da_cons (de_var (pv 0)) (da_cons (de_ix (de_var (pv 1)) de_int (fun _ _ => rfl)) (da_cons de_int da_nil)))) da_nil))) S_w_asked.nd rfl (.inl rfl) rfl (.inr rfl)))) (fun _ => rfl))
      (dss_cons (ds_forC [6] PassesOwn.never rfl (dic_rng1 rfl (T.z_range) (de_callB (cg_min2 rfl) rfl (T.z_min) bt_min (da_cons de_int (da_cons (de_callB cg_len rfl (T.z_len) bt_len (da_cons (de_var (pv 6)) da_nil)) da_nil))) rfl) (dgs_name (pg_name (i := 3) S_w_asked.nd rfl (by first | exact .inl rfl | exact .inr rfl))) (dss_one (ds_appPop [6] (pv 7) (pv 6) (de_call (ok_w_draw T) hg (hr.mono (by decide)) rfl T.g_w_draw T.F_w_draw.kp (bn_w_draw T) (da_cons (de_var (pv 0)) (da_cons (de_callB cg_len rfl (T.z_len) bt_len (da_cons (de_var (pv 6)) da_nil)) da_nil))))) (fun _ => rfl))
      (dss_one (ds_retV (pv 7)))))))
def b_is_net : MS := (seqM (ifS [] (notT (tst (appM 2 m_is_tuple_of (consA (vD 0) (consA (cD (.int 2)) nilA))))) (retM [] (cD (.bool false))) nxM)
  (seqM (unpM [] [1, 2] (vD 0))
  (seqM (ifS [] (orT (notT (tst (appM 1 m_are_houses (consA (vD 1) nilA)))) (notT (tst (appM 2 m_is_tuple_of (consA (vD 2) (consA (callM lenG (consA (vD 1) nilA)) nilA)))))) (retM [] (cD (.bool false))) nxM)
  (retM [] (callM allG (consA (lcM [3] (seqI (vD 2)) (setN 3) yesT (appM 2 m_is_family_of (consA (vD 1) (consA (vD 3) nilA)))) nilA))))))
def m_is_net : MF := fnM 4 b_is_net
theorem ok_is_net {P : Program} {w : World} {K : PySem.W.Frag} {mg : Str → Option Value} {base : Heap} {t : TopD} (T : Top K mg t) : FnG P w K mg base CX0 4 t.a_is_net t.d_is_net ["thing"] (spF K "next" "left" "drawn" 1 m_is_net) :=
  fn_D T.F_is_net S_is_net rfl fun fa ca cdv A outer s H E hg hr =>
    show DSs _ ⟨fa, ca, "next", "left", "drawn"⟩ _ b_is_net from
      (dss_cons (ds_if [] (dt_not (dt_val (de_call (ok_is_tuple_of T) hg (hr.mono (by decide)) rfl T.g_is_tuple_of T.F_is_tuple_of.kp (bn_is_tuple_of T) (da_cons (de_var (pv 0)) (da_cons de_int da_nil))) (fun _ => rfl))) (dss_one (ds_ret [] de_bl)) dss_nil)
      (dss_cons (ds_unp (is := [1, 2]) [] (de_var (pv 0)) (pg_tup rfl (pgs_cons (pg_name (i := 1) S_is_net.nd rfl (by first | exact .inl rfl | exact .inr rfl)) (pgs_cons (pg_name (i := 2) S_is_net.nd rfl (by first | exact .inl rfl | exact .inr rfl)) pgs_nil))) rfl rfl rfl)
      (dss_cons (ds_if [] (dt_w (dw_or (dt_not (dt_val (de_call (ok_are_houses T) hg (hr.mono (by decide)) rfl T.g_are_houses T.F_are_houses.kp (bn_are_houses T) (da_cons (de_var (pv 1)) da_nil)) (fun _ => rfl))) (dw_or1 (dt_not (dt_val (de_call (ok_is_tuple_of T) hg (hr.mono (by decide)) rfl T.g_is_tuple_of T.F_is_tuple_of.kp (bn_is_tuple_of T) (da_cons (de_var (pv 2)) (da_cons (de_callB cg_len rfl (T.z_len) bt_len (da_cons (de_var (pv 1)) da_nil)) da_nil))) (fun _ => rfl)))))) (dss_one (ds_ret [] de_bl)) dss_nil)
      (dss_one (ds_ret [] (de_callB (cg_all rfl) rfl (T.z_all) bt_all (da_cons (de_lc (own := [("family", 3)]) rfl S_is_net.nd (di_seq (de_var (pv 2))) (blkOk_by (N := N_is_net) (sc := defScope s_is_net) (by decide +kernel)) (by decide) (hg_name fun _ _ _ _ _ => pg_name (i := 3) S_is_net.nd rfl (by first | exact .inl rfl | exact .inr rfl)) (fun _ _ _ _ _ => dts_nil) (fun _ _ _ _ _ => (de_call (ok_is_family_of T) hg (hr.mono (by decide)) rfl T.g_is_family_of T.F_is_family_of.kp (bn_is_family_of T) (da_cons (de_var (pv 1)) (da_cons (de_var (pv 3)) da_nil)))) (fun _ => rfl)) da_nil)))))))
def b_w_web : MS := (seqM (parM [] [3, 4] (consD (callM tupleG (consA (ssM (slM (appM 1 m_w_tags (consA (vD 0) nilA)) noM (soM (op2 addG (cD (.int 1)) (appM 2 m_w_draw (consA (vD 0) (consA (vD 1) nilA))))))) nilA)) (consE (lstM nilA) nilE)))
  (seqM (forM [] (seqI (vD 3)) (setNS 2) (seqM (asgM [] 5 (lstM nilA))
  (seqM (forC [] (rng1I (op2 addG (cD (.int 1)) (appM 2 m_w_draw (consA (vD 0) (consA (cD (.int 4)) nilA))))) (setNS 6) (appendM [] 5 (appM 3 m_w_some (consA (vD 0) (consA (vD 3) (consA (appM 2 m_w_pick (consA (vD 0) (consA (lstM (consA (cD (.int 0)) (consA (cD (.int 1)) (consA (cD (.int 1)) (consA (cD (.int 2)) (consA (cD (.int 2)) (consA (cD (.int 3)) (consA (cD (.int 4)) nilA)))))))) nilA))) nilA))))))
  (appendM [5] 4 (appM 1 m_w_greatest (consA (vD 5) nilA))))))
  (retM [4] (tupM (consA (vD 3) (consA (callM tupleG (consA (vD 4) nilA)) nilA))))))
def m_w_web : MF := fnM 7 b_w_web
theorem ok_w_web {P : Program} {w : World} {K : PySem.W.Frag} {mg : Str → Option Value} {base : Heap} {t : TopD} (T : Top K mg t) : FnG P w K mg base CX0 4 t.a_w_web t.d_w_web ["_law_feed_here", "_law_far"] (spF K "next" "left" "drawn" 2 m_w_web) :=
  fn_D T.F_w_web S_w_web rfl fun fa ca cdv A outer s H E hg hr =>
    show DSs _ ⟨fa, ca, "next", "left", "drawn"⟩ _ b_w_web from
      (dss_cons (ds_par2 [] rfl S_w_web.nd rfl rfl (by decide) rfl rfl (dae_consD (de_callT cg_tuple rfl (T.z_tuple) bt_tuple (da_cons (de_ss rfl (r65 hr) rfl (T.z_sorted) rfl (T.z_set) (de_sl (de_call (ok_w_tags T) hg (hr.mono (by decide)) rfl T.g_w_tags T.F_w_tags.kp (bn_w_tags T) (da_cons (de_var (pv 0)) da_nil)) do_none (do_some (de_op og_add de_int (de_call (ok_w_draw T) hg (hr.mono (by decide)) rfl T.g_w_draw T.F_w_draw.kp (bn_w_draw T) (da_cons (de_var (pv 0)) (da_cons (de_var (pv 1)) da_nil))))))) da_nil)) (dae_cons (de_lst da_nil) dae_nil rfl) rfl) rfl)
      (dss_cons (ds_for [] PassesOwn.never rfl (di_seq (de_var (pv 3))) (dgs_name (pg_name (i := 2) S_w_web.nd rfl (by first | exact .inl rfl | exact .inr rfl))) (dss_cons (ds_set (i := 5) [] (de_lst da_nil) S_w_web.nd rfl (.inl rfl) rfl (.inr rfl))
      (dss_cons (ds_forC [] PassesOwn.never rfl (dic_rng1 rfl (T.z_range) (de_op og_add de_int (de_call (ok_w_draw T) hg (hr.mono (by decide)) rfl T.g_w_draw T.F_w_draw.kp (bn_w_draw T) (da_cons (de_var (pv 0)) (da_cons de_int da_nil)))) rfl) (dgs_name (pg_name (i := 6) S_w_web.nd rfl (by first | exact .inl rfl | exact .inr rfl))) (dss_one (ds_append [] (pv 5) (de_call (ok_w_some T) hg (hr.mono (by decide)) rfl T.g_w_some T.F_w_some.kp (bn_w_some T) (da_cons (de_var (pv 0)) (da_cons (de_var (pv 3)) (da_cons (de_call (ok_w_pick T) hg (hr.mono (by decide)) rfl T.g_w_pick T.F_w_pick.kp (bn_w_pick T) (da_cons (de_var (pv 0)) (da_cons (de_lst (da_cons de_int (da_cons de_int (da_cons de_int (da_cons de_int (da_cons de_int (da_cons de_int (da_cons de_int da_nil)))))))) da_nil))) da_nil)))))) (fun _ => rfl))
      (dss_one (ds_append [5] (pv 4) (de_call (ok_w_greatest T) hg (hr.mono (by decide)) rfl T.g_w_greatest T.F_w_greatest.kp (bn_w_greatest T) (da_cons (de_var (pv 5)) da_nil)))))) (fun _ => rfl))
      (dss_one (ds_ret [4] (de_tup (da_cons (de_var (pv 3)) (da_cons (de_callT cg_tuple rfl (T.z_tuple) bt_tuple (da_cons (de_var (pv 4)) da_nil)) da_nil)))))))
def b_lots_of : MS := (seqM (dropM [] (appM 2 m_need (consA (appM 1 m_is_net (consA (vD 0) nilA)) (consA (cD (.str "net")) nilA))))
  (seqM (dropM [] (appM 2 m_need (consA (op2 (inG false) (vD 1) (op2 ixG (vD 0) (cD (.int 0)))) (consA (cD (.str "house")) nilA))))
  (retM [] (appM 2 m_family_of (consA (vD 0) (consA (vD 1) nilA))))))
def m_lots_of : MF := fnM 2 b_lots_of
theorem ok_lots_of {P : Program} {w : World} {K : PySem.W.Frag} {mg : Str → Option Value} {base : Heap} {t : TopD} (T : Top K mg t) : FnG P w K mg base CX0 5 t.a_lots_of t.d_lots_of ["net", "house"] (spF K "next" "left" "drawn" 2 m_lots_of) :=
  fn_D T.F_lots_of S_lots_of rfl fun fa ca cdv A outer s H E hg hr =>
    show DSs _ ⟨fa, ca, "next", "left", "drawn"⟩ _ b_lots_of from
      (dss_cons (ds_drop [] (de_call (ok_need T) hg (hr.mono (by decide)) rfl T.g_need T.F_need.kp (bn_need T) (da_cons (de_call (ok_is_net T) hg (hr.mono (by decide)) rfl T.g_is_net T.F_is_net.kp (bn_is_net T) (da_cons (de_var (pv 0)) da_nil)) (da_cons de_str da_nil))) rfl)
      (dss_cons (ds_drop [] (de_call (ok_need T) hg (hr.mono (by decide)) rfl T.g_need T.F_need.kp (bn_need T) (da_cons (de_cmp (og_in (r65 hr)) (de_var (pv 1)) (de_ix (de_var (pv 0)) de_int (fun _ _ => rfl)) rfl) (da_cons de_str da_nil))) rfl)
      (dss_one (ds_ret [] (de_call (ok_family_of T) hg (hr.mono (by decide)) rfl T.g_family_of T.F_family_of.kp (bn_family_of T) (da_cons (de_var (pv 0)) (da_cons (de_var (pv 1)) da_nil)))))))
def b_reckons : MS := (seqM (dropM [] (appM 2 m_need (consA (appM 1 m_is_net (consA (vD 0) nilA)) (consA (cD (.str "net")) nilA))))
  (seqM (dropM [] (appM 2 m_need (consA (op2 (inG false) (vD 1) (op2 ixG (vD 0) (cD (.int 0)))) (consA (cD (.str "house")) nilA))))
  (seqM (dropM [] (appM 2 m_need (consA (appM 2 m_is_lot_of (consA (op2 ixG (vD 0) (cD (.int 0))) (consA (vD 2) nilA))) (consA (cD (.str "lot")) nilA))))
  (retM [] (appM 2 m_within_one (consA (appM 2 m_family_of (consA (vD 0) (consA (vD 1) nilA))) (consA (vD 2) nilA)))))))
def m_reckons : MF := fnM 3 b_reckons
theorem ok_reckons {P : Program} {w : World} {K : PySem.W.Frag} {mg : Str → Option Value} {base : Heap} {t : TopD} (T : Top K mg t) : FnG P w K mg base CX0 5 t.a_reckons t.d_reckons ["net", "house", "lot"] (spF K "next" "left" "drawn" 3 m_reckons) :=
  fn_D T.F_reckons S_reckons rfl fun fa ca cdv A outer s H E hg hr =>
    show DSs _ ⟨fa, ca, "next", "left", "drawn"⟩ _ b_reckons from
      (dss_cons (ds_drop [] (de_call (ok_need T) hg (hr.mono (by decide)) rfl T.g_need T.F_need.kp (bn_need T) (da_cons (de_call (ok_is_net T) hg (hr.mono (by decide)) rfl T.g_is_net T.F_is_net.kp (bn_is_net T) (da_cons (de_var (pv 0)) da_nil)) (da_cons de_str da_nil))) rfl)
      (dss_cons (ds_drop [] (de_call (ok_need T) hg (hr.mono (by decide)) rfl T.g_need T.F_need.kp (bn_need T) (da_cons (de_cmp (og_in (r65 hr)) (de_var (pv 1)) (de_ix (de_var (pv 0)) de_int (fun _ _ => rfl)) rfl) (da_cons de_str da_nil))) rfl)
      (dss_cons (ds_drop [] (de_call (ok_need T) hg (hr.mono (by decide)) rfl T.g_need T.F_need.kp (bn_need T) (da_cons (de_call (ok_is_lot_of T) hg (hr.mono (by decide)) rfl T.g_is_lot_of T.F_is_lot_of.kp (bn_is_lot_of T) (da_cons (de_ix (de_var (pv 0)) de_int (fun _ _ => rfl)) (da_cons (de_var (pv 2)) da_nil))) (da_cons de_str da_nil))) rfl)
      (dss_one (ds_ret [] (de_call (ok_within_one T) hg (hr.mono (by decide)) rfl T.g_within_one T.F_within_one.kp (bn_within_one T) (da_cons (de_call (ok_family_of T) hg (hr.mono (by decide)) rfl T.g_family_of T.F_family_of.kp (bn_family_of T) (da_cons (de_var (pv 0)) (da_cons (de_var (pv 1)) da_nil))) (da_cons (de_var (pv 2)) da_nil))))))))
def b_feared_by : MS := (seqM (dropM [] (appM 2 m_need (consA (appM 1 m_is_net (consA (vD 0) nilA)) (consA (cD (.str "net")) nilA))))
  (seqM (dropM [] (appM 2 m_need (consA (appM 2 m_is_lot_of (consA (op2 ixG (vD 0) (cD (.int 0))) (consA (vD 1) nilA))) (consA (cD (.str "lot")) nilA))))
  (retM [] (callM tupleG (consA (lcM [2] (seqI (op2 ixG (vD 0) (cD (.int 0)))) (setN 2) (tst (appM 2 m_within_one (consA (appM 2 m_family_of (consA (vD 0) (consA (vD 2) nilA))) (consA (vD 1) nilA)))) (vD 2)) nilA)))))
def m_feared_by : MF := fnM 3 b_feared_by
theorem ok_feared_by {P : Program} {w : World} {K : PySem.W.Frag} {mg : Str → Option Value} {base : Heap} {t : TopD} (T : Top K mg t) : FnG P w K mg base CX0 5 t.a_feared_by t.d_feared_by ["net", "lot"] (spF K "next" "left" "drawn" 2 m_feared_by) :=
  fn_D T.F_feared_by S_feared_by rfl fun fa ca cdv A outer s H E hg hr =>
    show DSs _ ⟨fa, ca, "next", "left", "drawn"⟩ _ b_feared_by from
      (dss_cons (ds_drop [] (de_call (ok_need T) hg (hr.mono (by decide)) rfl T.g_need T.F_need.kp (bn_need T) (da_cons (de_call (ok_is_net T) hg (hr.mono (by decide)) rfl T.g_is_net T.F_is_net.kp (bn_is_net T) (da_cons (de_var (pv 0)) da_nil)) (da_cons de_str da_nil))) rfl)
      (dss_cons (ds_drop [] (de_call (ok_need T) hg (hr.mono (by decide)) rfl T.g_need T.F_need.kp (bn_need T) (da_cons (de_call (ok_is_lot_of T) hg (hr.mono (by decide)) rfl T.g_is_lot_of T.F_is_lot_of.kp (bn_is_lot_of T) (da_cons (de_ix (de_var (pv 0)) de_int (fun _ _ => rfl)) (da_cons (de_var (pv 1)) da_nil))) (da_cons de_str da_nil))) rfl)
      (dss_one (ds_ret [] (de_callT cg_tuple rfl (T.z_tuple) bt_tuple (da_cons (de_lc (own := [("house", 2)]) rfl S_feared_by.nd (di_seq (de_ix (de_var (pv 0)) de_int (fun _ _ => rfl))) (blkOk_by (N := N_feared_by) (sc := defScope s_feared_by) (by decide +kernel)) (by decide) (hg_name fun _ _ _ _ _ => pg_name (i := 2) S_feared_by.nd rfl (by first | exact .inl rfl | exact .inr rfl)) (fun _ _ _ _ _ => (dts_one (dt_val (de_call (ok_within_one T) hg (hr.mono (by decide)) rfl T.g_within_one T.F_within_one.kp (bn_within_one T) (da_cons (de_call (ok_family_of T) hg (hr.mono (by decide)) rfl T.g_family_of T.F_family_of.kp (bn_family_of T) (da_cons (de_var (pv 0)) (da_cons (de_var (pv 2)) da_nil))) (da_cons (de_var (pv 1)) da_nil))) (fun _ => rfl)))) (fun _ _ _ _ _ => (de_var (pv 2))) (fun _ => rfl)) da_nil))))))
def b_rest_of : MS := (seqM (dropM [] (appM 2 m_need (consA (appM 1 m_is_net (consA (vD 0) nilA)) (consA (cD (.str "net")) nilA))))
  (seqM (dropM [] (appM 2 m_need (consA (appM 2 m_is_lot_of (consA (op2 ixG (vD 0) (cD (.int 0))) (consA (vD 1) nilA))) (consA (cD (.str "lot")) nilA))))
  (retM [] (appM 2 m_without (consA (op2 ixG (vD 0) (cD (.int 0))) (consA (vD 1) nilA))))))
def m_rest_of : MF := fnM 2 b_rest_of
theorem ok_rest_of {P : Program} {w : World} {K : PySem.W.Frag} {mg : Str → Option Value} {base : Heap} {t : TopD} (T : Top K mg t) : FnG P w K mg base CX0 5 t.a_rest_of t.d_rest_of ["net", "lot"] (spF K "next" "left" "drawn" 2 m_rest_of) :=
  fn_D T.F_rest_of S_rest_of rfl fun fa ca cdv A outer s H E hg hr =>
    show DSs _ ⟨fa, ca, "next", "left", "drawn"⟩ _ b_rest_of from
      (dss_cons (ds_drop [] (de_call (ok_need T) hg (hr.mono (by decide)) rfl T.g_need T.F_need.kp (bn_need T) (da_cons (de_call (ok_is_net T) hg (hr.mono (by decide)) rfl T.g_is_net T.F_is_net.kp (bn_is_net T) (da_cons (de_var (pv 0)) da_nil)) (da_cons de_str da_nil))) rfl)
      (dss_cons (ds_drop [] (de_call (ok_need T) hg (hr.mono (by decide)) rfl T.g_need T.F_need.kp (bn_need T) (da_cons (de_call (ok_is_lot_of T) hg (hr.mono (by decide)) rfl T.g_is_lot_of T.F_is_lot_of.kp (bn_is_lot_of T) (da_cons (de_ix (de_var (pv 0)) de_int (fun _ _ => rfl)) (da_cons (de_var (pv 1)) da_nil))) (da_cons de_str da_nil))) rfl)
      (dss_one (ds_ret [] (de_call (ok_without T) hg (hr.mono (by decide)) rfl T.g_without T.F_without.kp (bn_without T) (da_cons (de_ix (de_var (pv 0)) de_int (fun _ _ => rfl)) (da_cons (de_var (pv 1)) da_nil)))))))
def b_w_is_right : MS := (seqM (asgD [] 2 (lstM nilA))
  (seqM (forM [] (seqI (op2 ixG (vD 0) (cD (.int 0)))) (setNS 3) (seqM (asgD [] 6 (op2 neG (lcM [7] (seqI (appM 2 m_w_crowds_of (consA (vD 0) (consA (vD 3) nilA)))) (setN 7) (tst (appM 2 m_w_lies (consA (vD 1) (consA (vD 7) nilA)))) (vD 7)) (lstM nilA)))
  (seqM (ifS [] (notT (tst (appM 2 m_w_same (consA (lstM (consA (appM 3 m_reckons (consA (vD 0) (consA (vD 3) (consA (vD 1) nilA)))) (consA (appN [2, 1, 0] 3 m_reckons (consA (vD 1) (consA (vD 3) (consA (vD 0) nilA)))) nilA))) (consA (lstM (consA (vD 6) (consA (vD 6) nilA))) nilA))))) (retM [] (cD (.bool false))) nxM)
  (asgD [] 2 (op2 addG (vD 2) (ifM (tst (vD 6)) (lstM (consA (vD 3) nilA)) (lstM nilA)))))))
  (seqM (asgD [] 4 (callM tupleG (consA (lcM [3] (seqI (op2 ixG (vD 0) (cD (.int 0)))) (setN 3) (tst (op2 (inG true) (vD 3) (vD 1))) (vD 3)) nilA)))
  (seqM (asgD [] 5 (lstM (consA (appM 2 m_feared_by (consA (vD 0) (consA (vD 1) nilA))) (consA (appN [1, 0] 2 m_feared_by (consA (vD 1) (consA (vD 0) nilA))) (consA (appM 2 m_rest_of (consA (vD 0) (consA (vD 1) nilA))) (consA (appN [1, 0] 2 m_rest_of (consA (vD 1) (consA (vD 0) nilA))) nilA))))))
  (retM [] (appM 2 m_w_same (consA (vD 5) (consA (lstM (consA (callM tupleG (consA (vD 2) nilA)) (consA (callM tupleG (consA (vD 2) nilA)) (consA (vD 4) (consA (vD 4) nilA))))) nilA))))))))
def m_w_is_right : MF := fnM 8 b_w_is_right
theorem ok_w_is_right {P : Program} {w : World} {K : PySem.W.Frag} {mg : Str → Option Value} {base : Heap} {t : TopD} (T : Top K mg t) : FnG P w K mg base CX0 6 t.a_w_is_right t.d_w_is_right ["_law_web_here", "_law_crowd"] (spF K "next" "left" "drawn" 2 m_w_is_right) :=
  fn_D T.F_w_is_right S_w_is_right rfl fun fa ca cdv A outer s H E hg hr =>
    show DSs _ ⟨fa, ca, "next", "left", "drawn"⟩ _ b_w_is_right from
      (dss_cons (ds_setD (i := 2) [] (de_lst da_nil) S_w_is_right.nd rfl (.inl rfl) rfl (.inr rfl))
      (dss_cons (ds_for [] PassesOwn.never rfl (di_seq (de_ix (de_var (pv 0)) de_int (fun _ _ => rfl))) (dgs_name (pg_name (i := 3) S_w_is_right.nd rfl (by first | exact .inl rfl | exact .inr rfl))) (dss_cons (ds_setD (i := 6) [] (de_cmp (og_ne (r64 hr)) (de_lc (own := [("_law_some_here", 7)]) rfl S_w_is_right.nd (di_seq (de_call (ok_w_crowds_of T) hg (hr.mono (by decide)) rfl T.g_w_crowds_of T.F_w_crowds_of.kp (bn_w_crowds_of T) (da_cons (de_var (pv 0)) (da_cons (de_var (pv 3)) da_nil)))) (blkOk_by (N := N_w_is_right) (sc := defScope s_w_is_right) (by decide +kernel)) (by decide) (hg_name fun _ _ _ _ _ => pg_name (i := 7) S_w_is_right.nd rfl (by first | exact .inl rfl | exact .inr rfl)) (fun _ _ _ _ _ => (dts_one (dt_val (de_call (ok_w_lies T) hg (hr.mono (by decide)) rfl T.g_w_lies T.F_w_lies.kp (bn_w_lies T) (da_cons (de_var (pv 1)) (da_cons (de_var (pv 7)) da_nil))) (fun _ => rfl)))) (fun _ _ _ _ _ => (de_var (pv 7))) (fun _ => rfl)) (de_lst da_nil) rfl) S_w_is_right.nd rfl (.inl rfl) rfl (.inr rfl))
      (dss_cons (ds_if [] (dt_not (dt_val (de_call (ok_w_same T) hg (hr.mono (by decide)) rfl T.g_w_same T.F_w_same.kp (bn_w_same T) (da_cons (de_lst (da_cons (de_call (ok_reckons T) hg (hr.mono (by decide)) rfl T.g_reckons T.F_reckons.kp (bn_reckons T) (da_cons (de_var (pv 0)) (da_cons (de_var (pv 3)) (da_cons (de_var (pv 1)) da_nil)))) (da_cons (de_callN (ok_reckons T) hg (hr.mono (by decide)) rfl T.g_reckons T.F_reckons.kp (nb_reckons_lot_house_net T) (dk_cons (de_var (pv 1)) (dk_cons (de_var (pv 3)) (dk_cons (de_var (pv 0)) dk_nil))) rfl (len_cons (len_cons (len_cons len_nil)))) da_nil))) (da_cons (de_lst (da_cons (de_var (pv 6)) (da_cons (de_var (pv 6)) da_nil))) da_nil))) (fun _ => rfl))) (dss_one (ds_ret [] de_bl)) dss_nil)
      (dss_one (ds_setD (i := 2) [] (de_op og_add (de_var (pv 2)) (de_if (dt_val (de_var (pv 6)) (fun _ => rfl)) (de_lst (da_cons (de_var (pv 3)) da_nil)) (de_lst da_nil))) S_w_is_right.nd rfl (.inl rfl) rfl (.inr rfl))))) (fun _ => rfl))
      (dss_cons (ds_setD (i := 4) [] (de_callT cg_tuple rfl (T.z_tuple) bt_tuple (da_cons (de_lc (own := [("_law_tag", 3)]) rfl S_w_is_right.nd (di_seq (de_ix (de_var (pv 0)) de_int (fun _ _ => rfl))) (blkOk_by (N := N_w_is_right) (sc := defScope s_w_is_right) (by decide +kernel)) (by decide) (hg_name fun _ _ _ _ _ => pg_name (i := 3) S_w_is_right.nd rfl (by first | exact .inl rfl | exact .inr rfl)) (fun _ _ _ _ _ => (dts_one (dt_cmp (og_notIn (r65 hr)) (de_var (pv 3)) (de_var (pv 1)) rfl))) (fun _ _ _ _ _ => (de_var (pv 3))) (fun _ => rfl)) da_nil)) S_w_is_right.nd rfl (.inl rfl) rfl (.inr rfl))
      (dss_cons (ds_setD (i := 5) [] (de_lst (da_cons (de_call (ok_feared_by T) hg (hr.mono (by decide)) rfl T.g_feared_by T.F_feared_by.kp (bn_feared_by T) (da_cons (de_var (pv 0)) (da_cons (de_var (pv 1)) da_nil))) (da_cons (de_callN (ok_feared_by T) hg (hr.mono (by decide)) rfl T.g_feared_by T.F_feared_by.kp (nb_feared_by_lot_net T) (dk_cons (de_var (pv 1)) (dk_cons (de_var (pv 0)) dk_nil)) rfl (len_cons (len_cons len_nil))) (da_cons (de_call (ok_rest_of T) hg (hr.mono (by decide)) rfl T.g_rest_of T.F_rest_of.kp (bn_rest_of T) (da_cons (de_var (pv 0)) (da_cons (de_var (pv 1)) da_nil))) (da_cons (de_callN (ok_rest_of T) hg (hr.mono (by decide)) rfl T.g_rest_of T.F_rest_of.kp (nb_rest_of_lot_net T) (dk_cons (de_var (pv 1)) (dk_cons (de_var (pv 0)) dk_nil)) rfl (len_cons (len_cons len_nil))) da_nil))))) S_w_is_right.nd rfl (.inl rfl) rfl (.inr rfl))
      (dss_one (ds_ret [] (de_call (ok_w_same T) hg (hr.mono (by decide)) rfl T.g_w_same T.F_w_same.kp (bn_w_same T) (da_cons (de_var (pv 5)) (da_cons (de_lst (da_cons (de_callT cg_tuple rfl (T.z_tuple) bt_tuple (da_cons (de_var (pv 2)) da_nil)) (da_cons (de_callT cg_tuple rfl (T.z_tuple) bt_tuple (da_cons (de_var (pv 2)) da_nil)) (da_cons (de_var (pv 4)) (da_cons (de_var (pv 4)) da_nil))))) da_nil)))))))))
-- LAW
def b_law : MS := (seqM (asgD [] 2 (ifM (tst (op2 eqG (appM 2 m_w_draw (consA (vD 1) (consA (cD (.int 8)) nilA))) (cD (.int 0)))) (appM 0 m_w_wide nilA) (appM 2 m_w_pick (consA (vD 1) (consA (appM 0 m_w_hand nilA) nilA)))))
  (seqM (forM [] (seqI (op2 addG (lstM (consA (vD 2) nilA)) (lcM [9] (rng1I (cD (.int 2))) (setN 9) yesT (appM 2 m_w_web (consA (vD 1) (consA (cD (.int 6)) nilA)))))) (setNS 3) (seqM (parM [] [6, 7] (consD (callM reprG (consA (vD 3) nilA)) (consD (appM 2 m_w_asked (consA (vD 1) (consA (vD 3) nilA))) nilE)))
  (seqM (forM [] (seqI (op2 ixG (vD 3) (cD (.int 0)))) (setNS 4) (seqM (asgD [] 8 (appM 2 m_w_crowds_of (consA (vD 3) (consA (vD 4) nilA))))
  (ifS [] (notT (tst (appM 2 m_w_same (consA (lstM (consA (appM 2 m_lots_of (consA (vD 3) (consA (vD 4) nilA))) (consA (appN [1, 0] 2 m_lots_of (consA (vD 4) (consA (vD 3) nilA))) nilA))) (consA (lstM (consA (vD 8) (consA (vD 8) nilA))) nilA))))) (retM [] (cD (.bool false))) nxM)))
  (seqM (forM [] (seqI (op2 addG (vD 7) (lstM (consA (appM 2 m_w_pick (consA (vD 1) (consA (vD 7) nilA))) nilA)))) (setNS 5) (ifS [] (notT (tst (appM 2 m_w_is_right (consA (vD 3) (consA (vD 5) nilA))))) (retM [] (cD (.bool false))) nxM))
  (ifS [] (tst (op2 neG (callM reprG (consA (vD 3) nilA)) (vD 6))) (retM [] (cD (.bool false))) nxM)))))
  (retM [] (cD (.bool true)))))
theorem ok_lawrest {P : Program} {w : World} {K : PySem.W.Frag} {mg : Str → Option Value} {base : Heap} {t : TopD} (T : Top K mg t) (fa ca : Addr) (cdv : Value) (A : Around) (outer : List Env) (s : Shared) (H : Hp) (E : XK) (hg : A.guards = some []) (hr : Room 6 (A.deeper (envOfC "law" (defScope s_law) s.heap.objs.size t.a_law cdv))) :
    DSs (cxOf CX0 P w K mg base N_law "law" (defScope s_law) t.a_law cdv A outer s H E).nox ⟨fa, ca, "next", "left", "drawn"⟩ (defBody s_law).tail b_law :=
      (dss_cons (ds_setD (i := 2) [] (de_if (dt_cmp (og_eq (r64 hr)) (de_call (ok_w_draw T) hg (hr.mono (by decide)) rfl T.g_w_draw T.F_w_draw.kp (bn_w_draw T) (da_cons (de_var (pv 1)) (da_cons de_int da_nil))) de_int rfl) (de_call0 (ok_w_wide T) hg (hr.mono (by decide)) rfl T.g_w_wide T.F_w_wide.kp (bn_w_wide T)) (de_call (ok_w_pick T) hg (hr.mono (by decide)) rfl T.g_w_pick T.F_w_pick.kp (bn_w_pick T) (da_cons (de_var (pv 1)) (da_cons (de_call0 (ok_w_hand T) hg (hr.mono (by decide)) rfl T.g_w_hand T.F_w_hand.kp (bn_w_hand T)) da_nil)))) S_law.nd rfl (.inl rfl) rfl (.inr rfl))
      (dss_cons (ds_for [] PassesOwn.never rfl (di_seq (de_op og_add (de_lst (da_cons (de_var (pv 2)) da_nil)) (de_lc (own := [("_law_lap", 9)]) rfl S_law.nd (di_rng1 rfl (T.z_range) de_int rfl) (blkOk_by (N := N_law) (sc := defScope s_law) (by decide +kernel)) (by decide) (hg_name fun _ _ _ _ _ => pg_name (i := 9) S_law.nd rfl (by first | exact .inl rfl | exact .inr rfl)) (fun _ _ _ _ _ => dts_nil) (fun _ _ _ _ _ => (de_call (ok_w_web T) hg (hr.mono (by decide)) rfl T.g_w_web T.F_w_web.kp (bn_w_web T) (da_cons (de_var (pv 1)) (da_cons de_int da_nil)))) (fun _ => rfl)))) (dgs_name (pg_name (i := 3) S_law.nd rfl (by first | exact .inl rfl | exact .inr rfl))) (dss_cons (ds_par2 [] rfl S_law.nd rfl rfl (by decide) rfl rfl (dae_consD (de_callB (cg_repr hg (r66 hr)) rfl (T.z_repr) bt_repr (da_cons (de_var (pv 3)) da_nil)) (dae_consD (de_call (ok_w_asked T) hg (hr.mono (by decide)) rfl T.g_w_asked T.F_w_asked.kp (bn_w_asked T) (da_cons (de_var (pv 1)) (da_cons (de_var (pv 3)) da_nil))) dae_nil rfl) rfl) rfl)
      (dss_cons (ds_for [] PassesOwn.never rfl (di_seq (de_ix (de_var (pv 3)) de_int (fun _ _ => rfl))) (dgs_name (pg_name (i := 4) S_law.nd rfl (by first | exact .inl rfl | exact .inr rfl))) (dss_cons (ds_setD (i := 8) [] (de_call (ok_w_crowds_of T) hg (hr.mono (by decide)) rfl T.g_w_crowds_of T.F_w_crowds_of.kp (bn_w_crowds_of T) (da_cons (de_var (pv 3)) (da_cons (de_var (pv 4)) da_nil))) S_law.nd rfl (.inl rfl) rfl (.inr rfl))
      (dss_one (ds_if [] (dt_not (dt_val (de_call (ok_w_same T) hg (hr.mono (by decide)) rfl T.g_w_same T.F_w_same.kp (bn_w_same T) (da_cons (de_lst (da_cons (de_call (ok_lots_of T) hg (hr.mono (by decide)) rfl T.g_lots_of T.F_lots_of.kp (bn_lots_of T) (da_cons (de_var (pv 3)) (da_cons (de_var (pv 4)) da_nil))) (da_cons (de_callN (ok_lots_of T) hg (hr.mono (by decide)) rfl T.g_lots_of T.F_lots_of.kp (nb_lots_of_house_net T) (dk_cons (de_var (pv 4)) (dk_cons (de_var (pv 3)) dk_nil)) rfl (len_cons (len_cons len_nil))) da_nil))) (da_cons (de_lst (da_cons (de_var (pv 8)) (da_cons (de_var (pv 8)) da_nil))) da_nil))) (fun _ => rfl))) (dss_one (ds_ret [] de_bl)) dss_nil))) (fun _ => rfl))
      (dss_cons (ds_for [] PassesOwn.never rfl (di_seq (de_op og_add (de_var (pv 7)) (de_lst (da_cons (de_call (ok_w_pick T) hg (hr.mono (by decide)) rfl T.g_w_pick T.F_w_pick.kp (bn_w_pick T) (da_cons (de_var (pv 1)) (da_cons (de_var (pv 7)) da_nil))) da_nil)))) (dgs_name (pg_name (i := 5) S_law.nd rfl (by first | exact .inl rfl | exact .inr rfl))) (dss_one (ds_if [] (dt_not (dt_val (de_call (ok_w_is_right T) hg (hr.mono (by decide)) rfl T.g_w_is_right T.F_w_is_right.kp (bn_w_is_right T) (da_cons (de_var (pv 3)) (da_cons (de_var (pv 5)) da_nil))) (fun _ => rfl))) (dss_one (ds_ret [] de_bl)) dss_nil)) (fun _ => rfl))
      (dss_one (ds_if [] (dt_cmp (og_ne (r64 hr)) (de_callB (cg_repr hg (r66 hr)) rfl (T.z_repr) bt_repr (da_cons (de_var (pv 3)) da_nil)) (de_var (pv 6)) rfl) (dss_one (ds_ret [] de_bl)) dss_nil))))) (fun _ => rfl))
      (dss_one (ds_ret [] de_bl))))
def LawTrue : Prop := ∀ ns : List Int, ns.length ≤ 63 → ∃ ρ φ, b_law (lawS 10) ⟨ns, 0, 0, 0⟩ = .ok (.ret (.dat (.bool true)), ρ, φ)
section
variable {P : Program} {w : World} {K : PySem.W.Frag} {mg : Str → Option Value} {base : Heap} {t : TopD}
theorem ok_w_feed (T : Top K mg t) : FnG P w K mg base CX0 1 t.a_w_feed t.d_w_feed ["_law_script"] (spFeed K "next" "left" "drawn") :=
  fnG_of T.F_w_feed S_w_feed (fun vs H Q E h => by obtain ⟨a, ns, rfl, _⟩ := h; rfl) fun cdv A outer s H vs Q E hg hr h =>
    ⟨_, pss_one (ps_ret (pe_disp (pps_cons pe_str (pe_lc (own := [("_law_cell", 1)]) rfl S_w_feed.nd (pi_list (pe_slice sl_list (pv 0) po_none (po_some pe_int))) (blkOk_by (N := N_w_feed) (sc := defScope s_w_feed) (by decide +kernel))
      (fun _ _ _ _ _ => pg_name (i := 1) S_w_feed.nd rfl (by first | exact .inl rfl | exact .inr rfl)) (fun _ _ _ _ _ => pts_nil) (fun _ _ _ _ _ => pe_callTy cr_int1 rfl T.z_int bt_int (pa_cons (pv 1) pa_nil)))
      (pps_cons pe_str pe_int (pps_cons pe_str pe_int (pps_cons pe_str pe_int pps_nil)))) rfl rfl (by decide) (by decide))), feed_run rfl ⟨by decide, by decide, by decide, by decide, by decide, by decide⟩ h⟩
theorem ok_law (T : Top K mg t) (ok : LawTrue) : FnG P w K mg base CX0 7 t.a_law t.d_law ["_law_script"] (spLaw K) :=
  fn_law T.F_law S_law (by decide) rfl (fun cdv A outer s H E hg hr => ps_imp (ps_set (i := 1) S_law.nd rfl (by first | exact .inl rfl | exact .inr rfl) (pe_callG (ok_w_feed T) hg (hr.mono (by decide)) rfl T.g_w_feed T.F_w_feed.kp (bn_w_feed T) pass0 (pa_cons (pv 0) pa_nil))) fun D σ H z => z)
    (fun fa ca cdv A outer s H E hg hr => ok_lawrest T fa ca cdv A outer s H E hg hr) ok
end
theorem all_mk {P : Program} {w : World} {K : PySem.W.Frag} {h : Heap} {mg : Str → Option Value} {fa : Addr} (ok : LawTrue) (X : K.In h) (G : h.Ns mainGlobals mg) (hfa : mg "law" = some (.ref fa))
    (h_ascend : FunAt K "ascend" s_ascend)
    (h_includes : FunAt K "includes" s_includes)
    (h_without : FunAt K "without" s_without)
    (h_need : FunAt K "need" s_need)
    (h_is_name : FunAt K "is_name" s_is_name)
    (h_is_tuple_of : FunAt K "is_tuple_of" s_is_tuple_of)
    (h_family_of : FunAt K "family_of" s_family_of)
    (h_w_feed : FunAt K "_law_feed" s_w_feed)
    (h_w_draw : FunAt K "_law_draw" s_w_draw)
    (h_w_same : FunAt K "_law_same" s_w_same)
    (h_w_lies : FunAt K "_law_lies" s_w_lies)
    (h_w_hand : FunAt K "_law_hand" s_w_hand)
    (h_w_crowds_of : FunAt K "_law_crowds_of" s_w_crowds_of)
    (h_w_wide : FunAt K "_law_wide" s_w_wide)
    (h_is_lot_of : FunAt K "is_lot_of" s_is_lot_of)
    (h_greatest : FunAt K "greatest" s_greatest)
    (h_is_name_set : FunAt K "is_name_set" s_is_name_set)
    (h_within_one : FunAt K "within_one" s_within_one)
    (h_w_pick : FunAt K "_law_pick" s_w_pick)
    (h_w_greatest : FunAt K "_law_greatest" s_w_greatest)
    (h_w_some : FunAt K "_law_some" s_w_some)
    (h_is_family_of : FunAt K "is_family_of" s_is_family_of)
    (h_are_houses : FunAt K "are_houses" s_are_houses)
    (h_w_tags : FunAt K "_law_tags" s_w_tags)
    (h_w_asked : FunAt K "_law_asked" s_w_asked)
    (h_is_net : FunAt K "is_net" s_is_net)
    (h_w_web : FunAt K "_law_web" s_w_web)
    (h_lots_of : FunAt K "lots_of" s_lots_of)
    (h_reckons : FunAt K "reckons" s_reckons)
    (h_feared_by : FunAt K "feared_by" s_feared_by)
    (h_rest_of : FunAt K "rest_of" s_rest_of)
    (h_w_is_right : FunAt K "_law_is_right" s_w_is_right)
    (h_law : FunAt K "law" s_law)
    (z_all : PySem.W.nsIn K mainGlobals "all" = some none)
    (z_any : PySem.W.nsIn K mainGlobals "any" = some none)
    (z_int : PySem.W.nsIn K mainGlobals "int" = some none)
    (z_isinstance : PySem.W.nsIn K mainGlobals "isinstance" = some none)
    (z_len : PySem.W.nsIn K mainGlobals "len" = some none)
    (z_list : PySem.W.nsIn K mainGlobals "list" = some none)
    (z_min : PySem.W.nsIn K mainGlobals "min" = some none)
    (z_range : PySem.W.nsIn K mainGlobals "range" = some none)
    (z_repr : PySem.W.nsIn K mainGlobals "repr" = some none)
    (z_set : PySem.W.nsIn K mainGlobals "set" = some none)
    (z_sorted : PySem.W.nsIn K mainGlobals "sorted" = some none)
    (z_str : PySem.W.nsIn K mainGlobals "str" = some none)
    (z_tuple : PySem.W.nsIn K mainGlobals "tuple" = some none)
    (z_zip : PySem.W.nsIn K mainGlobals "zip" = some none)
    : ∃ fd : FuncData, (∀ (s : Shared) (u : Value), BindsTo s fd ⟨[u], []⟩ [("_law_script", u)]) ∧ ∀ base : Heap, K.In base → base.Ns mainGlobals mg → FnG P w K mg base CX0 7 fa fd ["_law_script"] (spLaw K) := by
  obtain ⟨a_ascend, d_ascend, g_ascend, F_ascend⟩ := h_ascend.get X G
  obtain ⟨a_includes, d_includes, g_includes, F_includes⟩ := h_includes.get X G
  obtain ⟨a_without, d_without, g_without, F_without⟩ := h_without.get X G
  obtain ⟨a_need, d_need, g_need, F_need⟩ := h_need.get X G
  obtain ⟨a_is_name, d_is_name, g_is_name, F_is_name⟩ := h_is_name.get X G
  obtain ⟨a_is_tuple_of, d_is_tuple_of, g_is_tuple_of, F_is_tuple_of⟩ := h_is_tuple_of.get X G
  obtain ⟨a_family_of, d_family_of, g_family_of, F_family_of⟩ := h_family_of.get X G
  obtain ⟨a_w_feed, d_w_feed, g_w_feed, F_w_feed⟩ := h_w_feed.get X G
  obtain ⟨a_w_draw, d_w_draw, g_w_draw, F_w_draw⟩ := h_w_draw.get X G
  obtain ⟨a_w_same, d_w_same, g_w_same, F_w_same⟩ := h_w_same.get X G
  obtain ⟨a_w_lies, d_w_lies, g_w_lies, F_w_lies⟩ := h_w_lies.get X G
  obtain ⟨a_w_hand, d_w_hand, g_w_hand, F_w_hand⟩ := h_w_hand.get X G
  obtain ⟨a_w_crowds_of, d_w_crowds_of, g_w_crowds_of, F_w_crowds_of⟩ := h_w_crowds_of.get X G
  obtain ⟨a_w_wide, d_w_wide, g_w_wide, F_w_wide⟩ := h_w_wide.get X G
  obtain ⟨a_is_lot_of, d_is_lot_of, g_is_lot_of, F_is_lot_of⟩ := h_is_lot_of.get X G
  obtain ⟨a_greatest, d_greatest, g_greatest, F_greatest⟩ := h_greatest.get X G
  obtain ⟨a_is_name_set, d_is_name_set, g_is_name_set, F_is_name_set⟩ := h_is_name_set.get X G
  obtain ⟨a_within_one, d_within_one, g_within_one, F_within_one⟩ := h_within_one.get X G
  obtain ⟨a_w_pick, d_w_pick, g_w_pick, F_w_pick⟩ := h_w_pick.get X G
  obtain ⟨a_w_greatest, d_w_greatest, g_w_greatest, F_w_greatest⟩ := h_w_greatest.get X G
  obtain ⟨a_w_some, d_w_some, g_w_some, F_w_some⟩ := h_w_some.get X G
  obtain ⟨a_is_family_of, d_is_family_of, g_is_family_of, F_is_family_of⟩ := h_is_family_of.get X G
  obtain ⟨a_are_houses, d_are_houses, g_are_houses, F_are_houses⟩ := h_are_houses.get X G
  obtain ⟨a_w_tags, d_w_tags, g_w_tags, F_w_tags⟩ := h_w_tags.get X G
  obtain ⟨a_w_asked, d_w_asked, g_w_asked, F_w_asked⟩ := h_w_asked.get X G
  obtain ⟨a_is_net, d_is_net, g_is_net, F_is_net⟩ := h_is_net.get X G
  obtain ⟨a_w_web, d_w_web, g_w_web, F_w_web⟩ := h_w_web.get X G
  obtain ⟨a_lots_of, d_lots_of, g_lots_of, F_lots_of⟩ := h_lots_of.get X G
  obtain ⟨a_reckons, d_reckons, g_reckons, F_reckons⟩ := h_reckons.get X G
  obtain ⟨a_feared_by, d_feared_by, g_feared_by, F_feared_by⟩ := h_feared_by.get X G
  obtain ⟨a_rest_of, d_rest_of, g_rest_of, F_rest_of⟩ := h_rest_of.get X G
  obtain ⟨a_w_is_right, d_w_is_right, g_w_is_right, F_w_is_right⟩ := h_w_is_right.get X G
  obtain ⟨a_law, d_law, g_law, F_law⟩ := h_law.get X G
  have T : Top K mg ⟨a_ascend, d_ascend, a_includes, d_includes, a_without, d_without, a_need, d_need, a_is_name, d_is_name, a_is_tuple_of, d_is_tuple_of, a_family_of, d_family_of, a_w_feed, d_w_feed, a_w_draw, d_w_draw, a_w_same, d_w_same, a_w_lies, d_w_lies, a_w_hand, d_w_hand, a_w_crowds_of, d_w_crowds_of, a_w_wide, d_w_wide, a_is_lot_of, d_is_lot_of, a_greatest, d_greatest, a_is_name_set, d_is_name_set, a_within_one, d_within_one, a_w_pick, d_w_pick, a_w_greatest, d_w_greatest, a_w_some, d_w_some, a_is_family_of, d_is_family_of, a_are_houses, d_are_houses, a_w_tags, d_w_tags, a_w_asked, d_w_asked, a_is_net, d_is_net, a_w_web, d_w_web, a_lots_of, d_lots_of, a_reckons, d_reckons, a_feared_by, d_feared_by, a_rest_of, d_rest_of, a_w_is_right, d_w_is_right, a_law, d_law⟩ := ⟨F_ascend, g_ascend, F_includes, g_includes, F_without, g_without, F_need, g_need, F_is_name, g_is_name, F_is_tuple_of, g_is_tuple_of, F_family_of, g_family_of, F_w_feed, g_w_feed, F_w_draw, g_w_draw, F_w_same, g_w_same, F_w_lies, g_w_lies, F_w_hand, g_w_hand, F_w_crowds_of, g_w_crowds_of, F_w_wide, g_w_wide, F_is_lot_of, g_is_lot_of, F_greatest, g_greatest, F_is_name_set, g_is_name_set, F_within_one, g_within_one, F_w_pick, g_w_pick, F_w_greatest, g_w_greatest, F_w_some, g_w_some, F_is_family_of, g_is_family_of, F_are_houses, g_are_houses, F_w_tags, g_w_tags, F_w_asked, g_w_asked, F_is_net, g_is_net, F_w_web, g_w_web, F_lots_of, g_lots_of, F_reckons, g_reckons, F_feared_by, g_feared_by, F_rest_of, g_rest_of, F_w_is_right, g_w_is_right, F_law, g_law, PySem.W.mg_none_of X G z_all, PySem.W.mg_none_of X G z_any, PySem.W.mg_none_of X G z_int, PySem.W.mg_none_of X G z_isinstance, PySem.W.mg_none_of X G z_len, PySem.W.mg_none_of X G z_list, PySem.W.mg_none_of X G z_min, PySem.W.mg_none_of X G z_range, PySem.W.mg_none_of X G z_repr, PySem.W.mg_none_of X G z_set, PySem.W.mg_none_of X G z_sorted, PySem.W.mg_none_of X G z_str, PySem.W.mg_none_of X G z_tuple, PySem.W.mg_none_of X G z_zip⟩
  have e := hfa.symm.trans g_law
  cases e
  refine ⟨d_law, fun s u => ?_, fun base _ _ => ok_law T ok⟩
  obtain ⟨oc, od, kV, doc, pm, an, cdv, ct, osl, rfl, lk, hcd⟩ := F_law.ex
  exact .of_eq rfl
end V03
namespace V03
open PySem PySem.Spec PyProof.Rows L2 VI
theorem includes_e {xs ys : List Str} (hx : Oks xs) (hy : Oks ys) (φ : FS) : m_includes [tupD xs, tupD ys] φ = .ok (.dat (.bool (subL ys xs)), φ) := by
  have loop := forGo_find (φ := φ) (set := setNS 2) (mb := ifS [] (tst (op2 (inG true) (vD 2) (vD 0))) (retM [] (cD (.bool false))) nxM) (as := ys.map PyData.str)
    (fun σ => ∃ o, σ = [some (.dat (tupD xs)), some (.dat (tupD ys)), o]) (fun d => !memB (strD d) xs) (.dat (.bool false)) (fun d hd σ ⟨o, e⟩ => by
      obtain ⟨y, my, ey⟩ := List.mem_map.mp hd
      subst ey e
      have ht : tst (op2 (inG true) (vD 2) (vD 0)) (soft [] [some (.dat (tupD xs)), some (.dat (tupD ys)), some (.dat (.str y))]) φ = .ok (!memB y xs, φ) := tst_e (by simp [inG_e (hy y my) hx])
      refine ⟨[some (.dat (tupD xs)), some (.dat (tupD ys)), some (.dat (.str y))], rfl, fun hb => ?_, fun hb => ?_⟩
      · exact ⟨_, (if_t (ht.trans (by rw [show (!memB y xs) = true from hb]))).trans (ret_e rfl)⟩
      · exact ⟨_, ⟨_, rfl⟩, if_f (ht.trans (by rw [show (!memB y xs) = false from hb]))⟩)
  obtain ⟨h1, h2⟩ := loop _ ⟨none, rfl⟩
  have e : (ys.map PyData.str).any (fun d => !memB (strD d) xs) = !subL ys xs := by
    rw [any_map]
    show ys.any (fun x => !memB x xs) = !ys.all _
    rw [List.not_all_eq_any_not]
  cases hs : subL ys xs with
  | true =>
    obtain ⟨σ', _, k⟩ := h2 (by rw [e, hs]; rfl)
    exact fn_rt (seq_nx ((for_e (seqI_t (by simp [tupD]))).trans k) |>.trans (ret_e rfl))
  | false =>
    obtain ⟨σ', k⟩ := h1 (by rw [e, hs]; rfl)
    exact fn_rt (seq_rt ((for_e (seqI_t (by simp [tupD]))).trans k))
theorem without_e {xs ys : List Str} (hx : Oks xs) (hy : Oks ys) (hl : xs.length ≤ 1000000) (φ : FS) : m_without [tupD xs, tupD ys] φ = .ok (.dat (tupD (xs.filter fun x => !memB x ys)), φ) := by
  refine fn_rt (ret_e ?_)
  have h : lcM [2] (seqI (vD 0)) (setN 2) (tst (op2 (inG true) (vD 2) (vD 1))) (vD 2) (soft [] (startS 3 [tupD xs, tupD ys])) φ = .ok (.own (((xs.map PyData.str).filter fun d => !memB (strD d) ys).map id), φ) := by
    refine lc_pure (fun d => !memB (strD d) ys) id (seqI_t (by simp [tupD])) (by rw [List.length_map]; exact hl) fun d hd => ?_
    obtain ⟨x, mx, ex⟩ := List.mem_map.mp hd
    subst ex
    refine ⟨_, rfl, tst_e (by simp [wipeD, inG_e (hx x mx) hy, strD]), fun _ => ⟨.dat (.str x), by simp [wipeD], rfl⟩⟩
  simp only [callM_e, consA_e, h, bind_e, nilA_e, toD_own, tupleG_l, List.map_id]
  rw [List.filter_map]
  rfl
theorem ascend_e {xs : List Str} (hl : xs.length ≤ 1000000) (φ : FS) : m_ascend [tupD xs] φ = .ok (.dat (.bool (ascB xs)), φ) := by
  refine fn_rt (ret_e ?_)
  have hz : zipI (vD 0) (slM (vD 0) (soM (cD (.int 1))) noM) (soft [] (startS 3 [tupD xs])) φ = .ok ((xs.map PyData.str).zip ((xs.drop 1).map PyData.str), φ) := by
    unfold zipI
    simp [tupD, cut1]
  rw [zip_map'] at hz
  have h : lcM [2, 1] (zipI (vD 0) (slM (vD 0) (soM (cD (.int 1))) noM)) (setP 1 2) yesT (op2 ltG (vD 1) (vD 2)) (soft [] (startS 3 [tupD xs])) φ =
      .ok (.own (((xs.zip (xs.drop 1)).map fun p => (PyData.str p.1, PyData.str p.2)).map fun q => PyData.bool (ltS (strD q.1) (strD q.2))), φ) := by
    refine lc_all _ hz (by rw [List.length_map, List.length_zip]; omega) fun q hq => ?_
    obtain ⟨p, _, e⟩ := List.mem_map.mp hq
    subst e
    exact ⟨_, rfl, .dat (.bool (ltS p.1 p.2)), rfl, rfl⟩
  rw [List.map_map] at h
  simp only [callM_e, consA_e, h, bind_e, nilA_e, toD_own]
  have e : (xs.zip (xs.drop 1)).map ((fun q : D × D => PyData.bool (ltS (strD q.1) (strD q.2))) ∘ fun p => (PyData.str p.1, PyData.str p.2)) = ((xs.zip (xs.drop 1)).map fun p => ltS p.1 p.2).map PyData.bool := by
    rw [List.map_map]
    rfl
  rw [e, allG_e, bind_e, all_map]
  rfl
theorem is_lot_e {hs xs : List Str} (hh : Oks hs) (hx : Oks xs) (hl : xs.length ≤ 1000000) (φ : FS) : m_is_lot_of [tupD hs, tupD xs] φ = .ok (.dat (.bool (subL xs hs && ascB xs)), φ) := by
  refine fn_rt ((seq_nx ((if_f (φ1 := φ) (by simp [tupD])).trans nxM_e)).trans (ret_e ?_))
  have h : lcM [2] (seqI (vD 1)) (setN 2) yesT (op2 (inG false) (vD 2) (vD 0)) (soft [] (startS 3 [tupD hs, tupD xs])) φ = .ok (.own ((xs.map PyData.str).map fun d => PyData.bool (memB (strD d) hs)), φ) := by
    refine lc_all _ (seqI_t (by simp [tupD])) (by rw [List.length_map]; exact hl) fun d hd => ?_
    obtain ⟨x, mx, ex⟩ := List.mem_map.mp hd
    subst ex
    exact ⟨_, rfl, .dat (.bool (memB x hs)), by simp [wipeD, inG_e (hx x mx) hh], rfl⟩
  refine andM_b (b := subL xs hs) ?_ fun _ => ?_
  · rw [List.map_map] at h
    simp only [callM_e, consA_e, h, bind_e, nilA_e, toD_own]
    have e : xs.map ((fun d => PyData.bool (memB (strD d) hs)) ∘ PyData.str) = (xs.map fun x => memB x hs).map PyData.bool := by
      rw [List.map_map]
      rfl
    rw [e, allG_e, bind_e, all_map]
    rfl
  · simp [ascend_e hl]
/-- the greatest of them -/
theorem greatest_e {f : List (List Str)} {d : D} (hd : d = .tuple (f.map tupD) ∨ d = .list (f.map tupD)) (hf : ∀ x ∈ f, Oks x) (hl : f.length < 64) (φ : FS) : m_greatest [d] φ = .ok (.dat (famD (topU f)), φ) := by
  have h0 : ssM (vD 0) (soft [] (startS 4 [d])) φ = .ok (.own ((sortU ltL f).map tupD), φ) := ssM_e (e := .dat d) (ds := f.map tupD) (by simp) (by rcases hd with e | e <;> rw [e] <;> simp) (ssG_tup hl)
  refine fn_rt ((seq_nx (asgD_e h0 (by simp))).trans (ret_e ?_))
  have len : (sortU ltL f).length ≤ 1000000 := Nat.le_trans sortU_len (by omega)
  have hs : ∀ x ∈ sortU ltL f, Oks x := fun x m => hf x ((mem_sortU tot_L).mp m)
  simp only [aft_nil, toD_own, start_cons, start_nil, List.set_cons_succ, List.set_cons_zero, List.replicate_succ, List.replicate_zero, soft_d, soft_o, soft_n]
  have inner : ∀ x ∈ sortU ltL f, lcM [3] (seqI (vD 1)) (setN 3) (tst (op2 neG (vD 3) (vD 2))) (appM 2 m_includes (consA (vD 3) (consA (vD 2) nilA))) [some d, some (.list ((sortU ltL f).map tupD)), some (tupD x), none] φ =
      .ok (.own ((((sortU ltL f).map tupD).filter fun y => decide (lotD y ≠ x)).map fun y => .bool (subL x (lotD y))), φ) := fun x mx => by
    refine lc_pure _ _ (seqI_l (by simp)) (by rw [List.length_map]; exact len) fun a ha => ?_
    obtain ⟨y, my, ey⟩ := List.mem_map.mp ha
    subst ey
    refine ⟨_, rfl, tst_e (?_ : _ = Res.ok (EV.dat (.bool (decide (lotD (tupD y) ≠ x))), φ)), fun _ => ⟨.dat (.bool (subL x y)), ?_, by rw [lot_tup]; rfl⟩⟩
    · simp [wipeD, neG_e (Fit.lot (hs y my)) (Fit.lot (hs x mx)), eqv_tup, lot_tup]
    · simp [wipeD, includes_e (hs y my) (hs x mx)]
  have outer : lcM [2] (seqI (vD 1)) (setN 2) (notT (tst (callM anyG (consA (lcM [3] (seqI (vD 1)) (setN 3) (tst (op2 neG (vD 3) (vD 2))) (appM 2 m_includes (consA (vD 3) (consA (vD 2) nilA)))) nilA)))) (vD 2) [some d, some (.list ((sortU ltL f).map tupD)), none, none] φ =
      .ok (.own ((((sortU ltL f).map tupD).filter fun a => ((sortU ltL f).filter fun y => decide (y ≠ lotD a) && subL (lotD a) y).isEmpty).map id), φ) := by
    refine lc_pure _ id (seqI_l (by simp)) (by rw [List.length_map]; exact len) fun a ha => ?_
    obtain ⟨x, mx, ex⟩ := List.mem_map.mp ha
    subst ex
    refine ⟨[some d, some (.list ((sortU ltL f).map tupD)), some (tupD x), none], rfl, ?_, fun _ => ⟨.dat (tupD x), rfl, rfl⟩⟩
    have e : ((((sortU ltL f).map tupD).filter fun y => decide (lotD y ≠ x)).map fun y => PyData.bool (subL x (lotD y))) = (((sortU ltL f).filter fun y => decide (y ≠ x)).map fun y => subL x y).map PyData.bool := by
      rw [List.filter_map, List.map_map, List.map_map]
      have e1 : ((fun y => decide (lotD y ≠ x)) ∘ tupD) = fun y => decide (y ≠ x) := funext fun y => by
        show decide (lotD (tupD y) ≠ x) = _
        rw [lot_tup]
      rw [e1]
      refine List.map_congr_left fun y _ => ?_
      show PyData.bool (subL x (lotD (tupD y))) = _
      rw [lot_tup]
      rfl
    simp only [notT_e, tst_b, callM_e, consA_e, inner x mx, bind_e, nilA_e, toD_own]
    rw [e, anyG_e]
    simp only [bind_e]
    rw [any_map', lot_tup, ← maxU_any]
  simp only [callM_e, consA_e, outer, bind_e, nilA_e, toD_own, tupleG_l, List.map_id]
  rw [List.filter_map]
  have e : ((fun a => ((sortU ltL f).filter fun y => decide (y ≠ lotD a) && subL (lotD a) y).isEmpty) ∘ tupD) = fun x => ((sortU ltL f).filter fun y => decide (y ≠ x) && subL x y).isEmpty := funext fun x => by
    show (((sortU ltL f).filter fun y => decide (y ≠ lotD (tupD x)) && subL (lotD (tupD x)) y).isEmpty) = _
    rw [lot_tup]
  rw [e]
  rfl
theorem lies_e {xs ys : List Str} (hx : Oks xs) (hy : Oks ys) (hl : xs.length ≤ 1000) (φ : FS) : m_w_lies [tupD xs, tupD ys] φ = .ok (.dat (.bool (subL xs ys)), φ) := by
  refine fn_rt (ret_e ?_)
  have h : lcM [2] (seqI (vD 0)) (setN 2) (tst (op2 (inG true) (vD 2) (vD 1))) (vD 2) (soft [] (startS 3 [tupD xs, tupD ys])) φ = .ok (.own (((xs.map PyData.str).filter fun d => !memB (strD d) ys).map id), φ) := by
    refine lc_pure (fun d => !memB (strD d) ys) id (seqI_t (by simp [tupD])) (by rw [List.length_map]; omega) fun d hd => ?_
    obtain ⟨x, mx, ex⟩ := List.mem_map.mp hd
    subst ex
    exact ⟨_, rfl, tst_e (by simp [wipeD, inG_e (hx x mx) hy, strD]), fun _ => ⟨.dat (.str x), by simp [wipeD], rfl⟩⟩
  rw [List.map_id, List.filter_map] at h
  have e : ((fun d => !memB (strD d) ys) ∘ PyData.str) = fun x => !memB x ys := rfl
  rw [e] at h
  have ok : Oks (xs.filter fun x => !memB x ys) := fun x m => hx x (List.mem_filter.mp m).1
  simp only [op2_e, h, bind_e, toD_own, lstM_e, nilA_e, List.length_nil]
  have f1 : Fit (.list ((xs.filter fun x => !memB x ys).map PyData.str)) 1 _ := Fit.lst (g := PyData.str) fun x m => Fit.str (ok x m)
  have f2 : Fit (.list []) 1 4 := ⟨rfl, by decide, by decide⟩
  rw [if_pos (by omega), bind_e, toD_own, eqG_e f1 f2]
  have ev : PyData.eqv (.list ((xs.filter fun x => !memB x ys).map PyData.str)) (.list []) = subL xs ys := by
    show PyData.eqvAll ((xs.filter fun x => !memB x ys).map PyData.str) ([].map PyData.str) = _
    rw [eqvAll_map fun _ _ => eqv_str]
    unfold subL
    by_cases hs : xs.all (fun x => memB x ys) = true
    · rw [hs]
      refine decide_eq_true (List.filter_eq_nil_iff.mpr fun x m => ?_)
      rw [List.all_eq_true.mp hs x m]
      decide
    · rw [Bool.not_eq_true] at hs
      rw [hs]
      refine decide_eq_false fun z => ?_
      rw [List.filter_eq_nil_iff] at z
      have t : xs.all (fun x => memB x ys) = true := List.all_eq_true.mpr fun x m => by simpa using z x m
      rw [t] at hs
      cases hs
  rw [ev]
  rfl
theorem w_greatest_e {f : List (List Str)} (hf : ∀ x ∈ f, Oks x ∧ x.length ≤ 1000) (hl : f.length < 64) (φ : FS) : m_w_greatest [.list (f.map tupD)] φ = .ok (.dat (famD (topU f)), φ) := by
  have h0 : ssM (vD 0) (soft [] (startS 4 [.list (f.map tupD)])) φ = .ok (.own ((sortU ltL f).map tupD), φ) := ssM_e (e := .dat (.list (f.map tupD))) (ds := f.map tupD) (by simp) (.inl rfl) (ssG_tup hl)
  refine fn_rt ((seq_nx (asgD_e h0 (by simp))).trans (ret_e ?_))
  have len : (sortU ltL f).length ≤ 63 := Nat.le_trans sortU_len (by omega)
  have hs : ∀ x ∈ sortU ltL f, Oks x ∧ x.length ≤ 1000 := fun x m => hf x ((mem_sortU tot_L).mp m)
  simp only [aft_nil, toD_own, start_cons, start_nil, List.set_cons_succ, List.set_cons_zero, List.replicate_succ, List.replicate_zero, soft_d, soft_o, soft_n]
  generalize hL : sortU ltL f = L at len hs ⊢
  have inner : ∀ x ∈ L, lcM [3] (seqI (vD 1)) (setN 3) (andT (tst (op2 neG (vD 3) (vD 2))) (tst (appM 2 m_w_lies (consA (vD 2) (consA (vD 3) nilA))))) (vD 3) [some (.list (f.map tupD)), some (.list (L.map tupD)), some (tupD x), none] φ =
      .ok (.own (((L.map tupD).filter fun a => decide (lotD a ≠ x) && subL x (lotD a)).map id), φ) := fun x mx => by
    refine lc_pure _ id (seqI_l (by simp)) (by rw [List.length_map]; omega) fun a ha => ?_
    obtain ⟨y, my, ey⟩ := List.mem_map.mp ha
    subst ey
    refine ⟨[some (.list (f.map tupD)), some (.list (L.map tupD)), some (tupD x), some (tupD y)], rfl, ?_, fun _ => ⟨.dat (tupD y), rfl, rfl⟩⟩
    rw [lot_tup]
    by_cases ne : y = x
    · subst ne
      simp [neG_e (Fit.lot (hs y my).1) (Fit.lot (hs y my).1), eqv_tup]
    · simp [neG_e (Fit.lot (hs y my).1) (Fit.lot (hs x mx).1), eqv_tup, ne, lies_e (hs x mx).1 (hs y my).1 (hs x mx).2]
  have outer : lcM [2] (seqI (vD 1)) (setN 2) (tst (op2 eqG (lcM [3] (seqI (vD 1)) (setN 3) (andT (tst (op2 neG (vD 3) (vD 2))) (tst (appM 2 m_w_lies (consA (vD 2) (consA (vD 3) nilA))))) (vD 3)) (lstM nilA))) (vD 2) [some (.list (f.map tupD)), some (.list (L.map tupD)), none, none] φ =
      .ok (.own (((L.map tupD).filter fun a => (L.filter fun y => decide (y ≠ lotD a) && subL (lotD a) y).isEmpty).map id), φ) := by
    refine lc_pure _ id (seqI_l (by simp)) (by rw [List.length_map]; omega) fun a ha => ?_
    obtain ⟨x, mx, ex⟩ := List.mem_map.mp ha
    subst ex
    refine ⟨[some (.list (f.map tupD)), some (.list (L.map tupD)), some (tupD x), none], rfl, ?_, fun _ => ⟨.dat (tupD x), rfl, rfl⟩⟩
    have e : ((L.map tupD).filter fun a => decide (lotD a ≠ x) && subL x (lotD a)) = (L.filter fun y => decide (y ≠ x) && subL x y).map tupD := by
      rw [List.filter_map]
      have e1 : ((fun a => decide (lotD a ≠ x) && subL x (lotD a)) ∘ tupD) = fun y => decide (y ≠ x) && subL x y := funext fun y => by
        show (decide (lotD (tupD y) ≠ x) && subL x (lotD (tupD y))) = _
        rw [lot_tup]
      rw [e1]
    have g1 : Fit (.list ((L.filter fun y => decide (y ≠ x) && subL x y).map tupD)) 2 _ := Fit.lst (g := tupD) (n := 12 * 1000 + 4) fun y m => (Fit.lot (hs y (List.mem_filter.mp m).1).1).mono (Nat.le_refl _) (by have := (hs y (List.mem_filter.mp m).1).2; omega)
    have g2 : Fit (.list []) 1 4 := ⟨rfl, by decide, by decide⟩
    simp only [tst_b, op2_e, inner x mx, bind_e, toD_own, List.map_id, lstM_e, nilA_e, List.length_nil]
    rw [e, if_pos (by omega), bind_e, toD_own, eqG_e g1 g2, bind_e]
    simp only [bind_e]
    have ev : PyData.eqv (.list ((L.filter fun y => decide (y ≠ x) && subL x y).map tupD)) (.list []) = (L.filter fun y => decide (y ≠ x) && subL x y).isEmpty := by
      cases L.filter fun y => decide (y ≠ x) && subL x y <;> rfl
    rw [ev, lot_tup]
  simp only [callM_e, consA_e, outer, bind_e, nilA_e, toD_own, tupleG_l, List.map_id]
  rw [List.filter_map]
  have e : ((fun a => (L.filter fun y => decide (y ≠ lotD a) && subL (lotD a) y).isEmpty) ∘ tupD) = fun x => (L.filter fun y => decide (y ≠ x) && subL x y).isEmpty := funext fun x => by
    show ((L.filter fun y => decide (y ≠ lotD (tupD x)) && subL (lotD (tupD x)) y).isEmpty) = _
    rw [lot_tup]
  rw [e]
  show Res.ok (EV.dat (famD (maxU L)), φ) = Res.ok (EV.dat (famD (maxU (sortU ltL f))), φ)
  rw [hL]
/-- a family of the houses -/
structure Fam (hs : List Str) (f : List (List Str)) : Prop where
  ne : f ≠ []
  few : f.length ≤ 30
  lot : ∀ x ∈ f, Asc x ∧ ∀ y ∈ x, y ∈ hs
  top : topU f = f
structure Net (hs : List Str) (fs : List (List (List Str))) : Prop where
  ok : Oks hs
  ne : hs ≠ []
  few : hs.length ≤ 12
  asc : Asc hs
  len : fs.length = hs.length
  fam : ∀ f ∈ fs, Fam hs f
theorem asc_len {xs hs : List Str} (h : Asc xs ∧ ∀ y ∈ xs, y ∈ hs) (hh : Asc hs) : xs.length ≤ hs.length := (asc_sublist h.1 hh h.2).length_le
theorem is_family_e {hs : List Str} {f : List (List Str)} (ho : Oks hs) (hn : hs.length ≤ 12) (ha : Asc hs) (F : Fam hs f) (φ : FS) : m_is_family_of [tupD hs, famD f] φ = .ok (.dat (.bool true), φ) := by
  have oks : ∀ x ∈ f, Oks x := fun x m y my => ho y ((F.lot x m).2 y my)
  have short : ∀ x ∈ f, x.length ≤ 12 := fun x m => Nat.le_trans (asc_len (F.lot x m) ha) hn
  have fit : Fit (famD f) 2 ((150 + 2) * f.length + 4) := Fit.tup (g := tupD) fun x m => (Fit.lot (oks x m)).mono (Nat.le_refl _) (by have := short x m; omega)
  have g2 : Fit (.tuple []) 1 4 := ⟨rfl, by decide, by decide⟩
  have few := F.few
  have first : orT (notT (tst (isiM "tuple" (vD 1)))) (tst (op2 eqG (vD 1) (tupM nilA))) (soft [] (startS 3 [tupD hs, famD f])) φ = .ok (false, φ) := by
    have e : PyData.eqv (famD f) (.tuple []) = false := by
      cases hf : f with
      | nil => exact absurd hf F.ne
      | cons x r => rfl
    have h1 : isiB "tuple" (famD f) = true := rfl
    simp [h1, eqG_e fit g2, e]
  refine fn_rt ((seq_nx ((if_f first).trans nxM_e)).trans (ret_e ?_))
  have h : lcM [2] (seqI (vD 1)) (setN 2) yesT (appM 2 m_is_lot_of (consA (vD 0) (consA (vD 2) nilA))) (soft [] (startS 3 [tupD hs, famD f])) φ = .ok (.own ((f.map tupD).map fun _ => PyData.bool true), φ) := by
    refine lc_all _ (seqI_t (by simp [famD])) (by rw [List.length_map]; omega) fun d hd => ?_
    obtain ⟨x, mx, ex⟩ := List.mem_map.mp hd
    subst ex
    refine ⟨_, rfl, .dat (.bool true), ?_, rfl⟩
    have s1 : subL x hs = true := subL_iff.mpr (F.lot x mx).2
    simp [wipeD, is_lot_e ho (oks x mx) (by have := short x mx; omega), s1, ascB_of (F.lot x mx).1]
  refine (andM_t (φ1 := φ) ?_).trans ?_
  · simp only [callM_e, consA_e, h, bind_e, nilA_e, toD_own, List.map_map]
    have e : f.map ((fun _ => PyData.bool true) ∘ tupD) = (f.map fun _ => true).map PyData.bool := by rw [List.map_map]; rfl
    rw [e, allG_e, bind_e, all_map]
    have e2 : (f.all fun _ => true) = true := by simp
    rw [e2]
  · simp [greatest_e (.inl rfl : famD f = .tuple (f.map tupD) ∨ _) oks (by omega), F.top, eqG_e fit fit, eqv_fam]
theorem is_name_e {x : Str} (h : Ok x) (φ : FS) : m_is_name [.str x] φ = .ok (.dat (.bool true), φ) := by
  obtain ⟨h1, h2, h3, h4, h5⟩ := h
  have ln : lenG [.str x] = .ok (.dat (.int x.length)) := if_pos (by omega)
  have first : orT (notT (tst (isiM "str" (vD 0)))) (notT (tst (chn leG leG (cD (.int 1)) (callM lenG (consA (vD 0) nilA)) (cD (.int 8))))) (soft [] (startS 2 [PyData.str x])) φ = .ok (false, φ) := by
    have c : chn leG leG (cD (.int 1)) (callM lenG (consA (vD 0) nilA)) (cD (.int 8)) [some (.str x), none] φ = .ok (.dat (.bool true), φ) :=
      chn_tt (e1 := .dat (.int 1)) (e2 := .dat (.int x.length)) (e3 := .dat (.int 8)) rfl (by simp [ln]) rfl (by
        show rb (decide ((1 : Int) ≤ (x.length : Int))) = _
        rw [decide_eq_true (by omega)]
        rfl) (by
        show rb (decide ((x.length : Int) ≤ (8 : Int))) = _
        rw [decide_eq_true (by omega)]
        rfl)
    simp [c]
  refine fn_rt ((seq_nx ((if_f first).trans nxM_e)).trans (ret_e ?_))
  have h : lcM [1] (seqI (vD 0)) (setN 1) yesT (chn leG leG (cD (.str "a")) (vD 1) (cD (.str "z"))) (soft [] (startS 2 [PyData.str x])) φ = .ok (.own ((x.cps.toList.map fun c => PyData.str ⟨#[c]⟩).map fun _ => PyData.bool true), φ) := by
    refine lc_all _ (seqI_s (by simp)) (by rw [List.length_map]; have : x.cps.toList.length = x.length := (by simp [Str.length]); omega) fun d hd => ?_
    obtain ⟨c, mc, ec⟩ := List.mem_map.mp hd
    subst ec
    have q := List.all_eq_true.mp h5 c mc
    simp only [Bool.and_eq_true, decide_eq_true_eq] at q
    exact ⟨_, rfl, .dat (.bool true), chn_tt (e1 := .dat (.str "a")) (e2 := .dat (.str ⟨#[c]⟩)) (e3 := .dat (.str "z")) rfl rfl rfl (le_one (n := 97) (by decide) q.1) (one_le (n := 122) (by decide) q.2), rfl⟩
  simp only [callM_e, consA_e, h, bind_e, nilA_e, toD_own]
  have e : ((x.cps.toList.map fun c => PyData.str ⟨#[c]⟩).map fun _ => PyData.bool true) = (x.cps.toList.map fun _ => true).map PyData.bool := by rw [List.map_map, List.map_map]; rfl
  rw [e, allG_e, bind_e, all_map]
  simp
theorem is_name_set_e {xs : List Str} (h : Oks xs) (ha : Asc xs) (hl : xs.length ≤ 1000) (φ : FS) : m_is_name_set [tupD xs] φ = .ok (.dat (.bool true), φ) := by
  refine fn_rt ((seq_nx ((if_f (φ1 := φ) (by simp [tupD])).trans nxM_e)).trans (ret_e ?_))
  have h : lcM [1] (seqI (vD 0)) (setN 1) yesT (appM 1 m_is_name (consA (vD 1) nilA)) (soft [] (startS 2 [tupD xs])) φ = .ok (.own ((xs.map PyData.str).map fun _ => PyData.bool true), φ) := by
    refine lc_all _ (seqI_t (by simp [tupD])) (by rw [List.length_map]; omega) fun d hd => ?_
    obtain ⟨x, mx, ex⟩ := List.mem_map.mp hd
    subst ex
    exact ⟨_, rfl, .dat (.bool true), by simp [wipeD, is_name_e (h x mx)], rfl⟩
  refine (andM_t (φ1 := φ) ?_).trans ?_
  · simp only [callM_e, consA_e, h, bind_e, nilA_e, toD_own, List.map_map]
    have e : xs.map ((fun _ => PyData.bool true) ∘ PyData.str) = (xs.map fun _ => true).map PyData.bool := by rw [List.map_map]; rfl
    rw [e, allG_e, bind_e, all_map]
    simp
  · simp [ascend_e (by omega : xs.length ≤ 1000000), ascB_of ha]
theorem are_houses_e {xs : List Str} (h : Oks xs) (ha : Asc xs) (hn : xs ≠ []) (hl : xs.length ≤ 1000) (φ : FS) : m_are_houses [tupD xs] φ = .ok (.dat (.bool true), φ) := by
  refine fn_rt (ret_e ((andM_t (φ1 := φ) (by simp [is_name_set_e h ha hl])).trans ?_))
  have e : PyData.eqv (tupD xs) (.tuple []) = false := by
    cases xs with
    | nil => exact absurd rfl hn
    | cons x r => rfl
  have g2 : Fit (.tuple []) 1 4 := ⟨rfl, by decide, by decide⟩
  simp [neG_e (Fit.lot h) g2, e]
theorem is_tuple_of_e {ds : List D} {n : Nat} (h : ds.length = n) (φ : FS) : m_is_tuple_of [.tuple ds, .int n] φ = .ok (.dat (.bool true), φ) := by
  refine fn_rt (ret_e ((andM_t (φ1 := φ) (by simp)).trans ?_))
  have e : eqG (.int ds.length) (.int n) = .ok (.dat (.bool true)) := by
    subst h
    unfold eqG
    rw [if_pos ⟨rfl, rfl⟩]
    show rb ((ds.length : Int) == (ds.length : Int)) = _
    rw [beq_self_eq_true]
    rfl
  simp [e]
theorem net_e {hs : List Str} {fs : List (List (List Str))} (N : Net hs fs) (φ : FS) : m_is_net [netD hs fs] φ = .ok (.dat (.bool true), φ) := by
  have few := N.few
  have first : notT (tst (appM 2 m_is_tuple_of (consA (vD 0) (consA (cD (.int 2)) nilA)))) (soft [] (startS 4 [netD hs fs])) φ = .ok (false, φ) := by
    have := is_tuple_of_e (ds := [tupD hs, .tuple (fs.map famD)]) (n := 2) rfl φ
    simp only [notT_e, tst_b, app2_e, start_cons, start_nil, soft_d, vD0, bind_e, cD_e, toD_dat]
    show Res.bind (Res.bind (m_is_tuple_of [netD hs fs, .int 2] φ) _) _ = _
    rw [show m_is_tuple_of [netD hs fs, .int 2] φ = _ from this]
    rfl
  refine fn_rt (σ1 := [some (.dat (netD hs fs)), some (.dat (tupD hs)), some (.dat (.tuple (fs.map famD))), none]) ((seq_nx ((if_f first).trans nxM_e)).trans ((seq_nx (unp_e (φ1 := φ) (ds := [tupD hs, .tuple (fs.map famD)]) (by simp [netD]) rfl)).trans ?_))
  simp only [aft_nil, List.map_cons, List.map_nil, setsE_c, setsE_n, start_cons, start_nil, List.set_cons_succ, List.set_cons_zero, List.replicate_succ, List.replicate_zero]
  have second : orT (notT (tst (appM 1 m_are_houses (consA (vD 1) nilA)))) (notT (tst (appM 2 m_is_tuple_of (consA (vD 2) (consA (callM lenG (consA (vD 1) nilA)) nilA))))) (soft [] [some (EV.dat (netD hs fs)), some (EV.dat (tupD hs)), some (EV.dat (PyData.tuple (fs.map famD))), none]) φ = .ok (false, φ) := by
    have h2 := is_tuple_of_e (ds := fs.map famD) (n := hs.length) (by rw [List.length_map]; exact N.len) φ
    have h3 : lenG [tupD hs] = .ok (.dat (.int hs.length)) := by show Res.ok (EV.dat (PyData.int (hs.map PyData.str).length)) = _; rw [List.length_map]
    simp [are_houses_e N.ok N.asc N.ne (by omega), h3, h2]
  refine (seq_nx ((if_f second).trans nxM_e)).trans (ret_e ?_)
  have h : lcM [3] (seqI (vD 2)) (setN 3) yesT (appM 2 m_is_family_of (consA (vD 1) (consA (vD 3) nilA))) (soft [] [some (EV.dat (netD hs fs)), some (EV.dat (tupD hs)), some (EV.dat (PyData.tuple (fs.map famD))), none]) φ = .ok (.own ((fs.map famD).map fun _ => PyData.bool true), φ) := by
    refine lc_all _ (seqI_t (by simp)) (by rw [List.length_map, N.len]; omega) fun d hd => ?_
    obtain ⟨f, mf, ef⟩ := List.mem_map.mp hd
    subst ef
    exact ⟨_, rfl, .dat (.bool true), by simp [wipeD, is_family_e N.ok few N.asc (N.fam f mf)], rfl⟩
  simp only [callM_e, consA_e, h, bind_e, nilA_e, toD_own, List.map_map]
  have e : fs.map ((fun _ => PyData.bool true) ∘ famD) = (fs.map fun _ => true).map PyData.bool := by rw [List.map_map]; rfl
  rw [e, allG_e, bind_e, all_map]
  simp
theorem need_e {d : D} (φ : FS) : m_need [.bool true, d] φ = .ok (.dat .none, φ) := fn_nx ((if_f (φ1 := φ) (by simp)).trans nxM_e)
theorem family_of_e {hs : List Str} {fs : List (List (List Str))} {x : Str} {i : Nat} {f : List (List Str)} (hi : hs.findIdx? (· == x) = some i) (hf : fs[i]? = some f) (φ : FS) : m_family_of [netD hs fs, .str x] φ = .ok (.dat (famD f), φ) := by
  refine fn_rt ((seq_nx (unp_e (φ1 := φ) (ds := [tupD hs, .tuple (fs.map famD)]) (by simp [netD]) rfl)).trans (ret_e ?_))
  have e : ixG (.tuple (fs.map famD)) (.int i) = .ok (.dat (famD f)) := ixG_n (by rw [List.getElem?_map, hf]; rfl)
  simp [idxG_e hi, e]
theorem crowds_of_e {hs : List Str} {fs : List (List (List Str))} {x : Str} {i : Nat} {f : List (List Str)} (hi : hs.findIdx? (· == x) = some i) (hf : fs[i]? = some f) (φ : FS) : m_w_crowds_of [netD hs fs, .str x] φ = .ok (.dat (famD f), φ) := by
  refine fn_rt (ret_e ?_)
  have e : ixG (.tuple (fs.map famD)) (.int i) = .ok (.dat (famD f)) := ixG_n (by rw [List.getElem?_map, hf]; rfl)
  have e0 : ixG (netD hs fs) (.int 0) = .ok (.dat (tupD hs)) := ixG_n (i := 0) rfl
  have e1 : ixG (netD hs fs) (.int 1) = .ok (.dat (.tuple (fs.map famD))) := ixG_n (i := 1) rfl
  simp [idxG_e hi, e, e0, e1]
theorem within_one_e {f : List (List Str)} {xs : List Str} (hf : ∀ x ∈ f, Oks x) (hx : Oks xs) (φ : FS) : m_within_one [famD f, tupD xs] φ = .ok (.dat (.bool (f.any fun y => subL xs y)), φ) := by
  have loop := forGo_find (φ := φ) (set := setNS 2) (mb := ifS [] (tst (appM 2 m_includes (consA (vD 2) (consA (vD 1) nilA)))) (retM [] (cD (.bool true))) nxM) (as := f.map tupD)
    (fun σ => ∃ o, σ = [some (.dat (famD f)), some (.dat (tupD xs)), o]) (fun d => subL xs (lotD d)) (.dat (.bool true)) (fun d hd σ ⟨o, e⟩ => by
      obtain ⟨y, my, ey⟩ := List.mem_map.mp hd
      subst ey e
      have ht : tst (appM 2 m_includes (consA (vD 2) (consA (vD 1) nilA))) (soft [] [some (.dat (famD f)), some (.dat (tupD xs)), some (.dat (tupD y))]) φ = .ok (subL xs y, φ) := tst_e (by simp [includes_e (hf y my) hx])
      rw [lot_tup]
      refine ⟨[some (.dat (famD f)), some (.dat (tupD xs)), some (.dat (tupD y))], rfl, fun hb => ?_, fun hb => ?_⟩
      · exact ⟨_, (if_t (ht.trans (by rw [hb]))).trans (ret_e rfl)⟩
      · exact ⟨_, ⟨_, rfl⟩, if_f (ht.trans (by rw [hb]))⟩)
  obtain ⟨h1, h2⟩ := loop _ ⟨none, rfl⟩
  have e : (f.map tupD).any (fun d => subL xs (lotD d)) = f.any fun y => subL xs y := by
    rw [any_map]
    simp only [lot_tup]
  cases hs : f.any fun y => subL xs y with
  | true =>
    obtain ⟨σ', k⟩ := h1 (by rw [e, hs])
    exact fn_rt (seq_rt ((for_e (seqI_t (by simp [famD]))).trans k))
  | false =>
    obtain ⟨σ', _, k⟩ := h2 (by rw [e, hs])
    exact fn_rt (seq_nx ((for_e (seqI_t (by simp [famD]))).trans k) |>.trans (ret_e rfl))
theorem Net.at {hs : List Str} {fs : List (List (List Str))} (N : Net hs fs) {x : Str} (h : x ∈ hs) : ∃ i f, hs.findIdx? (· == x) = some i ∧ fs[i]? = some f ∧ Fam hs f := by
  cases hi : hs.findIdx? (· == x) with
  | none =>
    have q := List.findIdx?_eq_none_iff.mp hi x h
    rw [beq_self_eq_true] at q
    cases q
  | some i =>
    obtain ⟨hl, _, _⟩ := List.findIdx?_eq_some_iff_getElem.mp hi
    have hl2 : i < fs.length := by rw [N.len]; exact hl
    exact ⟨i, fs[i], rfl, List.getElem?_eq_getElem hl2, N.fam _ (List.getElem_mem hl2)⟩
theorem net_at0 {hs : List Str} {fs : List (List (List Str))} : ixG (netD hs fs) (.int 0) = .ok (.dat (tupD hs)) := ixG_n (i := 0) rfl
/-- a lot of the houses -/
structure Lot (hs xs : List Str) : Prop where
  asc : Asc xs
  sub : ∀ x ∈ xs, x ∈ hs
section
variable {hs : List Str} {fs : List (List (List Str))} {x : Str} {i : Nat} {f : List (List Str)} {xs : List Str}
theorem Lot.ok (N : Net hs fs) (l : Lot hs xs) : Oks xs := fun x m => N.ok x (l.sub x m)
theorem Lot.len (N : Net hs fs) (l : Lot hs xs) : xs.length ≤ 12 := Nat.le_trans (asc_len ⟨l.asc, l.sub⟩ N.asc) N.few
theorem need_net (N : Net hs fs) {σ : EnvS} {φ : FS} (h : vD 0 (soft [] σ) φ = .ok (.dat (netD hs fs), φ)) : dropM [] (appM 2 m_need (consA (appM 1 m_is_net (consA (vD 0) nilA)) (consA (cD (.str "net")) nilA))) σ φ = .ok (.nx, σ, φ) :=
  drop_e (e := .dat .none) (by simp [h, net_e N, need_e])
theorem need_house (N : Net hs fs) (hx : x ∈ hs) {σ : EnvS} {φ : FS} (h : vD 0 (soft [] σ) φ = .ok (.dat (netD hs fs), φ)) (h1 : vD 1 (soft [] σ) φ = .ok (.dat (.str x), φ)) : dropM [] (appM 2 m_need (consA (op2 (inG false) (vD 1) (op2 ixG (vD 0) (cD (.int 0)))) (consA (cD (.str "house")) nilA))) σ φ = .ok (.nx, σ, φ) := by
  have e : memB x hs = true := memB_iff.mpr hx
  exact drop_e (e := .dat .none) (by simp [h, h1, net_at0, inG_e (N.ok x hx) N.ok, e, need_e])
theorem need_lot (N : Net hs fs) (l : Lot hs xs) {σ : EnvS} {φ : FS} {j : Nat} (h : vD 0 (soft [] σ) φ = .ok (.dat (netD hs fs), φ)) (h1 : vD j (soft [] σ) φ = .ok (.dat (tupD xs), φ)) : dropM [] (appM 2 m_need (consA (appM 2 m_is_lot_of (consA (op2 ixG (vD 0) (cD (.int 0))) (consA (vD j) nilA))) (consA (cD (.str "lot")) nilA))) σ φ = .ok (.nx, σ, φ) := by
  have s1 : subL xs hs = true := subL_iff.mpr l.sub
  have ln := l.len N
  exact drop_e (e := .dat .none) (by simp [h, h1, net_at0, is_lot_e N.ok (l.ok N) (by omega : xs.length ≤ 1000000), s1, ascB_of l.asc, need_e])
theorem lots_of_e (N : Net hs fs) (hx : x ∈ hs) (hi : hs.findIdx? (· == x) = some i) (hf : fs[i]? = some f) (φ : FS) : m_lots_of [netD hs fs, .str x] φ = .ok (.dat (famD f), φ) :=
  fn_rt ((seq_nx (need_net N (by simp))).trans ((seq_nx (need_house N hx (by simp) (by simp))).trans (ret_e (by simp [family_of_e hi hf]))))
theorem fam_oks (N : Net hs fs) (F : Fam hs f) : ∀ y ∈ f, Oks y := fun y m z mz => N.ok z ((F.lot y m).2 z mz)
theorem reckons_e (N : Net hs fs) (hx : x ∈ hs) (hi : hs.findIdx? (· == x) = some i) (hf : fs[i]? = some f) (F : Fam hs f) (l : Lot hs xs) (φ : FS) : m_reckons [netD hs fs, .str x, tupD xs] φ = .ok (.dat (.bool (f.any fun y => subL xs y)), φ) :=
  fn_rt ((seq_nx (need_net N (by simp))).trans ((seq_nx (need_house N hx (by simp) (by simp))).trans ((seq_nx (need_lot N l (by simp) (by simp))).trans (ret_e (by simp [family_of_e hi hf, within_one_e (fam_oks N F) (l.ok N)])))))
/-- by the law's own looking -/
def fears (hs : List Str) (fs : List (List (List Str))) (xs : List Str) (x : Str) : Bool := match hs.findIdx? (· == x) with
  | some i => (fs.getD i []).any fun y => subL xs y
  | none => false
theorem fears_e (hi : hs.findIdx? (· == x) = some i) (hf : fs[i]? = some f) : fears hs fs xs x = f.any fun y => subL xs y := by
  unfold fears
  rw [hi]
  dsimp only
  rw [List.getD_eq_getElem?_getD, hf]
  rfl
theorem feared_by_e (N : Net hs fs) (l : Lot hs xs) (φ : FS) : m_feared_by [netD hs fs, tupD xs] φ = .ok (.dat (tupD (hs.filter fun x => fears hs fs xs x)), φ) := by
  refine fn_rt ((seq_nx (need_net N (by simp))).trans ((seq_nx (need_lot N l (by simp) (by simp))).trans (ret_e ?_)))
  have few := N.few
  have h : lcM [2] (seqI (op2 ixG (vD 0) (cD (.int 0)))) (setN 2) (tst (appM 2 m_within_one (consA (appM 2 m_family_of (consA (vD 0) (consA (vD 2) nilA))) (consA (vD 1) nilA)))) (vD 2) (soft [] (startS 3 [netD hs fs, tupD xs])) φ =
      .ok (.own (((hs.map PyData.str).filter fun d => fears hs fs xs (strD d)).map id), φ) := by
    refine lc_pure _ id (seqI_t (ds := hs.map PyData.str) (by simp [net_at0, tupD])) (by rw [List.length_map]; omega) fun d hd => ?_
    obtain ⟨y, my, ey⟩ := List.mem_map.mp hd
    subst ey
    obtain ⟨i, f, hi, hf, F⟩ := N.at my
    refine ⟨_, rfl, tst_e ?_, fun _ => ⟨.dat (.str y), by simp [wipeD], rfl⟩⟩
    show _ = Res.ok (EV.dat (PyData.bool (fears hs fs xs y)), φ)
    rw [fears_e hi hf]
    simp [wipeD, family_of_e hi hf, within_one_e (fam_oks N F) (l.ok N)]
  simp only [callM_e, consA_e, h, bind_e, nilA_e, toD_own, tupleG_l, List.map_id]
  rw [List.filter_map]
  rfl
theorem rest_of_e (N : Net hs fs) (l : Lot hs xs) (φ : FS) : m_rest_of [netD hs fs, tupD xs] φ = .ok (.dat (tupD (hs.filter fun x => !memB x xs)), φ) := by
  have few := N.few
  exact fn_rt ((seq_nx (need_net N (by simp))).trans ((seq_nx (need_lot N l (by simp) (by simp))).trans (ret_e (by simp [net_at0, without_e N.ok (l.ok N) (by omega : hs.length ≤ 1000000)]))))
theorem same_e {d : D} {k n : Nat} (h : Fit d k n) (hk : k ≤ 64 := by omega) (hn : n ≤ 1000000 := by omega) (φ : FS) : m_w_same [d, d] φ = .ok (.dat (.bool true), φ) := by
  refine fn_rt (ret_e ?_)
  simp [h.repr hk hn, eqG_shown h]
theorem strs_app {ys zs : List Str} (h : ys.length + zs.length ≤ 1000000) : addG (.list (ys.map PyData.str)) (.list (zs.map PyData.str)) = .ok (.own ((ys ++ zs).map PyData.str)) := by
  show (if _ then _ else _) = _
  rw [if_pos (by rw [List.length_map, List.length_map]; exact h), List.map_append]
theorem any_ne_nil {α : Type} (l : List α) (b : α → Bool) : (!decide (l.filter b = [])) = l.any b := by
  induction l with
  | nil => rfl
  | cons x l ih =>
    rw [List.filter_cons, List.any_cons]
    cases h : b x with
    | true => simp
    | false => simpa using ih
theorem is_right_e (N : Net hs fs) (l : Lot hs xs) (φ : FS) : m_w_is_right [netD hs fs, tupD xs] φ = .ok (.dat (.bool true), φ) := by
  have few := N.few
  have lx := l.len N
  have turn : ∀ (acc : List Str) (y : Str) (o3 o6 : Option EV), y ∈ hs → acc.length ≤ 12 → ∃ z6, (seqM (asgD [] 6 (op2 neG (lcM [7] (seqI (appM 2 m_w_crowds_of (consA (vD 0) (consA (vD 3) nilA)))) (setN 7) (tst (appM 2 m_w_lies (consA (vD 1) (consA (vD 7) nilA)))) (vD 7)) (lstM nilA)))
      (seqM (ifS [] (notT (tst (appM 2 m_w_same (consA (lstM (consA (appM 3 m_reckons (consA (vD 0) (consA (vD 3) (consA (vD 1) nilA)))) (consA (appN [2, 1, 0] 3 m_reckons (consA (vD 1) (consA (vD 3) (consA (vD 0) nilA)))) nilA))) (consA (lstM (consA (vD 6) (consA (vD 6) nilA))) nilA))))) (retM [] (cD (.bool false))) nxM)
      (asgD [] 2 (op2 addG (vD 2) (ifM (tst (vD 6)) (lstM (consA (vD 3) nilA)) (lstM nilA))))))
      [some (.dat (netD hs fs)), some (.dat (tupD xs)), some (.dat (.list (acc.map .str))), some (.dat (.str y)), none, none, o6, none] φ =
      .ok (.nx, [some (.dat (netD hs fs)), some (.dat (tupD xs)), some (.dat (.list ((acc ++ (if fears hs fs xs y then [y] else [])).map .str))), some (.dat (.str y)), none, none, z6, none], φ) := fun acc y o3 o6 my la => by
    obtain ⟨i, f, hi, hf, F⟩ := N.at my
    have fo := fam_oks N F
    have ff := F.few
    have fl : ∀ z ∈ f, z.length ≤ 12 := fun z m => (Lot.mk (F.lot z m).1 (F.lot z m).2).len N
    -- whether some lot has it within
    have h0 : lcM [7] (seqI (appM 2 m_w_crowds_of (consA (vD 0) (consA (vD 3) nilA)))) (setN 7) (tst (appM 2 m_w_lies (consA (vD 1) (consA (vD 7) nilA)))) (vD 7) (soft [] [some (.dat (netD hs fs)), some (.dat (tupD xs)), some (.dat (.list (acc.map .str))), some (.dat (.str y)), none, none, o6, none]) φ =
        .ok (.own (((f.map tupD).filter fun a => subL xs (lotD a)).map id), φ) := by
      have ev : seqI (appM 2 m_w_crowds_of (consA (vD 0) (consA (vD 3) nilA))) (soft [] [some (.dat (netD hs fs)), some (.dat (tupD xs)), some (.dat (.list (acc.map .str))), some (.dat (.str y)), none, none, o6, none]) φ = .ok (f.map tupD, φ) := seqI_t (by simp [crowds_of_e hi hf, famD])
      have so : ∃ w6, soft [] [some (EV.dat (netD hs fs)), some (.dat (tupD xs)), some (.dat (.list (acc.map .str))), some (.dat (.str y)), none, none, o6, none] = [some (netD hs fs), some (tupD xs), some (.list (acc.map .str)), some (.str y), none, none, w6, none] := by
        cases o6 with
        | none => exact ⟨none, by simp⟩
        | some e => cases e with
          | dat d => exact ⟨some d, by simp⟩
          | own ds => exact ⟨none, by simp⟩
      obtain ⟨w6, so⟩ := so
      rw [so] at ev ⊢
      refine lc_pure _ id ev (by rw [List.length_map]; omega) fun a ha => ?_
      obtain ⟨z, mz, ez⟩ := List.mem_map.mp ha
      subst ez
      refine ⟨[some (netD hs fs), some (tupD xs), some (.list (acc.map .str)), some (.str y), none, none, w6, some (tupD z)], rfl, tst_e ?_, fun _ => ⟨.dat (tupD z), rfl, rfl⟩⟩
      simp [lies_e (l.ok N) (fo z mz) (by omega), lot_tup]
    have e0 : ((f.map tupD).filter fun a => subL xs (lotD a)) = (f.filter fun z => subL xs z).map tupD := by
      rw [List.filter_map]
      have e1 : ((fun a => subL xs (lotD a)) ∘ tupD) = fun z => subL xs z := funext fun z => by
        show subL xs (lotD (tupD z)) = _
        rw [lot_tup]
      rw [e1]
    rw [List.map_id, e0] at h0
    have g1 : Fit (.list ((f.filter fun z => subL xs z).map tupD)) 2 _ := Fit.lst (g := tupD) (n := 200) fun z m => (Fit.lot (fo z (List.mem_filter.mp m).1)).mono (Nat.le_refl _) (by have := fl z (List.mem_filter.mp m).1; omega)
    have g2 : Fit (.list []) 1 4 := ⟨rfl, by decide, by decide⟩
    have ev : PyData.eqv (.list ((f.filter fun z => subL xs z).map tupD)) (.list []) = decide (f.filter (fun z => subL xs z) = []) := by
      cases f.filter fun z => subL xs z <;> rfl
    have h1 : op2 neG (lcM [7] (seqI (appM 2 m_w_crowds_of (consA (vD 0) (consA (vD 3) nilA)))) (setN 7) (tst (appM 2 m_w_lies (consA (vD 1) (consA (vD 7) nilA)))) (vD 7)) (lstM nilA) (soft [] [some (.dat (netD hs fs)), some (.dat (tupD xs)), some (.dat (.list (acc.map .str))), some (.dat (.str y)), none, none, o6, none]) φ =
        .ok (.dat (.bool (fears hs fs xs y)), φ) := by
      simp only [op2_e, h0, bind_e, toD_own, lstM_e, nilA_e, List.length_nil]
      rw [if_pos (by omega), bind_e, toD_own, neG_e g1 g2, bind_e, ev, any_ne_nil, fears_e hi hf]
    refine ⟨some (.dat (.bool (fears hs fs xs y))), (seq_nx (asgD_e h1 (by simp))).trans ?_⟩
    simp only [aft_nil, toD_dat, List.set_cons_succ, List.set_cons_zero]
    -- what the function tells
    have r1 := reckons_e N my hi hf F l φ
    rw [← fears_e (hs := hs) hi hf] at r1
    generalize hb : fears hs fs xs y = b at r1 ⊢
    have fb : Fit (.list ([b, b].map PyData.bool)) 1 _ := Fit.lst (g := PyData.bool) (k := 0) (n := 5) fun x _ => ⟨rfl, Nat.le_refl _, Nat.le_refl _⟩
    have sm := same_e fb (by omega) (by simp) φ
    have h2 : notT (tst (appM 2 m_w_same (consA (lstM (consA (appM 3 m_reckons (consA (vD 0) (consA (vD 3) (consA (vD 1) nilA)))) (consA (appN [2, 1, 0] 3 m_reckons (consA (vD 1) (consA (vD 3) (consA (vD 0) nilA)))) nilA))) (consA (lstM (consA (vD 6) (consA (vD 6) nilA))) nilA)))) (soft [] [some (.dat (netD hs fs)), some (.dat (tupD xs)), some (.dat (.list (acc.map .str))), some (.dat (.str y)), none, none, some (.dat (.bool b)), none]) φ = .ok (false, φ) := by
      have kw : appN [2, 1, 0] 3 m_reckons (consA (vD 1) (consA (vD 3) (consA (vD 0) nilA))) (soft [] [some (.dat (netD hs fs)), some (.dat (tupD xs)), some (.dat (.list (acc.map .str))), some (.dat (.str y)), none, none, some (.dat (.bool b)), none]) φ = .ok (.dat (.bool b), φ) := by
        unfold appN
        simp [pick, r1]
      have a1 : lstM (consA (appM 3 m_reckons (consA (vD 0) (consA (vD 3) (consA (vD 1) nilA)))) (consA (appN [2, 1, 0] 3 m_reckons (consA (vD 1) (consA (vD 3) (consA (vD 0) nilA)))) nilA)) (soft [] [some (.dat (netD hs fs)), some (.dat (tupD xs)), some (.dat (.list (acc.map .str))), some (.dat (.str y)), none, none, some (.dat (.bool b)), none]) φ = .ok (.own [.bool b, .bool b], φ) := by
        exact lst2 (e1 := .dat (.bool b)) (e2 := .dat (.bool b)) (by simp [r1]) kw
      have a2 : lstM (consA (vD 6) (consA (vD 6) nilA)) (soft [] [some (.dat (netD hs fs)), some (.dat (tupD xs)), some (.dat (.list (acc.map .str))), some (.dat (.str y)), none, none, some (.dat (.bool b)), none]) φ = .ok (.own [.bool b, .bool b], φ) := by simp
      rw [notT_e, tst_b, app2_e, a1, bind_e, a2, bind_e]
      rw [show m_w_same [(EV.own [PyData.bool b, .bool b]).toD, (EV.own [PyData.bool b, .bool b]).toD] φ = _ from sm]
      rfl
    refine (seq_nx ((if_f h2).trans nxM_e)).trans ?_
    have h3 : op2 addG (vD 2) (ifM (tst (vD 6)) (lstM (consA (vD 3) nilA)) (lstM nilA)) (soft [] [some (.dat (netD hs fs)), some (.dat (tupD xs)), some (.dat (.list (acc.map .str))), some (.dat (.str y)), none, none, some (.dat (.bool b)), none]) φ = .ok (.own ((acc ++ (if b then [y] else [])).map .str), φ) := by
      cases b with
      | true => simp [show addG (.list (acc.map PyData.str)) (.list [PyData.str y]) = _ from strs_app (ys := acc) (zs := [y]) (by simp; omega)]
      | false => simp [show addG (.list (acc.map PyData.str)) (.list []) = _ from strs_app (ys := acc) (zs := []) (by simp; omega)]
    refine (asgD_e h3 (by simp)).trans ?_
    simp only [aft_nil, toD_own, List.set_cons_succ, List.set_cons_zero]
  have h0 : lstM nilA (soft [] (startS 8 [netD hs fs, tupD xs])) φ = .ok (.own [], φ) := by simp
  have loop := forGo_inv (set := setNS 3) (mb := seqM (asgD [] 6 (op2 neG (lcM [7] (seqI (appM 2 m_w_crowds_of (consA (vD 0) (consA (vD 3) nilA)))) (setN 7) (tst (appM 2 m_w_lies (consA (vD 1) (consA (vD 7) nilA)))) (vD 7)) (lstM nilA)))
      (seqM (ifS [] (notT (tst (appM 2 m_w_same (consA (lstM (consA (appM 3 m_reckons (consA (vD 0) (consA (vD 3) (consA (vD 1) nilA)))) (consA (appN [2, 1, 0] 3 m_reckons (consA (vD 1) (consA (vD 3) (consA (vD 0) nilA)))) nilA))) (consA (lstM (consA (vD 6) (consA (vD 6) nilA))) nilA))))) (retM [] (cD (.bool false))) nxM)
      (asgD [] 2 (op2 addG (vD 2) (ifM (tst (vD 6)) (lstM (consA (vD 3) nilA)) (lstM nilA))))))
    (fun done σ φ' => φ' = φ ∧ ∃ o3 o6, σ = [some (.dat (netD hs fs)), some (.dat (tupD xs)), some (.dat (.list (((done.map strD).filter fun y => fears hs fs xs y).map .str))), o3, none, none, o6, none])
    (hs.map PyData.str) [] (fun pre a post σ φ' e ⟨e1, o3, o6, e2⟩ => by
      rw [List.nil_append] at e
      have ma : a ∈ hs.map PyData.str := by rw [e]; simp
      obtain ⟨y, my, ey⟩ := List.mem_map.mp ma
      subst ey e1 e2
      have lp : pre.length ≤ 12 := by
        have q := congrArg List.length e
        rw [List.length_map, List.length_append, List.length_cons] at q
        omega
      obtain ⟨z6, k⟩ := turn ((pre.map strD).filter fun y => fears hs fs xs y) y o3 o6 my (Nat.le_trans (List.length_filter_le _ _) (by rw [List.length_map]; exact lp))
      refine ⟨_, setNS_e (by simp), _, _, k, rfl, some (.dat (.str y)), z6, ?_⟩
      have e3 : ((pre ++ [PyData.str y]).map strD).filter (fun y => fears hs fs xs y) = (pre.map strD).filter (fun y => fears hs fs xs y) ++ if fears hs fs xs y then [y] else [] := by
        rw [List.map_append, List.filter_append]
        congr 1
        show [y].filter _ = _
        rw [List.filter_cons]
        rfl
      rw [e3]) [some (.dat (netD hs fs)), some (.dat (tupD xs)), some (.dat (.list [])), none, none, none, none, none] φ ⟨rfl, none, none, rfl⟩
  obtain ⟨σ', φ', k, e1, o3, o6, e2⟩ := loop
  subst e1 e2
  rw [List.nil_append] at *
  have es : (hs.map PyData.str).map strD = hs := lot_tup hs
  rw [es] at k
  generalize hF : hs.filter (fun y => fears hs fs xs y) = Fs at k
  have lF : Fs.length ≤ 12 := by rw [← hF]; exact Nat.le_trans (List.length_filter_le _ _) few
  have fb := feared_by_e N l φ'
  rw [hF] at fb
  have rb := rest_of_e N l φ'
  generalize hR : hs.filter (fun x => !memB x xs) = Rs at rb
  have lR : Rs.length ≤ 12 := by rw [← hR]; exact Nat.le_trans (List.length_filter_le _ _) few
  have oF : Oks Fs := fun x m => N.ok x (by rw [← hF] at m; exact (List.mem_filter.mp m).1)
  have oR : Oks Rs := fun x m => N.ok x (by rw [← hR] at m; exact (List.mem_filter.mp m).1)
  have so : ∃ w3 w6 : Option D, ∀ a b c : Option EV, ∃ x4 x5, soft [] [some (EV.dat (netD hs fs)), some (.dat (tupD xs)), some (.dat (.list (Fs.map .str))), o3, a, b, o6, c] = [some (netD hs fs), some (tupD xs), some (.list (Fs.map .str)), w3, x4, x5, w6, soft1 [] 0 c] ∧ x4 = soft1 [] 0 a ∧ x5 = soft1 [] 0 b := by
    refine ⟨soft1 [] 0 o3, soft1 [] 0 o6, fun a b c => ⟨_, _, ?_, rfl, rfl⟩⟩
    simp only [soft_c, soft_n, soft1]
  obtain ⟨w3, w6, so⟩ := so
  have h4 : callM tupleG (consA (lcM [3] (seqI (op2 ixG (vD 0) (cD (.int 0)))) (setN 3) (tst (op2 (inG true) (vD 3) (vD 1))) (vD 3)) nilA) (soft [] [some (EV.dat (netD hs fs)), some (.dat (tupD xs)), some (.dat (.list (Fs.map .str))), o3, none, none, o6, none]) φ' = .ok (.dat (tupD Rs), φ') := by
    obtain ⟨x4, x5, so', _, _⟩ := so none none none
    rw [so']
    have h : lcM [3] (seqI (op2 ixG (vD 0) (cD (.int 0)))) (setN 3) (tst (op2 (inG true) (vD 3) (vD 1))) (vD 3) [some (netD hs fs), some (tupD xs), some (.list (Fs.map .str)), w3, x4, x5, w6, soft1 [] 0 none] φ' = .ok (.own (((hs.map PyData.str).filter fun d => !memB (strD d) xs).map id), φ') := by
      refine lc_pure (fun d => !memB (strD d) xs) id (seqI_t (ds := hs.map PyData.str) (by simp [net_at0, tupD])) (by rw [List.length_map]; omega) fun d hd => ?_
      obtain ⟨x, mx, ex⟩ := List.mem_map.mp hd
      subst ex
      exact ⟨_, rfl, tst_e (by simp [wipeD, inG_e (N.ok x mx) (l.ok N), strD]), fun _ => ⟨.dat (.str x), by simp [wipeD], rfl⟩⟩
    rw [List.map_id, List.filter_map] at h
    simp only [callM_e, consA_e, h, bind_e, nilA_e, toD_own, tupleG_l]
    rw [← hR]
    rfl
  have f4 : Fit (.list ([Fs, Fs, Rs, Rs].map tupD)) 2 _ := Fit.lst (g := tupD) (n := 200) fun z m => by
    have : z = Fs ∨ z = Rs := by
      simp only [List.mem_cons, List.not_mem_nil, or_false] at m
      rcases m with m | m | m | m
      · exact .inl m
      · exact .inl m
      · exact .inr m
      · exact .inr m
    rcases this with e | e <;> subst e
    · exact (Fit.lot oF).mono (Nat.le_refl _) (by omega)
    · exact (Fit.lot oR).mono (Nat.le_refl _) (by omega)
  have sm := same_e f4 (by omega) (by simp) φ'
  refine fn_rt (σ1 := [some (.dat (netD hs fs)), some (.dat (tupD xs)), some (.dat (.list (Fs.map .str))), o3, some (.dat (tupD Rs)), some (.dat (.list ([Fs, Fs, Rs, Rs].map tupD))), o6, none]) ((seq_nx (asgD_e h0 (by simp))).trans ((seq_nx ((for_e (as := hs.map PyData.str) (φ1 := φ') (seqI_t (by simp [net_at0, tupD]))).trans ?_)).trans ((seq_nx (asgD_e h4 (by simp))).trans ?_)))
  · simp only [aft_nil, settle_nil, toD_own, start_cons, start_nil, List.set_cons_succ, List.set_cons_zero, List.replicate_succ, List.replicate_zero]
    exact k
  · simp only [aft_nil, toD_dat, List.set_cons_succ, List.set_cons_zero]
    obtain ⟨x4, x5, so', e4, e5⟩ := so (some (.dat (tupD Rs))) none none
    have h5 : lstM (consA (appM 2 m_feared_by (consA (vD 0) (consA (vD 1) nilA))) (consA (appN [1, 0] 2 m_feared_by (consA (vD 1) (consA (vD 0) nilA))) (consA (appM 2 m_rest_of (consA (vD 0) (consA (vD 1) nilA))) (consA (appN [1, 0] 2 m_rest_of (consA (vD 1) (consA (vD 0) nilA))) nilA)))) (soft [] [some (EV.dat (netD hs fs)), some (.dat (tupD xs)), some (.dat (.list (Fs.map .str))), o3, some (.dat (tupD Rs)), none, o6, none]) φ' = .ok (.own ([Fs, Fs, Rs, Rs].map tupD), φ') := by
      rw [so']
      simp [appN, pick, fb, rb]
    refine (seq_nx (asgD_e h5 (by simp))).trans ?_
    simp only [aft_nil, toD_own, List.set_cons_succ, List.set_cons_zero]
    refine ret_e ?_
    obtain ⟨y4, y5, so2, e6, e7⟩ := so (some (.dat (tupD Rs))) (some (.dat (.list ([Fs, Fs, Rs, Rs].map tupD)))) none
    rw [so2, e6, e7]
    rw [app2_e]
    have a1 : vD 5 [some (netD hs fs), some (tupD xs), some (.list (Fs.map .str)), w3, soft1 [] 0 (some (.dat (tupD Rs))), soft1 [] 0 (some (.dat (.list ([Fs, Fs, Rs, Rs].map tupD)))), w6, soft1 [] 0 none] φ' = .ok (.dat (.list ([Fs, Fs, Rs, Rs].map tupD)), φ') := rfl
    have a2 : lstM (consA (callM tupleG (consA (vD 2) nilA)) (consA (callM tupleG (consA (vD 2) nilA)) (consA (vD 4) (consA (vD 4) nilA)))) [some (netD hs fs), some (tupD xs), some (.list (Fs.map .str)), w3, soft1 [] 0 (some (.dat (tupD Rs))), soft1 [] 0 (some (.dat (.list ([Fs, Fs, Rs, Rs].map tupD)))), w6, soft1 [] 0 none] φ' = .ok (.own ([Fs, Fs, Rs, Rs].map tupD), φ') := rfl
    rw [a1, bind_e, a2, bind_e]
    exact sm
end
end V03
namespace V03
open PySem PySem.Spec PyProof.Rows L2 VI
theorem shaped_ints (cs : List Int) : SeqAt.shaped (.list (cs.map .int)) = true := by
  have h1 : ∀ cs : List Int, PyData.canLayAll0 (cs.map .int) = true := fun cs => by
    induction cs with
    | nil => rfl
    | cons c cs ih => exact ih
  have h2 : PyData.depthAll (cs.map .int) ≤ 0 := depth_all fun _ _ => Nat.le_refl _
  unfold SeqAt.shaped
  have e : (PyData.list (cs.map .int)).canLay0 = true := h1 cs
  have e2 : (PyData.list (cs.map .int)).depth ≤ 64 := by
    show PyData.depthAll (cs.map .int) + 1 ≤ 64
    omega
  rw [e, decide_eq_true e2]
  rfl
theorem draw_e {n : Int} (h0 : 0 < n) (h1 : n < 2 ^ 64) (kv : List (D × D)) (φ : FS) : ∃ r φ', m_w_draw [.dict kv, .int n] φ = .ok (.dat (.int r), φ') ∧ 0 ≤ r ∧ r < n := by
  have small : ∀ z : Int, 0 ≤ z % n ∧ z % n < n := fun z => ⟨Int.emod_nonneg z (by omega), Int.emod_lt_of_pos z h0⟩
  have p1 : fpM 0 (op2 addG (fgI 0 FS.dr) (cD (.int 1))) (fun f n => { f with dr := n }) (startS 7 [.dict kv, .int n]) φ = .ok (.nx, [some (.dat (.dict kv)), some (.dat (.int n)), none, none, none, none, none], { φ with dr := φ.dr + 1 }) := fp_e (φ1 := φ) (by simp) (by simp)
  generalize { φ with dr := φ.dr + 1 } = φ1 at p1
  by_cases hl : 0 < φ1.left
  · have c1 : tst (op2 gtG (fgI 0 FS.left) (cD (.int 0))) (soft [] [some (.dat (.dict kv)), some (.dat (.int n)), none, none, none, none, none]) φ1 = .ok (true, φ1) := by simp [hl]
    have p2 : asgD [] 4 (op2 modG (callM intG (consA (fgI 0 FS.left) nilA)) (vD 1)) [some (.dat (.dict kv)), some (.dat (.int n)), none, none, none, none, none] φ1 = .ok (.nx, [some (.dat (.dict kv)), some (.dat (.int n)), none, none, some (.dat (.int (φ1.left % n))), none, none], φ1) :=
      (asgD_e (e := .dat (.int (φ1.left % n))) (φ1 := φ1) (by simp [mod_ii h0]) (by simp)).trans (by simp)
    have p3 : fpM 0 (op2 fdG (fgI 0 FS.left) (vD 1)) (fun f n => { f with left := n }) [some (.dat (.dict kv)), some (.dat (.int n)), none, none, some (.dat (.int (φ1.left % n))), none, none] φ1 = .ok (.nx, [some (.dat (.dict kv)), some (.dat (.int n)), none, none, some (.dat (.int (φ1.left % n))), none, none], { φ1 with left := φ1.left / n }) := fp_e (φ1 := φ1) (by simp [fd_ii h0 h1]) (by simp)
    exact ⟨φ1.left % n, _, fn_rt ((seq_nx p1).trans (seq_rt ((if_t c1).trans ((seq_nx p2).trans ((seq_nx p3).trans rfl))))), small _⟩
  · have c1 : tst (op2 gtG (fgI 0 FS.left) (cD (.int 0))) (soft [] [some (.dat (.dict kv)), some (.dat (.int n)), none, none, none, none, none]) φ1 = .ok (false, φ1) := by simp [hl]
    have p2 : parM [] [5, 6] (consD (fgI 0 FS.nx) (consD (fgC 0) nilE)) [some (.dat (.dict kv)), some (.dat (.int n)), none, none, none, none, none] φ1 = .ok (.nx, [some (.dat (.dict kv)), some (.dat (.int n)), none, none, none, some (.dat (.int φ1.nx)), some (.dat (.list (φ1.cells.map .int)))], φ1) :=
      (par_e (es := [.dat (.int φ1.nx), .dat (.list (φ1.cells.map .int))]) (φ1 := φ1) (by simp) rfl).trans (by simp)
    have p3 : fpM 0 (op2 addG (vD 5) (cD (.int 1))) (fun f n => { f with nx := n }) [some (.dat (.dict kv)), some (.dat (.int n)), none, none, none, some (.dat (.int φ1.nx)), some (.dat (.list (φ1.cells.map .int)))] φ1 =
        .ok (.nx, [some (.dat (.dict kv)), some (.dat (.int n)), none, none, none, some (.dat (.int φ1.nx)), some (.dat (.list (φ1.cells.map .int)))], { φ1 with nx := φ1.nx + 1 }) := fp_e (φ1 := φ1) (by simp) (by simp)
    generalize φ1.nx = ix at p2 p3
    generalize φ1.cells = cs at p2 p3
    generalize ({ cells := cs, nx := ix + 1, left := φ1.left, dr := φ1.dr } : FS) = φ2 at p3
    obtain ⟨c, p4⟩ : ∃ c : Int, ifM (tst (op2 neG (vD 6) (lstM nilA))) (op2 ixG (vD 6) (op2 modG (callM intG (consA (vD 5) nilA)) (callM lenG (consA (vD 6) nilA)))) (cD (.int 418240)) (soft [] [some (.dat (.dict kv)), some (.dat (.int n)), none, none, none, some (.dat (.int ix)), some (.dat (.list (cs.map .int)))]) φ2 = .ok (.dat (.int c), φ2) := by
      have ne : neG (.list (cs.map .int)) (.list []) = .ok (.dat (.bool (!decide (cs = [])))) := by
        unfold neG
        rw [if_pos ⟨shaped_ints cs, shaped_ints []⟩]
        cases cs <;> rfl
      by_cases hc : cs = []
      · subst hc
        simp only [List.map_nil] at ne
        exact ⟨418240, by simp [ne]⟩
      · have lp : 0 < ((cs.map PyData.int).length : Int) := by
          have := List.length_pos_iff.mpr hc
          rw [List.length_map]
          omega
        obtain ⟨d, md, ed⟩ := atI_in (ds := cs.map .int) (Int.emod_nonneg ix (by omega)) (Int.emod_lt_of_pos ix lp)
        obtain ⟨c, _, ec⟩ := List.mem_map.mp md
        subst ec
        refine ⟨c, ?_⟩
        rw [List.length_map] at ed lp
        simp [ne, hc, mod_ii lp, ed]
    have p5 := asgD_e (i := 2) p4 (by simp)
    simp only [aft_nil, toD_dat, List.set_cons_succ, List.set_cons_zero] at p5
    have pw : powG (.int 10) (.int 18) = .ok (.dat (.int 1000000000000000000)) := by
      show (if (0 ≤ (18 : Int) ∧ (18 : Int) ≤ 1000 ∧ (10 : Int).natAbs < 2 ^ 64) then Res.ok (EV.dat (PyData.int ((10 : Int) ^ (18 : Int).toNat))) else Res.bad) = _
      rw [if_pos ⟨by decide, by decide, by decide⟩]
      rfl
    obtain ⟨b, p6⟩ : ∃ b, andT (tst (op2 geG (vD 2) (op2 powG (cD (.int 10)) (cD (.int 18))))) (tst (op2 ltG (vD 5) (callM lenG (consA (vD 6) nilA)))) (soft [] [some (.dat (.dict kv)), some (.dat (.int n)), some (.dat (.int c)), none, none, some (.dat (.int ix)), some (.dat (.list (cs.map .int)))]) φ2 = .ok (b, φ2) := by
      by_cases h : (1000000000000000000 : Int) ≤ c
      · exact ⟨decide (ix < ((cs.map PyData.int).length : Int)), by simp [pw, h]⟩
      · exact ⟨false, by simp [pw, h]⟩
    cases b with
    | true =>
      have p7 : fpM 0 (op2 fdG (vD 2) (vD 1)) (fun f n => { f with left := n }) [some (.dat (.dict kv)), some (.dat (.int n)), some (.dat (.int c)), none, none, some (.dat (.int ix)), some (.dat (.list (cs.map .int)))] φ2 =
          .ok (.nx, [some (.dat (.dict kv)), some (.dat (.int n)), some (.dat (.int c)), none, none, some (.dat (.int ix)), some (.dat (.list (cs.map .int)))], { φ2 with left := c / n }) := fp_e (φ1 := φ2) (by simp [fd_ii h0 h1]) (by simp)
      have p8 : retM [] (op2 modG (callM intG (consA (vD 2) nilA)) (vD 1)) [some (.dat (.dict kv)), some (.dat (.int n)), some (.dat (.int c)), none, none, some (.dat (.int ix)), some (.dat (.list (cs.map .int)))] { φ2 with left := c / n } = .ok (.ret (.dat (.int (c % n))), _, { φ2 with left := c / n }) := ret_e (by simp [mod_ii h0])
      exact ⟨c % n, { φ2 with left := c / n }, fn_rt (σ1 := [some (.dat (.dict kv)), some (.dat (.int n)), some (.dat (.int c)), none, none, some (.dat (.int ix)), some (.dat (.list (cs.map .int)))]) ((seq_nx p1).trans ((seq_nx ((if_f c1).trans nxM_e)).trans ((seq_nx p2).trans ((seq_nx p3).trans ((seq_nx p5).trans (seq_rt ((if_t p6).trans ((seq_nx p7).trans p8)))))))), small _⟩
    | false =>
      obtain ⟨x, px⟩ : ∃ x, op2 modG (callM intG (consA (op2 addG (op2 addG (op2 mulG (op2 modG (callM intG (consA (vD 2) nilA)) (cD (.int 1000000093))) (cD (.int 7))) (op2 mulG (cD (.int 87361)) (fgI 0 FS.dr))) (cD (.int 910))) nilA)) (cD (.int 2147483647)) (soft [] [some (.dat (.dict kv)), some (.dat (.int n)), some (.dat (.int c)), none, none, some (.dat (.int ix)), some (.dat (.list (cs.map .int)))]) φ2 = .ok (.dat (.int x), φ2) ∧ 0 ≤ x ∧ x < 2147483647 := by
        refine ⟨_, ?_, Int.emod_nonneg ((c % 1000000093) * 7 + 87361 * φ2.dr + 910) (by decide), Int.emod_lt_of_pos _ (by decide)⟩
        simp [mod_ii, mul_r (show -(2 ^ 64) < (7 : Int) by decide) (by decide), mul_l (show -(2 ^ 64) < (87361 : Int) by decide) (by decide)]
      obtain ⟨px, x0, x1⟩ := px
      have p7 := asgD_e (i := 3) px (by simp)
      simp only [aft_nil, toD_dat, List.set_cons_succ, List.set_cons_zero] at p7
      obtain ⟨y, py, y0, y1⟩ : ∃ y, op2 modG (callM intG (consA (op2 addG (op2 addG (op2 mulG (vD 3) (vD 3)) (op2 mulG (cD (.int 90791)) (fgI 0 FS.dr))) (cD (.int 962))) nilA)) (cD (.int 2147483477)) (soft [] [some (.dat (.dict kv)), some (.dat (.int n)), some (.dat (.int c)), some (.dat (.int x)), none, some (.dat (.int ix)), some (.dat (.list (cs.map .int)))]) φ2 = .ok (.dat (.int y), φ2) ∧ 0 ≤ y ∧ y < 2147483477 := by
        refine ⟨_, ?_, Int.emod_nonneg (x * x + 90791 * φ2.dr + 962) (by decide), Int.emod_lt_of_pos _ (by decide)⟩
        simp [mod_ii, mul_l (show -(2 ^ 64) < x by omega) (by omega), mul_l (show -(2 ^ 64) < (90791 : Int) by decide) (by decide)]
      have p8 := asgD_e (i := 3) py (by simp)
      simp only [aft_nil, toD_dat, List.set_cons_succ, List.set_cons_zero] at p8
      have p9 : ∃ z : Int, retM [] (op2 modG (callM intG (consA (op2 fdG (op2 modG (callM intG (consA (op2 addG (op2 mulG (vD 3) (vD 3)) (op2 mulG (cD (.int 745)) (vD 3))) nilA)) (cD (.int 2147482951))) (cD (.int 32))) nilA)) (vD 1)) [some (.dat (.dict kv)), some (.dat (.int n)), some (.dat (.int c)), some (.dat (.int y)), none, some (.dat (.int ix)), some (.dat (.list (cs.map .int)))] φ2 =
          .ok (.ret (.dat (.int (z % n))), [some (.dat (.dict kv)), some (.dat (.int n)), some (.dat (.int c)), some (.dat (.int y)), none, some (.dat (.int ix)), some (.dat (.list (cs.map .int)))], φ2) := by
        refine ⟨(y * y + 745 * y) % 2147482951 / 32, ret_e ?_⟩
        simp [mod_ii, mod_ii h0, fd_ii, mul_l (show -(2 ^ 64) < y by omega) (by omega), mul_l (show -(2 ^ 64) < (745 : Int) by decide) (by decide)]
      obtain ⟨z, p9⟩ := p9
      exact ⟨z % n, φ2, fn_rt (σ1 := [some (.dat (.dict kv)), some (.dat (.int n)), some (.dat (.int c)), some (.dat (.int y)), none, some (.dat (.int ix)), some (.dat (.list (cs.map .int)))]) ((seq_nx p1).trans ((seq_nx ((if_f c1).trans nxM_e)).trans ((seq_nx p2).trans ((seq_nx p3).trans ((seq_nx p5).trans ((seq_nx ((if_f p6).trans nxM_e)).trans ((seq_nx p7).trans ((seq_nx p8).trans p9)))))))), small _⟩
end V03
namespace V03
open PySem PySem.Spec PyProof.Rows L2 VI
theorem pick_e {ds : List D} {d0 : D} (hd : d0 = .list ds ∨ d0 = .tuple ds) (h : ds ≠ []) (hl : ds.length < 2 ^ 64) (kv : List (D × D)) (φ : FS) : ∃ d φ', d ∈ ds ∧ m_w_pick [.dict kv, d0] φ = .ok (.dat d, φ') := by
  have lp := List.length_pos_iff.mpr h
  obtain ⟨r, φ', e, r0, r1⟩ := draw_e (n := (ds.length : Int)) (by omega) (by omega) kv φ
  obtain ⟨d, md, ed⟩ := atI_in (ds := ds) r0 r1
  refine ⟨d, φ', md, fn_rt (ret_e ?_)⟩
  rcases hd with hd | hd <;> subst hd
  · simp [e, ed]
  · have ed' : ixG (.tuple ds) (.int r) = .ok (.dat d) := ed
    simp [e, ed']
section
variable {α : Type} {set : α → Env' → Option Env'} {mt : MT} {me : ME} {ρ0 : Env'} {f : α → D}
theorem lcGo_some : ∀ (as : List α), (∀ a ∈ as, ∃ ρ1, set a ρ0 = some ρ1 ∧ ∀ φ, ∃ b φ', mt ρ1 φ = .ok (b, φ') ∧ me ρ1 φ' = .ok (.dat (f a), φ')) → ∀ φ, ∃ (bs : List α) (φ' : FS), lcGo set mt me ρ0 as φ = .ok (bs.map f, φ') ∧ bs.Sublist as
  | [], _, φ => ⟨[], φ, rfl, .slnil⟩
  | a :: as, h, φ => by
    obtain ⟨ρ1, h1, h2⟩ := h a List.mem_cons_self
    obtain ⟨b, φ1, h3, h4⟩ := h2 φ
    obtain ⟨bs, φ2, h5, h6⟩ := lcGo_some as (fun x m => h x (List.mem_cons_of_mem _ m)) φ1
    unfold lcGo
    rw [h1]
    dsimp only
    rw [h3, bind_e]
    cases b with
    | true =>
      rw [if_pos rfl, h4, bind_e, h5]
      exact ⟨a :: bs, φ2, rfl, h6.cons_cons a⟩
    | false =>
      rw [if_neg Bool.false_ne_true, h5]
      exact ⟨bs, φ2, rfl, h6.cons a⟩
end
theorem some_e {hs : List Str} (hl : hs.length ≤ 1000000) (t : Int) (kv : List (D × D)) (φ : FS) : ∃ ys φ', m_w_some [.dict kv, tupD hs, .int t] φ = .ok (.dat (tupD ys), φ') ∧ ys.Sublist hs := by
  have go := lcGo_some (set := setN 3) (mt := tst (op2 ltG (appM 2 m_w_draw (consA (vD 0) (consA (cD (.int 4)) nilA))) (vD 2))) (me := vD 3) (ρ0 := [some (.dict kv), some (tupD hs), some (.int t), none]) (f := id) (hs.map PyData.str) (fun a _ => ⟨[some (.dict kv), some (tupD hs), some (.int t), some a], rfl, fun φ => by
    obtain ⟨r, φ', e, _⟩ := draw_e (n := 4) (by decide) (by decide) kv φ
    exact ⟨decide (r < t), φ', by simp [e], rfl⟩⟩) φ
  obtain ⟨bs, φ', e, s⟩ := go
  obtain ⟨ys, es, ss⟩ : ∃ ys : List Str, bs = ys.map PyData.str ∧ ys.Sublist hs := by
    obtain ⟨ys, h1, h2⟩ := List.sublist_map_iff.mp s
    exact ⟨ys, h2, h1⟩
  refine ⟨ys, φ', fn_rt (ret_e ?_), ss⟩
  have h : lcM [3] (seqI (vD 1)) (setN 3) (tst (op2 ltG (appM 2 m_w_draw (consA (vD 0) (consA (cD (.int 4)) nilA))) (vD 2))) (vD 3) (soft [] (startS 4 [.dict kv, tupD hs, .int t])) φ = .ok (.own (ys.map PyData.str), φ') := by
    unfold lcM
    rw [seqI_t (ds := hs.map PyData.str) (φ1 := φ) (by simp [tupD]), bind_e]
    dsimp only
    rw [if_pos (by rw [List.length_map]; exact hl)]
    have ew : wipeD (soft [] (startS 4 [.dict kv, tupD hs, .int t])) [3] = [some (.dict kv), some (tupD hs), some (.int t), none] := by simp [wipeD]
    rw [ew, e, bind_e, List.map_id, es]
  simp only [callM_e, consA_e, h, bind_e, nilA_e, toD_own, tupleG_l]
  rfl
def POOLS : List (List Str) := [["a", "b", "c", "d", "e", "f", "g", "h"], ["a", "aa", "ab", "abc", "b", "ba", "zzzzzzzz", "zz"], ["house", "lot", "net", "fall", "v", "w", "one", "echo"]]
instance {x : Str} : Decidable (Ok x) := by unfold Ok; infer_instance
theorem pools_ok : ∀ p ∈ POOLS, p.length = 8 ∧ ∀ x ∈ p, Ok x := by decide +kernel
theorem tags_e (kv : List (D × D)) (φ : FS) : ∃ e xs φ', m_w_tags [.dict kv] φ = .ok (e, φ') ∧ e.toD = .list (xs.map PyData.str) ∧ Oks xs ∧ xs.length = 8 := by
  -- the pools
  have q1 : ∀ (rest : MS), ∃ b1 b2, b_w_tags = seqM b1 (seqM b2 (seqM (parM [1] [3, 4] (consD (appM 2 m_w_pick (consA (vD 0) (consA (vD 1) nilA))) (consD (appM 2 m_w_draw (consA (vD 0) (consA (cD (.int 8)) nilA))) nilE)))
      (seqM (asgD [] 2 (op2 addG (slM (vD 3) (soM (vD 4)) noM) (slM (vD 3) noM (soM (vD 4)))))
      (retM [] (ifM (tst (op2 eqG (appM 2 m_w_draw (consA (vD 0) (consA (cD (.int 2)) nilA))) (cD (.int 0)))) (vD 2) (revM (vD 2))))))) ∧
      b1 (startS 5 [.dict kv]) φ = .ok (.nx, [some (.dat (.dict kv)), some (.own [.list ((POOLS.getD 0 []).map .str), .list ((POOLS.getD 1 []).map .str)]), none, none, none], φ) ∧
      b2 [some (.dat (.dict kv)), some (.own [.list ((POOLS.getD 0 []).map .str), .list ((POOLS.getD 1 []).map .str)]), none, none, none] φ = .ok (.nx, [some (.dat (.dict kv)), some (.own (POOLS.map fun p => .list (p.map .str))), none, none, none], φ) := fun _ => ⟨_, _, rfl, rfl, rfl⟩
  obtain ⟨b1, b2, eb, p1, p2⟩ := q1 nxM
  obtain ⟨d, φ1, md, ed⟩ := pick_e (ds := POOLS.map fun p => .list (p.map .str)) (.inl rfl) (by decide) (by decide) kv φ
  obtain ⟨p, mp, ep⟩ := List.mem_map.mp md
  subst ep
  obtain ⟨lp, op⟩ := pools_ok p mp
  obtain ⟨r, φ2, er, r0, r1⟩ := draw_e (n := 8) (by decide) (by decide) kv φ1
  have p3 := par_e (vs := [1]) (σ := [some (.dat (.dict kv)), some (.own (POOLS.map fun p => .list (p.map .str))), none, none, none]) (is := [3, 4]) (ms := consD (appM 2 m_w_pick (consA (vD 0) (consA (vD 1) nilA))) (consD (appM 2 m_w_draw (consA (vD 0) (consA (cD (.int 8)) nilA))) nilE)) (φ := φ) (φ1 := φ2) (es := [.dat (.list (p.map .str)), .dat (.int r)]) (by
    have es : soft [1] [some (EV.dat (.dict kv)), some (.own (POOLS.map fun p => .list (p.map .str))), none, none, none] = [some (.dict kv), some (.list (POOLS.map fun p => .list (p.map .str))), none, none, none] := rfl
    rw [es]
    simp [ed, er]) rfl
  have es : settle [1] [some (EV.dat (.dict kv)), some (.own (POOLS.map fun p => .list (p.map .str))), none, none, none] = [some (.dat (.dict kv)), some (.dat (.list (POOLS.map fun p => .list (p.map .str)))), none, none, none] := rfl
  rw [es] at p3
  simp only [setsE_c, setsE_n, List.set_cons_succ, List.set_cons_zero] at p3
  obtain ⟨n, en⟩ := Int.eq_ofNat_of_zero_le r0
  subst en
  have ecat : addG (.list ((p.drop n).map .str)) (.list ((p.take n).map .str)) = .ok (.own ((p.drop n ++ p.take n).map .str)) := strs_app (by rw [List.length_drop, List.length_take]; omega)
  have p4 := asgD_e (vs := []) (i := 2) (m := op2 addG (slM (vD 3) (soM (vD 4)) noM) (slM (vD 3) noM (soM (vD 4)))) (σ := [some (.dat (.dict kv)), some (.dat (.list (POOLS.map fun p => .list (p.map .str)))), none, some (.dat (.list (p.map .str))), some (.dat (.int (n : Int)))]) (φ := φ2) (φ1 := φ2) (e := .own ((p.drop n ++ p.take n).map .str)) (by
    have c1 := cut_from (p.map PyData.str) n
    have c2 := cut_to (p.map PyData.str) n
    rw [← List.map_drop] at c1
    rw [← List.map_take] at c2
    simp only [op2_e, slM_e, soM_b, noM_e, soft_d, soft_o, soft_n, vD0, vDs, bind_e, toD_dat, slG_l, toD_own, c1, c2, ecat]) (by simp)
  simp only [aft_nil, toD_own, List.set_cons_succ, List.set_cons_zero] at p4
  generalize hq : p.drop n ++ p.take n = xs at p4
  have oxs : Oks xs := fun x m => by
    rw [← hq] at m
    rcases List.mem_append.mp m with m | m
    · exact op x (List.mem_of_mem_drop m)
    · exact op x (List.mem_of_mem_take m)
  have lxs : xs.length = 8 := by rw [← hq, List.length_append, List.length_drop, List.length_take]; omega
  obtain ⟨z, φ3, ez, z0, z1⟩ := draw_e (n := 2) (by decide) (by decide) kv φ2
  have eq0 : eqG (.int z) (.int 0) = .ok (.dat (.bool (z == 0))) := rfl
  have fin : ∃ e, ifM (tst (op2 eqG (appM 2 m_w_draw (consA (vD 0) (consA (cD (.int 2)) nilA))) (cD (.int 0)))) (vD 2) (revM (vD 2)) (soft [] [some (.dat (.dict kv)), some (.dat (.list (POOLS.map fun p => .list (p.map .str)))), some (.dat (.list (xs.map .str))), some (.dat (.list (p.map .str))), some (.dat (.int (n : Int)))]) φ2 = .ok (e, φ3) ∧ (e.toD = .list (xs.map .str) ∨ e.toD = .list (xs.reverse.map .str)) := by
    cases hz : z == 0 with
    | true => exact ⟨.dat (.list (xs.map .str)), by simp [ez, eq0, hz], .inl rfl⟩
    | false => exact ⟨.own (xs.map PyData.str).reverse, by simp [ez, eq0, hz, revM], .inr (by rw [List.map_reverse]; rfl)⟩
  obtain ⟨e, h5, h6⟩ := fin
  have all : m_w_tags [.dict kv] φ = .ok (e, φ3) := by
    unfold m_w_tags
    rw [eb]
    exact fn_rt ((seq_nx p1).trans ((seq_nx p2).trans ((seq_nx p3).trans ((seq_nx p4).trans (ret_e h5)))))
  rcases h6 with h6 | h6
  · exact ⟨e, xs, φ3, all, h6, oxs, lxs⟩
  · exact ⟨e, xs.reverse, φ3, all, h6, fun x m => oxs x (List.mem_reverse.mp m), by rw [List.length_reverse]; exact lxs⟩
end V03
namespace V03
open PySem PySem.Spec PyProof.Rows L2 VI
theorem append_e {vs : List Nat} {i : Nat} {m : ME} {σ : EnvS} {φ φ1 : FS} {e : EV} {ds : List D} (h : m (soft vs σ) φ = .ok (e, φ1)) (hs : (aft vs e σ)[i]? = some (some (.own ds))) (hl : ds.length < 1000000) : appendM vs i m σ φ = .ok (.nx, (aft vs e σ).set i (some (.own (ds ++ [e.toD]))), φ1) := by
  unfold appendM
  rw [h, bind_e]
  unfold pushAt
  rw [hs]
  dsimp only
  rw [if_pos hl]
theorem lf_map {α : Type} {g : α → D} : ∀ {xs : List α}, (∀ x ∈ xs, lfD (g x) = true) → lfAll (xs.map g) = true
  | [], _ => rfl
  | x :: xs, h => by
    show (lfD (g x) && lfAll (xs.map g)) = true
    rw [h x List.mem_cons_self, lf_map fun y m => h y (List.mem_cons_of_mem _ m)]
    rfl
theorem lf_tup (xs : List Str) : lfD (tupD xs) = true := lf_map fun _ _ => rfl
theorem lf_fam (f : List (List Str)) : lfD (famD f) = true := lf_map fun x _ => lf_tup x
theorem aft_lf {vs : List Nat} {e : EV} {σ : EnvS} (h : lfE e = true) : aft vs e σ = σ := if_pos h
theorem rng1_e {m : ME} {ρ : Env'} {φ φ1 : FS} {n : Nat} (h : m ρ φ = .ok (.dat (.int (n : Int)), φ1)) (hn : n < 1000000) : rng1I m ρ φ = .ok ((List.range n).map fun (i : Nat) => PyData.int (0 + (i : Int)), φ1) := by
  unfold rng1I
  rw [h, bind_e]
  dsimp only [toD_dat]
  rw [if_pos ⟨by omega, by omega⟩, Int.toNat_natCast]
theorem web_e (kv : List (D × D)) (φ : FS) : ∃ hs fs φ', m_w_web [.dict kv, .int 6] φ = .ok (.dat (netD hs fs), φ') ∧ Net hs fs ∧ hs.length ≤ 6 := by
  obtain ⟨e0, xs, φ1, h1, h2, ox, lx⟩ := tags_e kv φ
  obtain ⟨r, φ2, er, r0, r1⟩ := draw_e (n := 6) (by decide) (by decide) kv φ1
  obtain ⟨n, en⟩ := Int.eq_ofNat_of_zero_le r0
  subst en
  have lt : (xs.take (1 + n)).length = 1 + n := by rw [List.length_take]; omega
  generalize hH : sortU ltS (xs.take (1 + n)) = hs
  have oh : Oks hs := fun x m => ox x (List.mem_of_mem_take ((mem_sortU tot_S).mp (by rw [hH]; exact m)))
  have lh : hs.length ≤ 6 := by rw [← hH]; exact Nat.le_trans sortU_len (by omega)
  have ah : Asc hs := by rw [← hH]; exact sortU_asc tot_S _
  have nh : hs ≠ [] := fun z => by
    have hx : ∃ x, x ∈ xs.take (1 + n) := List.exists_mem_of_length_pos (by omega)
    obtain ⟨x, m⟩ := hx
    have m2 := (mem_sortU tot_S).mpr m
    rw [hH, z] at m2
    cases m2
  have p1 : parM [] [3, 4] (consD (callM tupleG (consA (ssM (slM (appM 1 m_w_tags (consA (vD 0) nilA)) noM (soM (op2 addG (cD (.int 1)) (appM 2 m_w_draw (consA (vD 0) (consA (vD 1) nilA))))))) nilA)) (consE (lstM nilA) nilE)) (startS 7 [.dict kv, .int 6]) φ =
      .ok (.nx, [some (.dat (.dict kv)), some (.dat (.int 6)), none, some (.dat (tupD hs)), some (.own []), none, none], φ2) := by
    have c : slM (appM 1 m_w_tags (consA (vD 0) nilA)) noM (soM (op2 addG (cD (.int 1)) (appM 2 m_w_draw (consA (vD 0) (consA (vD 1) nilA))))) (soft [] (startS 7 [.dict kv, .int 6])) φ = .ok (.own ((xs.take (1 + n)).map .str), φ2) := by
      have cc := cut_to (xs.map PyData.str) (1 + n)
      rw [← List.map_take] at cc
      have ee : (1 : Int) + ((n : Nat) : Int) = ((1 + n : Nat) : Int) := by omega
      simp only [slM_e, app1_e, app2_e, soM_b, noM_e, op2_e, start_cons, start_nil, soft_d, vD0, vDs, bind_e, toD_dat, h1, cD_e, er, add_ii, ee, h2, slG_l, cc]
    have s := ssM_e c (.inl rfl) (ssG_str (by omega))
    rw [hH] at s
    refine (par_e (es := [.dat (tupD hs), .own []]) (φ1 := φ2) ?_ rfl).trans (by simp)
    simp only [consD_e, callM_e, consA_e, s, bind_e, toD_own, nilA_e, tupleG_l, consE_e, lstM_e, List.length_nil, nilE_e]
    rw [if_pos (by omega)]
    rfl
  -- the lots of a house
  have soft7 : ∀ (a b c d e f g : Option EV), soft [] [a, b, c, d, e, f, g] = [soft1 [] 0 a, soft1 [] 0 b, soft1 [] 0 c, soft1 [] 0 d, soft1 [] 0 e, soft1 [] 0 f, soft1 [] 0 g] := fun a b c d e f g => by simp only [soft_c, soft_n]
  have inner : ∀ (a : D) (gs : List D) (o5 o6 : Option EV) (φ : FS), gs.length ≤ 6 → ∃ g y5 y6 φ', Fam hs g ∧
      (seqM (asgM [] 5 (lstM nilA)) (seqM (forC [] (rng1I (op2 addG (cD (.int 1)) (appM 2 m_w_draw (consA (vD 0) (consA (cD (.int 4)) nilA))))) (setNS 6) (appendM [] 5 (appM 3 m_w_some (consA (vD 0) (consA (vD 3) (consA (appM 2 m_w_pick (consA (vD 0) (consA (lstM (consA (cD (.int 0)) (consA (cD (.int 1)) (consA (cD (.int 1)) (consA (cD (.int 2)) (consA (cD (.int 2)) (consA (cD (.int 3)) (consA (cD (.int 4)) nilA)))))))) nilA))) nilA))))))
        (appendM [5] 4 (appM 1 m_w_greatest (consA (vD 5) nilA))))) [some (.dat (.dict kv)), some (.dat (.int 6)), some (.dat a), some (.dat (tupD hs)), some (.own gs), o5, o6] φ = .ok (.nx, [some (.dat (.dict kv)), some (.dat (.int 6)), some (.dat a), some (.dat (tupD hs)), some (.own (gs ++ [famD g])), y5, y6], φ') := fun a gs o5 o6 φ lg => by
    have b1 := asgM_e (vs := []) (i := 5) (m := lstM nilA) (σ := [some (.dat (.dict kv)), some (.dat (.int 6)), some (.dat a), some (.dat (tupD hs)), some (.own gs), o5, o6]) (φ := φ) (φ1 := φ) (e := .own []) rfl (by simp)
    simp only [aft_nil, List.set_cons_succ, List.set_cons_zero] at b1
    obtain ⟨z, φ1, ez, z0, z1⟩ := draw_e (n := 4) (by decide) (by decide) kv φ
    obtain ⟨k, ek⟩ := Int.eq_ofNat_of_zero_le z0
    subst ek
    have hi : rng1I (op2 addG (cD (.int 1)) (appM 2 m_w_draw (consA (vD 0) (consA (cD (.int 4)) nilA)))) (soft [] [some (.dat (.dict kv)), some (.dat (.int 6)), some (.dat a), some (.dat (tupD hs)), some (.own gs), some (.own []), o6]) φ = .ok ((List.range (1 + k)).map fun (i : Nat) => PyData.int (0 + (i : Int)), φ1) := by
      refine rng1_e ?_ (by omega)
      rw [soft7]
      have ee : (1 : Int) + ((k : Nat) : Int) = ((1 + k : Nat) : Int) := by omega
      simp only [op2_e, cD_e, bind_e, app2_e, vD0, soft1, toD_dat, ez, add_ii, ee]
    have loop := forGo_inv (set := setNS 6) (mb := appendM [] 5 (appM 3 m_w_some (consA (vD 0) (consA (vD 3) (consA (appM 2 m_w_pick (consA (vD 0) (consA (lstM (consA (cD (.int 0)) (consA (cD (.int 1)) (consA (cD (.int 1)) (consA (cD (.int 2)) (consA (cD (.int 2)) (consA (cD (.int 3)) (consA (cD (.int 4)) nilA)))))))) nilA))) nilA)))))
      (fun done σ φ => ∃ (ls : List (List Str)) (y6 : Option EV), σ = [some (.dat (.dict kv)), some (.dat (.int 6)), some (.dat a), some (.dat (tupD hs)), some (.own gs), some (.own (ls.map tupD)), y6] ∧ ls.length = done.length ∧ ∀ l ∈ ls, Lot hs l)
      ((List.range (1 + k)).map fun (i : Nat) => PyData.int (0 + (i : Int))) [] (fun pre b post σ φ e ⟨ls, y6, e2, e3, e4⟩ => by
        subst e2
        have lp : pre.length < 1 + k := by
          have q := congrArg List.length e
          rw [List.nil_append, List.length_map, List.length_range, List.length_append, List.length_cons] at q
          omega
        refine ⟨[some (.dat (.dict kv)), some (.dat (.int 6)), some (.dat a), some (.dat (tupD hs)), some (.own gs), some (.own (ls.map tupD)), some (.dat b)], rfl, ?_⟩
        obtain ⟨t, φ3, mt, et⟩ := pick_e (ds := [PyData.int 0, .int 1, .int 1, .int 2, .int 2, .int 3, .int 4]) (.inl rfl) (by simp) (by simp) kv φ
        obtain ⟨ti, eti⟩ : ∃ ti : Int, t = .int ti := by
          simp only [List.mem_cons, List.not_mem_nil, or_false] at mt
          rcases mt with q | q | q | q | q | q | q <;> exact ⟨_, q⟩
        subst eti
        obtain ⟨ys, φ4, ey, sy⟩ := some_e (hs := hs) (by omega) ti kv φ3
        have p := append_e (vs := []) (i := 5) (m := appM 3 m_w_some (consA (vD 0) (consA (vD 3) (consA (appM 2 m_w_pick (consA (vD 0) (consA (lstM (consA (cD (.int 0)) (consA (cD (.int 1)) (consA (cD (.int 1)) (consA (cD (.int 2)) (consA (cD (.int 2)) (consA (cD (.int 3)) (consA (cD (.int 4)) nilA)))))))) nilA))) nilA))))
          (σ := [some (.dat (.dict kv)), some (.dat (.int 6)), some (.dat a), some (.dat (tupD hs)), some (.own gs), some (.own (ls.map tupD)), some (.dat b)]) (φ := φ) (φ1 := φ4) (e := .dat (tupD ys)) (ds := ls.map tupD) (by
            rw [soft7]
            simp [soft1, et, ey]) (by rw [aft_nil]; rfl) (by rw [List.length_map]; omega)
        simp only [aft_nil, List.set_cons_succ, List.set_cons_zero, toD_dat] at p
        refine ⟨_, _, p, ls ++ [ys], some (.dat b), by rw [List.map_append]; rfl, by rw [List.length_append, List.length_append, e3]; rfl, fun l m => ?_⟩
        rcases List.mem_append.mp m with m | m
        · exact e4 l m
        · rw [List.mem_singleton.mp m]
          exact ⟨ah.sublist sy, fun x mx => sy.subset mx⟩) [some (.dat (.dict kv)), some (.dat (.int 6)), some (.dat a), some (.dat (tupD hs)), some (.own gs), some (.own []), o6] φ1 ⟨[], o6, rfl, rfl, fun l m => by cases m⟩
    obtain ⟨σ', φ2, k1, ls, y6, e2, e3, e4⟩ := loop
    subst e2
    rw [List.nil_append, List.length_map, List.length_range] at e3
    have b2 := forC_e (vs := []) (mb := appendM [] 5 (appM 3 m_w_some (consA (vD 0) (consA (vD 3) (consA (appM 2 m_w_pick (consA (vD 0) (consA (lstM (consA (cD (.int 0)) (consA (cD (.int 1)) (consA (cD (.int 1)) (consA (cD (.int 2)) (consA (cD (.int 2)) (consA (cD (.int 3)) (consA (cD (.int 4)) nilA)))))))) nilA))) nilA))))) (set := setNS 6) hi
    rw [k1] at b2
    have ol : ∀ l ∈ ls, Oks l ∧ l.length ≤ 1000 := fun l m => ⟨fun x mx => oh x ((e4 l m).sub x mx), by have := asc_len ⟨(e4 l m).asc, (e4 l m).sub⟩ ah; omega⟩
    have wg := w_greatest_e ol (by omega) φ2
    have p := append_e (vs := [5]) (i := 4) (m := appM 1 m_w_greatest (consA (vD 5) nilA)) (σ := [some (.dat (.dict kv)), some (.dat (.int 6)), some (.dat a), some (.dat (tupD hs)), some (.own gs), some (.own (ls.map tupD)), y6]) (φ := φ2) (φ1 := φ2) (e := .dat (famD (topU ls))) (ds := gs) (by
      have es : soft [5] [some (EV.dat (.dict kv)), some (.dat (.int 6)), some (.dat a), some (.dat (tupD hs)), some (.own gs), some (.own (ls.map tupD)), y6] = [some (.dict kv), some (.int 6), some a, some (tupD hs), none, some (.list (ls.map tupD)), soft1 [5] 6 y6] := rfl
      rw [es]
      simp [wg]) (by rw [aft_lf (show lfE (EV.dat (famD (topU ls))) = true from lf_fam _)]; rfl) (by omega)
    rw [aft_lf (show lfE (EV.dat (famD (topU ls))) = true from lf_fam _)] at p
    simp only [List.set_cons_succ, List.set_cons_zero, toD_dat] at p
    refine ⟨topU ls, some (.own (ls.map tupD)), y6, φ2, ⟨topU_ne (fun x m => (e4 x m).asc) (fun z => by rw [z] at e3; simp at e3; omega), Nat.le_trans topU_len (by omega), fun x m => ?_, topU_idem ls⟩, (seq_nx b1).trans ((seq_nx b2).trans p)⟩
    have mx := (mem_topU.mp m).1
    exact ⟨(e4 x mx).asc, (e4 x mx).sub⟩
  have loop := forGo_inv (set := setNS 2) (mb := seqM (asgM [] 5 (lstM nilA)) (seqM (forC [] (rng1I (op2 addG (cD (.int 1)) (appM 2 m_w_draw (consA (vD 0) (consA (cD (.int 4)) nilA))))) (setNS 6) (appendM [] 5 (appM 3 m_w_some (consA (vD 0) (consA (vD 3) (consA (appM 2 m_w_pick (consA (vD 0) (consA (lstM (consA (cD (.int 0)) (consA (cD (.int 1)) (consA (cD (.int 1)) (consA (cD (.int 2)) (consA (cD (.int 2)) (consA (cD (.int 3)) (consA (cD (.int 4)) nilA)))))))) nilA))) nilA))))))
        (appendM [5] 4 (appM 1 m_w_greatest (consA (vD 5) nilA)))))
    (fun done σ φ => ∃ (fs : List (List (List Str))) (y2 y5 y6 : Option EV), σ = [some (.dat (.dict kv)), some (.dat (.int 6)), y2, some (.dat (tupD hs)), some (.own (fs.map famD)), y5, y6] ∧ fs.length = done.length ∧ ∀ f ∈ fs, Fam hs f)
    (hs.map PyData.str) [] (fun pre b post σ φ e ⟨fs, y2, y5, y6, e2, e3, e4⟩ => by
      subst e2
      have lp : pre.length < hs.length := by
        have q := congrArg List.length e
        rw [List.nil_append, List.length_map, List.length_append, List.length_cons] at q
        omega
      refine ⟨[some (.dat (.dict kv)), some (.dat (.int 6)), some (.dat b), some (.dat (tupD hs)), some (.own (fs.map famD)), y5, y6], rfl, ?_⟩
      obtain ⟨g, w5, w6, φ', G, p⟩ := inner b (fs.map famD) y5 y6 φ (by rw [List.length_map]; omega)
      refine ⟨_, _, p, fs ++ [g], some (.dat b), w5, w6, by rw [List.map_append]; rfl, by rw [List.length_append, List.length_append, e3]; rfl, fun f m => ?_⟩
      rcases List.mem_append.mp m with m | m
      · exact e4 f m
      · rw [List.mem_singleton.mp m]
        exact G) [some (.dat (.dict kv)), some (.dat (.int 6)), none, some (.dat (tupD hs)), some (.own []), none, none] φ2 ⟨[], none, none, none, rfl, rfl, fun f m => by cases m⟩
  obtain ⟨σ', φ3, k1, fs, y2, y5, y6, e2, e3, e4⟩ := loop
  subst e2
  rw [List.nil_append, List.length_map] at e3
  refine ⟨hs, fs, φ3, fn_rt ((seq_nx p1).trans ((seq_nx ((for_e (vs := []) (as := hs.map PyData.str) (φ1 := φ2) (seqI_t ?_)).trans (by rw [settle_nil]; exact k1))).trans (ret_e ?_))), ⟨oh, nh, by omega, ah, e3, e4⟩, lh⟩
  · rw [soft7]
    rfl
  · have es : soft [4] [some (EV.dat (.dict kv)), some (.dat (.int 6)), y2, some (.dat (tupD hs)), some (.own (fs.map famD)), y5, y6] = [some (.dict kv), some (.int 6), soft1 [4] 2 y2, some (tupD hs), some (.list (fs.map famD)), soft1 [4] 5 y5, soft1 [4] 6 y6] := rfl
    rw [es]
    simp only [tupM_e, consA_e, vD0, vDs, bind_e, toD_dat, callM_e, nilA_e, tupleG_l, List.length_cons, List.length_nil]
    rw [if_pos (by omega)]
    rfl
end V03
namespace V03
open PySem PySem.Spec PyProof.Rows L2 VI
abbrev NetT := List Str × List (List (List Str))
def lotsOf (d : D) : List (List Str) := match d with
  | .tuple ds => ds.map lotD
  | _ => []
def famsOf (d : D) : List (List (List Str)) := match d with
  | .tuple ds => ds.map lotsOf
  | _ => []
def netOf (d : D) : NetT := match d with
  | .tuple [h, f] => (lotD h, famsOf f)
  | _ => ([], [])
def famB (hs : List Str) (f : List (List Str)) : Bool := decide (f ≠ []) && decide (f.length ≤ 30) && f.all (fun x => decide (Asc x) && x.all fun y => memB y hs) && decide (topU f = f)
def netB (n : NetT) : Bool := n.1.all (fun x => decide (Ok x)) && decide (n.1 ≠ []) && decide (n.1.length ≤ 12) && decide (Asc n.1) && decide (n.2.length = n.1.length) && n.2.all (famB n.1)
theorem netB_ok {n : NetT} (h : netB n = true) : Net n.1 n.2 := by
  unfold netB at h
  simp only [Bool.and_eq_true, decide_eq_true_eq, List.all_eq_true] at h
  obtain ⟨⟨⟨⟨⟨h1, h2⟩, h3⟩, h4⟩, h5⟩, h6⟩ := h
  refine ⟨h1, h2, h3, h4, h5, fun f m => ?_⟩
  have q := h6 f m
  unfold famB at q
  simp only [Bool.and_eq_true, decide_eq_true_eq, List.all_eq_true] at q
  obtain ⟨⟨⟨q1, q2⟩, q3⟩, q4⟩ := q
  exact ⟨q1, q2, fun x mx => ⟨(q3 x mx).1, fun y my => memB_iff.mp ((q3 x mx).2 y my)⟩, q4⟩
def cleanB (d : D) : Bool := PyData.eqv (netD (netOf d).1 (netOf d).2) d
def getOwn (r : Res (EV × FS)) : List D := match r with
  | .ok (e, _) => (match e.toD with
    | .list ds => ds
    | _ => [])
  | _ => []
def φ0 : FS := ⟨[], 0, 0, 0⟩
def HAND : List NetT :=
  [(["a", "b", "c", "d"], [[["a"], ["b"], ["c"], ["d"]], [["a"], ["b"], ["c"], ["d"]], [["a"], ["b"], ["c"], ["d"]], [["a"], ["b"], ["c"], ["d"]]]),
   (["a", "b", "c", "d"], [[["b"], ["c", "d"]], [["a"], ["b"], ["c"], ["d"]], [["a"], ["b"], ["c"], ["d"]], [["a"], ["b"], ["c"], ["d"]]]),
   (["a", "b", "c", "d"], [[["b"], ["c"]], [["a", "d"]], [["a"], ["b"]], [["c"]]]),
   (["a"], [[[]]]), (["a"], [[["a"]]]), (["a", "b"], [[["a", "b"]], [[]]]),
   (["a", "b", "c", "d", "e", "f", "g", "h", "i"], List.replicate 9 [["a", "b"], ["b", "c"], ["c", "d"], ["d", "e"], ["e", "f"], ["f", "g"], ["g", "h"], ["h", "i"]])]
theorem hand_ok : ∀ n ∈ HAND, netB n = true := by decide +kernel
theorem hand_e (φ : FS) : m_w_hand [] φ = .ok (.own (HAND.map fun n => netD n.1 n.2), φ) := by kernel_rfl
def WIDE : NetT := (["a", "b", "c", "d", "e", "f", "g", "h", "i", "j", "k", "l"], [["a", "b"], ["a", "c"], ["a", "d"], ["a", "e"], ["a", "f"], ["a", "g"], ["b", "c"], ["b", "d"], ["b", "e"], ["b", "f"], ["b", "g"], ["c", "d"], ["c", "e"], ["c", "f"], ["c", "g"], ["d", "e"], ["d", "f"], ["d", "g"], ["e", "f"], ["e", "g"], ["f", "g"], ["h", "i"]] :: List.replicate 11 [["a"]])
theorem wide_e (φ : FS) : m_w_wide [] φ = .ok (.dat (netD WIDE.1 WIDE.2), φ) := by kernel_rfl
theorem wide_ok : netB WIDE = true := by decide +kernel
end V03
namespace V03
open PySem PySem.Spec PyProof.Rows L2 VI
theorem lots_app {xs ys : List (List Str)} (h : xs.length + ys.length ≤ 1000000) : addG (.list (xs.map tupD)) (.list (ys.map tupD)) = .ok (.own ((xs ++ ys).map tupD)) := by
  show (if _ then _ else _) = _
  rw [if_pos (by rw [List.length_map, List.length_map]; exact h), List.map_append]
theorem sl_from {ρ : Env'} {φ φ1 : FS} {m : ME} {xs : List Str} {e : EV} (h : m ρ φ = .ok (e, φ1)) (he : e.toD = tupD xs) : slM m (soM (cD (.int 1))) noM ρ φ = .ok (.dat (tupD (xs.drop 1)), φ1) := by
  have c := cut1 (xs.map PyData.str)
  rw [← List.map_drop] at c
  simp only [slM_e, soM_b, cD_e, noM_e, bind_e, h, he]
  show Res.bind (slG (.tuple (xs.map .str)) (some 1) none) _ = _
  rw [slG_t, c]
  rfl
theorem sl_to {ρ : Env'} {φ φ1 : FS} {m : ME} {xs : List Str} {e : EV} (n : Nat) (h : m ρ φ = .ok (e, φ1)) (he : e.toD = tupD xs) : slM m noM (soM (cD (.int (n : Int)))) ρ φ = .ok (.dat (tupD (xs.take n)), φ1) := by
  have c := cut_to (xs.map PyData.str) n
  rw [← List.map_take] at c
  simp only [slM_e, soM_b, cD_e, noM_e, bind_e, h, he]
  show Res.bind (slG (.tuple (xs.map .str)) none (some (n : Int))) _ = _
  rw [slG_t, c]
  rfl
theorem sl_fam {ρ : Env'} {φ φ1 : FS} {m : ME} {f : List (List Str)} {e : EV} (n : Nat) (h : m ρ φ = .ok (e, φ1)) (he : e.toD = famD f) : slM m noM (soM (cD (.int (n : Int)))) ρ φ = .ok (.dat (famD (f.take n)), φ1) := by
  have c := cut_to (f.map tupD) n
  rw [← List.map_take] at c
  simp only [slM_e, soM_b, cD_e, noM_e, bind_e, h, he]
  show Res.bind (slG (.tuple (f.map tupD)) none (some (n : Int))) _ = _
  rw [slG_t, c]
  rfl
section
variable {hs : List Str} {fs : List (List (List Str))}
theorem Lot.nil : Lot hs [] := ⟨List.Pairwise.nil, fun x m => by cases m⟩
theorem Lot.all (N : Net hs fs) : Lot hs hs := ⟨N.asc, fun x m => m⟩
theorem Lot.sublist {xs ys : List Str} (l : Lot hs ys) (s : xs.Sublist ys) : Lot hs xs := ⟨l.asc.sublist s, fun x m => l.sub x (s.subset m)⟩
theorem Lot.of {f : List (List Str)} (F : Fam hs f) {x : List Str} (m : x ∈ f) : Lot hs x := ⟨(F.lot x m).1, (F.lot x m).2⟩
theorem ix_neg {ds : List D} {k : Nat} (h1 : 1 ≤ k) (h : k ≤ ds.length) : ∃ d ∈ ds, ixG (.tuple ds) (.int (-(k : Int))) = .ok (.dat d) := by
  have hn : ds.length - k < ds.length := by omega
  refine ⟨ds[ds.length - k], List.getElem_mem hn, ?_⟩
  show atD ds (-(k : Int)) = _
  unfold atD
  have e : atI ds (-(k : Int)) = some ds[ds.length - k] := by
    unfold atI
    have e1 : ixN ds.length (-(k : Int)) = some (ds.length - k) := by
      unfold ixN
      rw [if_neg (by omega), if_pos (by omega)]
      congr 1
      omega
    rw [e1]
    exact List.getElem?_eq_getElem hn
  rw [e]
/-- the lots that are asked of the wide net -/
theorem asked_wide (N : Net hs fs) (h9 : 9 < hs.length) {f0 : List (List Str)} (h0 : fs[0]? = some f0) (h2 : 2 ≤ f0.length) (kv : List (D × D)) (φ : FS) :
    ∃ e ls φ', m_w_asked [.dict kv, netD hs fs] φ = .ok (e, φ') ∧ e.toD = .list (ls.map tupD) ∧ ls ≠ [] ∧ ls.length ≤ 100 ∧ ∀ l ∈ ls, Lot hs l := by
  have few := N.few
  have F := N.fam f0 (List.mem_of_getElem? h0)
  have ff := F.few
  have i1 : ixG (netD hs fs) (.int 1) = .ok (.dat (.tuple (fs.map famD))) := ixG_n (i := 1) rfl
  have i2 : ixG (.tuple (fs.map famD)) (.int 0) = .ok (.dat (famD f0)) := ixG_n (i := 0) (by rw [List.getElem?_map, h0]; rfl)
  have ln : lenG [tupD hs] = .ok (.dat (.int hs.length)) := by show Res.ok (EV.dat (PyData.int (hs.map PyData.str).length)) = _; rw [List.length_map]
  have c : tst (op2 gtG (callM lenG (consA (op2 ixG (vD 1) (cD (.int 0))) nilA)) (cD (.int 9))) (soft [] (startS 9 [.dict kv, netD hs fs])) φ = .ok (true, φ) := by
    simp [net_at0, ln]
    omega
  have p1 := asgD_e (vs := []) (i := 4) (m := op2 ixG (op2 ixG (vD 1) (cD (.int 1))) (cD (.int 0))) (σ := startS 9 [.dict kv, netD hs fs]) (φ := φ) (φ1 := φ) (e := .dat (famD f0)) (by simp [i1, i2]) (by simp)
  have es1 : (aft [] (EV.dat (famD f0)) (startS 9 [.dict kv, netD hs fs])).set 4 (some (.dat (EV.dat (famD f0)).toD)) = [some (.dat (.dict kv)), some (.dat (netD hs fs)), none, none, some (.dat (famD f0)), none, none, none, none] := by
    rw [aft_nil]; rfl
  rw [es1] at p1
  obtain ⟨d1, m1, e1⟩ := ix_neg (ds := f0.map tupD) (k := 1) (Nat.le_refl _) (by rw [List.length_map]; omega)
  obtain ⟨d2, m2, e2⟩ := ix_neg (ds := f0.map tupD) (k := 2) (by omega) (by rw [List.length_map]; omega)
  obtain ⟨l1, n1, q1⟩ := List.mem_map.mp m1
  obtain ⟨l2, n2, q2⟩ := List.mem_map.mp m2
  subst q1 q2
  have nef : f0.map tupD ≠ [] := fun z => F.ne (List.map_eq_nil_iff.mp z)
  have lef : (f0.map tupD).length < 2 ^ 64 := by rw [List.length_map]; omega
  obtain ⟨d3, φ1, m3, e3⟩ := pick_e (d0 := famD f0) (.inr rfl) nef lef kv φ
  obtain ⟨l3, n3, q3⟩ := List.mem_map.mp m3
  obtain ⟨d4, φ2, m4, e4⟩ := pick_e (d0 := famD f0) (.inr rfl) nef lef kv φ1
  obtain ⟨l4, n4, q4⟩ := List.mem_map.mp m4
  subst q3 q4
  obtain ⟨s1, φ3, f1, t1⟩ := some_e (hs := hs) (by omega) 1 kv φ2
  obtain ⟨s2, φ4, f2, t2⟩ := some_e (hs := hs) (by omega) 2 kv φ3
  have g1 : op2 ixG (vD 4) (cD (.int (-1))) [some (.dict kv), some (netD hs fs), none, none, some (famD f0), none, none, none, none] φ = .ok (.dat (tupD l1), φ) := by
    have : ixG (famD f0) (.int (-1)) = .ok (.dat (tupD l1)) := e1
    simp [this]
  have g2 : op2 ixG (vD 4) (cD (.int (-2))) [some (.dict kv), some (netD hs fs), none, none, some (famD f0), none, none, none, none] φ = .ok (.dat (tupD l2), φ) := by
    have : ixG (famD f0) (.int (-2)) = .ok (.dat (tupD l2)) := e2
    simp [this]
  have g2' := sl_from g2 rfl
  have g3 : appM 2 m_w_pick (consA (vD 0) (consA (vD 4) nilA)) [some (.dict kv), some (netD hs fs), none, none, some (famD f0), none, none, none, none] φ = .ok (.dat (tupD l3), φ1) := by simp [e3]
  have g4 : appM 2 m_w_pick (consA (vD 0) (consA (vD 4) nilA)) [some (.dict kv), some (netD hs fs), none, none, some (famD f0), none, none, none, none] φ1 = .ok (.dat (tupD l4), φ2) := by simp [e4]
  have g4' := sl_from g4 rfl
  have p2 := asgD_e (vs := []) (i := 5) (m := lstM (consA (op2 ixG (vD 4) (cD (.int (-1)))) (consA (slM (op2 ixG (vD 4) (cD (.int (-2)))) (soM (cD (.int 1))) noM) (consA (appM 2 m_w_pick (consA (vD 0) (consA (vD 4) nilA))) (consA (slM (appM 2 m_w_pick (consA (vD 0) (consA (vD 4) nilA))) (soM (cD (.int 1))) noM) nilA)))))
    (σ := [some (.dat (.dict kv)), some (.dat (netD hs fs)), none, none, some (.dat (famD f0)), none, none, none, none]) (φ := φ) (φ1 := φ2) (e := .own ([l1, l2.drop 1, l3, l4.drop 1].map tupD)) (by
      have es : soft [] [some (EV.dat (.dict kv)), some (.dat (netD hs fs)), none, none, some (.dat (famD f0)), none, none, none, none] = [some (.dict kv), some (netD hs fs), none, none, some (famD f0), none, none, none, none] := by simp
      rw [es, lstM_e]
      simp only [consA_e]
      rw [g1, bind_e, g2', bind_e, g3, bind_e, g4']
      rfl) (by simp)
  simp only [aft_nil, toD_own, List.set_cons_succ, List.set_cons_zero] at p2
  have h1 := sl_from (ρ := [some (.dict kv), some (netD hs fs), none, none, some (famD f0), some (.list ([l1, l2.drop 1, l3, l4.drop 1].map tupD)), none, none, none]) (φ := φ2) (φ1 := φ2) (m := op2 ixG (vD 1) (cD (.int 0))) (xs := hs) (e := .dat (tupD hs)) (by simp [net_at0]) rfl
  have p3 : retM [] (op2 addG (op2 addG (lstM (consA (tupM nilA) (consA (slM (op2 ixG (vD 1) (cD (.int 0))) (soM (cD (.int 1))) noM) nilA))) (vD 5)) (lstM (consA (appM 3 m_w_some (consA (vD 0) (consA (op2 ixG (vD 1) (cD (.int 0))) (consA (cD (.int 1)) nilA)))) (consA (appM 3 m_w_some (consA (vD 0) (consA (op2 ixG (vD 1) (cD (.int 0))) (consA (cD (.int 2)) nilA)))) nilA))))
      [some (.dat (.dict kv)), some (.dat (netD hs fs)), none, none, some (.dat (famD f0)), some (.dat (.list ([l1, l2.drop 1, l3, l4.drop 1].map tupD))), none, none, none] φ2 = .ok (.ret (.own (([[], hs.drop 1] ++ [l1, l2.drop 1, l3, l4.drop 1] ++ [s1, s2]).map tupD)), [some (.dat (.dict kv)), some (.dat (netD hs fs)), none, none, some (.dat (famD f0)), some (.dat (.list ([l1, l2.drop 1, l3, l4.drop 1].map tupD))), none, none, none], φ4) := by
    refine ret_e ?_
    have es : soft [] [some (EV.dat (.dict kv)), some (.dat (netD hs fs)), none, none, some (.dat (famD f0)), some (.dat (.list ([l1, l2.drop 1, l3, l4.drop 1].map tupD))), none, none, none] = [some (.dict kv), some (netD hs fs), none, none, some (famD f0), some (.list ([l1, l2.drop 1, l3, l4.drop 1].map tupD)), none, none, none] := by simp
    rw [es]
    have a1 := lst2 (m1 := tupM nilA) (e1 := .dat (tupD [])) (φ := φ2) (φ1 := φ2) rfl h1
    have a2 := lst2 (ρ := [some (.dict kv), some (netD hs fs), none, none, some (famD f0), some (.list ([l1, l2.drop 1, l3, l4.drop 1].map tupD)), none, none, none]) (m1 := appM 3 m_w_some (consA (vD 0) (consA (op2 ixG (vD 1) (cD (.int 0))) (consA (cD (.int 1)) nilA)))) (m2 := appM 3 m_w_some (consA (vD 0) (consA (op2 ixG (vD 1) (cD (.int 0))) (consA (cD (.int 2)) nilA)))) (e1 := .dat (tupD s1)) (e2 := .dat (tupD s2)) (φ := φ2) (φ1 := φ3) (φ2 := φ4) (by simp [net_at0, f1]) (by simp [net_at0, f2])
    have b1 := lots_app (xs := [[], hs.drop 1]) (ys := [l1, l2.drop 1, l3, l4.drop 1]) (by simp)
    have b2 := lots_app (xs := [[], hs.drop 1] ++ [l1, l2.drop 1, l3, l4.drop 1]) (ys := [s1, s2]) (by simp)
    rw [op2_e, op2_e, a1, bind_e]
    simp only [vD0, vDs, bind_e, toD_dat, toD_own]
    rw [show addG (.list [tupD [], tupD (hs.drop 1)]) _ = _ from b1, bind_e]
    simp only [bind_e, toD_own]
    rw [a2, bind_e]
    show Res.bind (addG (.list (([[], hs.drop 1] ++ [l1, l2.drop 1, l3, l4.drop 1]).map tupD)) (.list ([s1, s2].map tupD))) _ = _
    rw [b2]
    rfl
  refine ⟨_, [[], hs.drop 1] ++ [l1, l2.drop 1, l3, l4.drop 1] ++ [s1, s2], φ4, fn_rt (seq_rt ((if_t c).trans ((seq_nx p1).trans ((seq_nx p2).trans p3)))), rfl, by simp, by simp, fun l m => ?_⟩
  have A := Lot.all N
  simp only [List.mem_append, List.mem_cons, List.not_mem_nil, or_false] at m
  rcases m with ((m | m) | (m | m | m | m)) | (m | m) <;> subst m
  · exact Lot.nil
  · exact A.sublist (List.drop_sublist _ _)
  · exact Lot.of F n1
  · exact (Lot.of F n2).sublist (List.drop_sublist _ _)
  · exact Lot.of F n3
  · exact (Lot.of F n4).sublist (List.drop_sublist _ _)
  · exact A.sublist t1
  · exact A.sublist t2
end
end V03
namespace V03
open PySem PySem.Spec PyProof.Rows L2 VI
theorem erase_map {α β : Type} (f : α → β) : ∀ (l : List α) (k : Nat), (l.map f).eraseIdx k = (l.eraseIdx k).map f
  | [], k => rfl
  | x :: l, 0 => rfl
  | x :: l, k + 1 => by
    rw [List.map_cons, List.eraseIdx_cons_succ, List.eraseIdx_cons_succ, List.map_cons, erase_map f l k]
theorem appPop_e {vs : List Nat} {i j : Nat} {m : ME} {σ : EnvS} {φ φ1 : FS} {n : Nat} {ds es : List D} {d : D} (h : m (soft vs σ) φ = .ok (.dat (.int (n : Int)), φ1)) (hj : σ[j]? = some (some (.own ds))) (hn : ds[n]? = some d) (hij : i ≠ j) (hi : σ[i]? = some (some (.own es))) (hl : es.length < 1000000) (hs : ds.length < 1000000) :
    appPopM vs i j m σ φ = .ok (.nx, (σ.set j (some (.own (ds.eraseIdx n)))).set i (some (.own (es ++ [d]))), φ1) := by
  have ln : n < ds.length := (List.getElem?_eq_some_iff.mp hn).1
  unfold appPopM
  rw [h, bind_e]
  dsimp only
  rw [if_pos ⟨by omega, by omega, hij⟩]
  have p : popAt j (n : Int) σ = some (d, σ.set j (some (.own (ds.eraseIdx n)))) := by
    unfold popAt
    rw [hj]
    dsimp only
    have e : seqIndex? (n : Int) ds.length = some n := by
      unfold seqIndex?
      dsimp only
      rw [if_neg (show ¬ ((n : Int) < 0) by omega)]
      simp [ln]
    rw [e]
    dsimp only
    rw [hn]
    rfl
  rw [p]
  dsimp only
  unfold pushAt
  rw [List.getElem?_set_ne (Ne.symm hij), hi]
  dsimp only
  rw [if_pos hl]
section
variable {hs : List Str} {fs : List (List (List Str))}
theorem asked_small (N : Net hs fs) (h9 : hs.length ≤ 9) (kv : List (D × D)) (φ : FS) :
    ∃ e ls φ', m_w_asked [.dict kv, netD hs fs] φ = .ok (e, φ') ∧ e.toD = .list (ls.map tupD) ∧ ls ≠ [] ∧ ls.length ≤ 100 ∧ ∀ l ∈ ls, Lot hs l := by
  have ln : lenG [tupD hs] = .ok (.dat (.int hs.length)) := by show Res.ok (EV.dat (PyData.int (hs.map PyData.str).length)) = _; rw [List.length_map]
  have A := Lot.all N
  have c : tst (op2 gtG (callM lenG (consA (op2 ixG (vD 1) (cD (.int 0))) nilA)) (cD (.int 9))) (soft [] (startS 9 [.dict kv, netD hs fs])) φ = .ok (false, φ) := by
    simp [net_at0, ln]
    omega
  have hx : op2 ixG (vD 1) (cD (.int 0)) (soft [] (startS 9 [.dict kv, netD hs fs])) φ = .ok (.dat (tupD hs), φ) := by simp [net_at0]
  have hx1 := sl_to 1 hx rfl
  have hx2 := sl_from hx rfl
  have p1 : parM [] [6, 7] (consE (lstM nilA) (consE (lstM (consA (tupM nilA) (consA (op2 ixG (vD 1) (cD (.int 0))) (consA (slM (op2 ixG (vD 1) (cD (.int 0))) noM (soM (cD (.int 1)))) (consA (slM (op2 ixG (vD 1) (cD (.int 0))) (soM (cD (.int 1))) noM) nilA))))) nilE)) (startS 9 [.dict kv, netD hs fs]) φ =
      .ok (.nx, [some (.dat (.dict kv)), some (.dat (netD hs fs)), none, none, none, none, some (.own []), some (.own ([[], hs, hs.take 1, hs.drop 1].map tupD)), none], φ) := by
    refine (par_e (es := [.own [], .own ([[], hs, hs.take 1, hs.drop 1].map tupD)]) (φ1 := φ) ?_ rfl).trans (by simp)
    rw [consE_e, show lstM nilA (soft [] (startS 9 [.dict kv, netD hs fs])) φ = .ok (.own [], φ) from rfl, bind_e, consE_e, lstM_e]
    simp only [consA_e]
    rw [show tupM nilA (soft [] (startS 9 [.dict kv, netD hs fs])) φ = .ok (.dat (tupD []), φ) from rfl, bind_e, hx, bind_e]
    rw [show slM (op2 ixG (vD 1) (cD (.int 0))) noM (soM (cD (.int 1))) (soft [] (startS 9 [.dict kv, netD hs fs])) φ = .ok (.dat (tupD (hs.take 1)), φ) from hx1, bind_e, hx2]
    rfl
  have soft9 : ∀ (a b c d e f g h i : Option EV), soft [] [a, b, c, d, e, f, g, h, i] = [soft1 [] 0 a, soft1 [] 0 b, soft1 [] 0 c, soft1 [] 0 d, soft1 [] 0 e, soft1 [] 0 f, soft1 [] 0 g, soft1 [] 0 h, soft1 [] 0 i] := fun a b c d e f g h i => by simp only [soft_c, soft_n]
  have turn : ∀ (y : Str) (ls L0 : List (List Str)) (o4 : Option EV) (φ : FS), y ∈ hs → ls.length ≤ 1000 → (∀ l ∈ ls, Lot hs l) → ∃ (ms : List (List Str)) (y4 : Option EV) (φ' : FS),
      seqM (asgD [] 4 (appM 2 m_w_crowds_of (consA (vD 1) (consA (vD 2) nilA)))) (asgM [6] 6 (op2 addG (op2 addG (op2 addG (vD 6) (callM listG (consA (slM (vD 4) noM (soM (cD (.int 4)))) nilA))) (lcM [8] (seqI (slM (vD 4) noM (soM (cD (.int 2))))) (setN 8) yesT (slM (vD 8) (soM (cD (.int 1))) noM))) (lstM (consA (appM 3 m_w_some (consA (vD 0) (consA (op2 ixG (vD 1) (cD (.int 0))) (consA (cD (.int 2)) nilA)))) nilA))))
        [some (.dat (.dict kv)), some (.dat (netD hs fs)), some (.dat (.str y)), none, o4, none, some (.own (ls.map tupD)), some (.own (L0.map tupD)), none] φ =
      .ok (.nx, [some (.dat (.dict kv)), some (.dat (netD hs fs)), some (.dat (.str y)), none, y4, none, some (.own (ms.map tupD)), some (.own (L0.map tupD)), none], φ') ∧ ms.length ≤ ls.length + 7 ∧ ls.length < ms.length ∧ ∀ l ∈ ms, Lot hs l := fun y ls L0 o4 φ my ll al => by
    obtain ⟨i, f, hi, hf, F⟩ := N.at my
    have b1 := asgD_e (vs := []) (i := 4) (m := appM 2 m_w_crowds_of (consA (vD 1) (consA (vD 2) nilA))) (σ := [some (.dat (.dict kv)), some (.dat (netD hs fs)), some (.dat (.str y)), none, o4, none, some (.own (ls.map tupD)), some (.own (L0.map tupD)), none]) (φ := φ) (φ1 := φ) (e := .dat (famD f)) (by
      rw [soft9]
      simp only [soft1, app2_e, vDs, vD0, bind_e, toD_dat, crowds_of_e hi hf]) (by simp)
    simp only [aft_nil, toD_dat, List.set_cons_succ, List.set_cons_zero] at b1
    have es : soft [6] [some (EV.dat (.dict kv)), some (.dat (netD hs fs)), some (.dat (.str y)), none, some (.dat (famD f)), none, some (.own (ls.map tupD)), some (.own (L0.map tupD)), none] = [some (.dict kv), some (netD hs fs), some (.str y), none, some (famD f), none, some (.list (ls.map tupD)), none, none] := rfl
    obtain ⟨ys, φ1, ey, sy⟩ := some_e (hs := hs) (by omega) 2 kv φ
    have v4 : vD 4 [some (.dict kv), some (netD hs fs), some (.str y), none, some (famD f), none, some (.list (ls.map tupD)), none, none] φ = .ok (.dat (famD f), φ) := rfl
    have g1 := sl_fam 4 v4 rfl
    have g2 := sl_fam 2 v4 rfl
    have a1 : callM listG (consA (slM (vD 4) noM (soM (cD (.int 4)))) nilA) [some (.dict kv), some (netD hs fs), some (.str y), none, some (famD f), none, some (.list (ls.map tupD)), none, none] φ = .ok (.own ((f.take 4).map tupD), φ) := by
      rw [callM_e, consA_e, show slM (vD 4) noM (soM (cD (.int 4))) [some (.dict kv), some (netD hs fs), some (.str y), none, some (famD f), none, some (.list (ls.map tupD)), none, none] φ = .ok (.dat (famD (f.take 4)), φ) from g1]
      rfl
    have a2 : lcM [8] (seqI (slM (vD 4) noM (soM (cD (.int 2))))) (setN 8) yesT (slM (vD 8) (soM (cD (.int 1))) noM) [some (.dict kv), some (netD hs fs), some (.str y), none, some (famD f), none, some (.list (ls.map tupD)), none, none] φ = .ok (.own (((f.take 2).map fun l => l.drop 1).map tupD), φ) := by
      have h := lc_all (own := [8]) (set := setN 8) (m := slM (vD 8) (soM (cD (.int 1))) noM) (ρ := [some (.dict kv), some (netD hs fs), some (.str y), none, some (famD f), none, some (.list (ls.map tupD)), none, none]) (φ := φ) (φ1 := φ) (mi := seqI (slM (vD 4) noM (soM (cD (.int 2))))) (as := (f.take 2).map tupD) (fun a => tupD ((lotD a).drop 1)) (seqI_t (ds := (f.take 2).map tupD) g2) (by rw [List.length_map, List.length_take]; omega) fun a ha => by
        obtain ⟨l, ml, el⟩ := List.mem_map.mp ha
        subst el
        refine ⟨[some (.dict kv), some (netD hs fs), some (.str y), none, some (famD f), none, some (.list (ls.map tupD)), none, some (tupD l)], rfl, .dat (tupD (l.drop 1)), sl_from (e := .dat (tupD l)) rfl rfl, ?_⟩
        rw [lot_tup]
        rfl
      rw [h, List.map_map, List.map_map]
      congr 4
      exact funext fun l => by
        show tupD ((lotD (tupD l)).drop 1) = _
        rw [lot_tup]
        rfl
    have a3 : lstM (consA (appM 3 m_w_some (consA (vD 0) (consA (op2 ixG (vD 1) (cD (.int 0))) (consA (cD (.int 2)) nilA)))) nilA) [some (.dict kv), some (netD hs fs), some (.str y), none, some (famD f), none, some (.list (ls.map tupD)), none, none] φ = .ok (.own ([ys].map tupD), φ1) := by
      rw [lstM_e, consA_e]
      rw [show appM 3 m_w_some (consA (vD 0) (consA (op2 ixG (vD 1) (cD (.int 0))) (consA (cD (.int 2)) nilA))) [some (.dict kv), some (netD hs fs), some (.str y), none, some (famD f), none, some (.list (ls.map tupD)), none, none] φ = .ok (.dat (tupD ys), φ1) by simp [net_at0, ey]]
      rfl
    have c1 := lots_app (xs := ls) (ys := f.take 4) (by rw [List.length_take]; omega)
    have c2 := lots_app (xs := ls ++ f.take 4) (ys := (f.take 2).map fun l => l.drop 1) (by rw [List.length_append, List.length_map, List.length_take, List.length_take]; omega)
    have c3 := lots_app (xs := ls ++ f.take 4 ++ (f.take 2).map fun l => l.drop 1) (ys := [ys]) (by rw [List.length_append, List.length_append, List.length_map, List.length_take, List.length_take, List.length_singleton]; omega)
    have b2 := asgM_e (vs := [6]) (i := 6) (m := op2 addG (op2 addG (op2 addG (vD 6) (callM listG (consA (slM (vD 4) noM (soM (cD (.int 4)))) nilA))) (lcM [8] (seqI (slM (vD 4) noM (soM (cD (.int 2))))) (setN 8) yesT (slM (vD 8) (soM (cD (.int 1))) noM))) (lstM (consA (appM 3 m_w_some (consA (vD 0) (consA (op2 ixG (vD 1) (cD (.int 0))) (consA (cD (.int 2)) nilA)))) nilA)))
      (σ := [some (.dat (.dict kv)), some (.dat (netD hs fs)), some (.dat (.str y)), none, some (.dat (famD f)), none, some (.own (ls.map tupD)), some (.own (L0.map tupD)), none]) (φ := φ) (φ1 := φ1) (e := .own ((ls ++ f.take 4 ++ ((f.take 2).map fun l => l.drop 1) ++ [ys]).map tupD)) (by
        rw [es, op2_e, op2_e, op2_e]
        rw [show vD 6 [some (.dict kv), some (netD hs fs), some (.str y), none, some (famD f), none, some (.list (ls.map tupD)), none, none] φ = .ok (.dat (.list (ls.map tupD)), φ) from rfl, bind_e, a1, bind_e]
        rw [show addG (EV.dat (.list (ls.map tupD))).toD (EV.own ((f.take 4).map tupD)).toD = _ from c1, bind_e, bind_e, a2, bind_e]
        rw [show addG (EV.own ((ls ++ f.take 4).map tupD)).toD (EV.own (((f.take 2).map fun l => l.drop 1).map tupD)).toD = _ from c2, bind_e, bind_e, a3, bind_e]
        rw [show addG (EV.own ((ls ++ f.take 4 ++ (f.take 2).map fun l => l.drop 1).map tupD)).toD (EV.own ([ys].map tupD)).toD = _ from c3]
        rfl) (by simp)
    rw [aft_lf (show lfE (EV.own ((ls ++ f.take 4 ++ ((f.take 2).map fun l => l.drop 1) ++ [ys]).map tupD)) = true from lf_map fun x _ => lf_tup x)] at b2
    simp only [List.set_cons_succ, List.set_cons_zero] at b2
    refine ⟨_, _, φ1, (seq_nx b1).trans b2, ?_, ?_, fun l m => ?_⟩
    · rw [List.length_append, List.length_append, List.length_append, List.length_map, List.length_take, List.length_take, List.length_singleton]
      omega
    · rw [List.length_append, List.length_append, List.length_append, List.length_singleton]
      omega
    · rcases List.mem_append.mp m with m | m
      · rcases List.mem_append.mp m with m | m
        · rcases List.mem_append.mp m with m | m
          · exact al l m
          · exact Lot.of F (List.mem_of_mem_take m)
        · obtain ⟨l', ml, el⟩ := List.mem_map.mp m
          subst el
          exact (Lot.of F (List.mem_of_mem_take ml)).sublist (List.drop_sublist _ _)
      · rw [List.mem_singleton.mp m]
        exact A.sublist sy
  have loop1 := forGo_inv (set := setNS 2) (mb := seqM (asgD [] 4 (appM 2 m_w_crowds_of (consA (vD 1) (consA (vD 2) nilA)))) (asgM [6] 6 (op2 addG (op2 addG (op2 addG (vD 6) (callM listG (consA (slM (vD 4) noM (soM (cD (.int 4)))) nilA))) (lcM [8] (seqI (slM (vD 4) noM (soM (cD (.int 2))))) (setN 8) yesT (slM (vD 8) (soM (cD (.int 1))) noM))) (lstM (consA (appM 3 m_w_some (consA (vD 0) (consA (op2 ixG (vD 1) (cD (.int 0))) (consA (cD (.int 2)) nilA)))) nilA)))))
    (fun done σ φ => ∃ (ls : List (List Str)) (y2 y4 : Option EV), σ = [some (.dat (.dict kv)), some (.dat (netD hs fs)), y2, none, y4, none, some (.own (ls.map tupD)), some (.own ([[], hs, hs.take 1, hs.drop 1].map tupD)), none] ∧ ls.length ≤ 7 * done.length ∧ ∀ l ∈ ls, Lot hs l)
    (hs.map PyData.str) [] (fun pre b post σ φ e ⟨ls, y2, y4, e2, e3, e4⟩ => by
      subst e2
      rw [List.nil_append] at e
      have mb : b ∈ hs.map PyData.str := by rw [e]; simp
      obtain ⟨y, my, ey⟩ := List.mem_map.mp mb
      subst ey
      have lp : pre.length < hs.length := by
        have q := congrArg List.length e
        rw [List.length_map, List.length_append, List.length_cons] at q
        omega
      refine ⟨[some (.dat (.dict kv)), some (.dat (netD hs fs)), some (.dat (.str y)), none, y4, none, some (.own (ls.map tupD)), some (.own ([[], hs, hs.take 1, hs.drop 1].map tupD)), none], rfl, ?_⟩
      obtain ⟨ms, w4, φ', p, q1, q2, q3⟩ := turn y ls [[], hs, hs.take 1, hs.drop 1] y4 φ my (by omega) e4
      refine ⟨_, _, p, ms, _, w4, rfl, ?_, q3⟩
      rw [List.length_append, List.length_singleton]
      omega) [some (.dat (.dict kv)), some (.dat (netD hs fs)), none, none, none, none, some (.own []), some (.own ([[], hs, hs.take 1, hs.drop 1].map tupD)), none] φ ⟨[], none, none, rfl, Nat.zero_le _, fun l m => by cases m⟩
  obtain ⟨σ', φ1, k1, ls, y2, y4, e2, e3, e4⟩ := loop1
  subst e2
  rw [List.nil_append, List.length_map] at e3
  have p2 := for_e (vs := []) (set := setNS 2) (mb := seqM (asgD [] 4 (appM 2 m_w_crowds_of (consA (vD 1) (consA (vD 2) nilA)))) (asgM [6] 6 (op2 addG (op2 addG (op2 addG (vD 6) (callM listG (consA (slM (vD 4) noM (soM (cD (.int 4)))) nilA))) (lcM [8] (seqI (slM (vD 4) noM (soM (cD (.int 2))))) (setN 8) yesT (slM (vD 8) (soM (cD (.int 1))) noM))) (lstM (consA (appM 3 m_w_some (consA (vD 0) (consA (op2 ixG (vD 1) (cD (.int 0))) (consA (cD (.int 2)) nilA)))) nilA)))))
    (σ := [some (.dat (.dict kv)), some (.dat (netD hs fs)), none, none, none, none, some (.own []), some (.own ([[], hs, hs.take 1, hs.drop 1].map tupD)), none]) (as := hs.map PyData.str) (φ := φ) (φ1 := φ) (mi := seqI (op2 ixG (vD 1) (cD (.int 0)))) (seqI_t (by simp [net_at0, tupD]))
  rw [settle_nil, k1] at p2
  -- a few of them, each once
  have mn : ∃ n : Nat, n ≤ 8 ∧ n ≤ ls.length ∧ rng1I (callM min2G (consA (cD (.int 8)) (consA (callM lenG (consA (vD 6) nilA)) nilA))) (soft [6] [some (.dat (.dict kv)), some (.dat (netD hs fs)), y2, none, y4, none, some (.own (ls.map tupD)), some (.own ([[], hs, hs.take 1, hs.drop 1].map tupD)), none]) φ1 = .ok ((List.range n).map fun (i : Nat) => PyData.int (0 + (i : Int)), φ1) := by
    have es : soft [6] [some (EV.dat (.dict kv)), some (.dat (netD hs fs)), y2, none, y4, none, some (.own (ls.map tupD)), some (.own ([[], hs, hs.take 1, hs.drop 1].map tupD)), none] = [some (.dict kv), some (netD hs fs), soft1 [6] 2 y2, none, soft1 [6] 4 y4, none, some (.list (ls.map tupD)), none, none] := rfl
    refine ⟨min 8 ls.length, Nat.min_le_left _ _, Nat.min_le_right _ _, rng1_e ?_ (by omega)⟩
    rw [es]
    have e : min2G [.int 8, .int ((ls.map tupD).length : Int)] = .ok (.dat (.int ((min 8 ls.length : Nat) : Int))) := by
      show Res.ok (EV.dat (PyData.int (if ((ls.map tupD).length : Int) < 8 then ((ls.map tupD).length : Int) else 8))) = _
      rw [List.length_map]
      congr 3
      split <;> omega
    simp only [callM_e, consA_e, cD_e, vDs, vD0, bind_e, toD_dat, nilA_e, lenG_l, e]
  obtain ⟨n, n8, nl, hi⟩ := mn
  have loop2 := forGo_inv (set := setNS 3) (mb := appPopM [6] 7 6 (appM 2 m_w_draw (consA (vD 0) (consA (callM lenG (consA (vD 6) nilA)) nilA))))
    (fun done σ φ => ∃ (ms fo : List (List Str)) (y3 : Option EV), σ = [some (.dat (.dict kv)), some (.dat (netD hs fs)), y2, y3, y4, none, some (.own (ms.map tupD)), some (.own (fo.map tupD)), none] ∧ ms.length + done.length = ls.length ∧ fo.length = 4 + done.length ∧ (∀ l ∈ ms, Lot hs l) ∧ ∀ l ∈ fo, Lot hs l)
    ((List.range n).map fun (i : Nat) => PyData.int (0 + (i : Int))) [] (fun pre b post σ φ e ⟨ms, fo, y3, e2, q1, q2, q3, q4⟩ => by
      subst e2
      have lp : pre.length < n := by
        have q := congrArg List.length e
        rw [List.nil_append, List.length_map, List.length_range, List.length_append, List.length_cons] at q
        omega
      refine ⟨[some (.dat (.dict kv)), some (.dat (netD hs fs)), y2, some (.dat b), y4, none, some (.own (ms.map tupD)), some (.own (fo.map tupD)), none], rfl, ?_⟩
      obtain ⟨r, φ', er, r0, r1⟩ := draw_e (n := (ms.length : Int)) (by omega) (by omega) kv φ
      obtain ⟨k, ek⟩ := Int.eq_ofNat_of_zero_le r0
      subst ek
      have hk : k < ms.length := by omega
      have es : soft [6] [some (EV.dat (.dict kv)), some (.dat (netD hs fs)), y2, some (.dat b), y4, none, some (.own (ms.map tupD)), some (.own (fo.map tupD)), none] = [some (.dict kv), some (netD hs fs), soft1 [6] 2 y2, some b, soft1 [6] 4 y4, none, some (.list (ms.map tupD)), none, none] := rfl
      have p := appPop_e (vs := [6]) (i := 7) (j := 6) (m := appM 2 m_w_draw (consA (vD 0) (consA (callM lenG (consA (vD 6) nilA)) nilA))) (σ := [some (.dat (.dict kv)), some (.dat (netD hs fs)), y2, some (.dat b), y4, none, some (.own (ms.map tupD)), some (.own (fo.map tupD)), none]) (φ := φ) (φ1 := φ') (n := k) (ds := ms.map tupD) (es := fo.map tupD) (d := tupD ms[k]) (by
        rw [es]
        simp only [app2_e, vD0, vDs, callM_e, consA_e, bind_e, toD_dat, nilA_e, lenG_l, List.length_map, er]) rfl (by rw [List.getElem?_map, List.getElem?_eq_getElem hk]; rfl) (by decide) rfl (by rw [List.length_map]; omega) (by rw [List.length_map]; omega)
      simp only [List.set_cons_succ, List.set_cons_zero] at p
      refine ⟨_, _, p, ms.eraseIdx k, fo ++ [ms[k]], some (.dat b), ?_, ?_, ?_, fun l m => q3 l (List.mem_of_mem_eraseIdx m), fun l m => ?_⟩
      · rw [List.map_append, erase_map]
        rfl
      · rw [List.length_eraseIdx_of_lt hk, List.length_append, List.length_singleton]
        omega
      · rw [List.length_append, List.length_append, q2]
        rfl
      · rcases List.mem_append.mp m with m | m
        · exact q4 l m
        · rw [List.mem_singleton.mp m]
          exact q3 _ (List.getElem_mem hk)) [some (.dat (.dict kv)), some (.dat (netD hs fs)), y2, none, y4, none, some (.own (ls.map tupD)), some (.own ([[], hs, hs.take 1, hs.drop 1].map tupD)), none] φ1
      ⟨ls, [[], hs, hs.take 1, hs.drop 1], none, rfl, rfl, rfl, e4, fun l m => by
        simp only [List.mem_cons, List.not_mem_nil, or_false] at m
        rcases m with m | m | m | m <;> subst m
        · exact Lot.nil
        · exact A
        · exact A.sublist (List.take_sublist _ _)
        · exact A.sublist (List.drop_sublist _ _)⟩
  obtain ⟨σ', φ2, k2, ms, fo, y3, e5, q1, q2, q3, q4⟩ := loop2
  subst e5
  rw [List.nil_append, List.length_map, List.length_range] at q2
  have p3 := forC_e (vs := [6]) (set := setNS 3) (mb := appPopM [6] 7 6 (appM 2 m_w_draw (consA (vD 0) (consA (callM lenG (consA (vD 6) nilA)) nilA)))) hi
  rw [k2] at p3
  refine ⟨.own (fo.map tupD), fo, φ2, fn_rt ((seq_nx ((if_f c).trans nxM_e)).trans ((seq_nx p1).trans ((seq_nx p2).trans ((seq_nx p3).trans rfl)))), rfl, fun z => by rw [z] at q2; have q5 : (0 : Nat) = 4 + n := q2; omega, by omega, q4⟩
end
end V03
namespace V03
open PySem PySem.Spec PyProof.Rows L2 VI
section
variable {hs : List Str} {fs : List (List (List Str))}
theorem asked_e (N : Net hs fs) (hw : 9 < hs.length → ∃ f0, fs[0]? = some f0 ∧ 2 ≤ f0.length) (kv : List (D × D)) (φ : FS) :
    ∃ e ls φ', m_w_asked [.dict kv, netD hs fs] φ = .ok (e, φ') ∧ e.toD = .list (ls.map tupD) ∧ ls ≠ [] ∧ ls.length ≤ 100 ∧ ∀ l ∈ ls, Lot hs l := by
  by_cases h : 9 < hs.length
  · obtain ⟨f0, h0, h2⟩ := hw h
    exact asked_wide N h h0 h2 kv φ
  · exact asked_small N (by omega) kv φ
theorem fit_fam (N : Net hs fs) {f : List (List Str)} (F : Fam hs f) : Fit (famD f) 2 5000 := by
  have ff := F.few
  exact (Fit.tup (g := tupD) (k := 1) (n := 150) fun x m => (Fit.lot (fam_oks N F x m)).mono (Nat.le_refl _) (by have := (Lot.of F m).len N; omega)).mono (Nat.le_refl _) (by omega)
theorem fit_net (N : Net hs fs) : Fit (netD hs fs) 4 70000 := by
  have few := N.few
  have len := N.len
  have f1 : Fit (tupD hs) 3 62000 := (Fit.lot N.ok).mono (by omega) (by omega)
  have f2 : Fit (.tuple (fs.map famD)) 3 62000 := (Fit.tup (g := famD) (k := 2) (n := 5000) fun f m => fit_fam N (N.fam f m)).mono (Nat.le_refl _) (by omega)
  have f3 := Fit.tup (g := id) (xs := [tupD hs, .tuple (fs.map famD)]) (k := 3) (n := 62000) fun d m => by
    simp only [List.mem_cons, List.not_mem_nil, or_false] at m
    rcases m with m | m <;> subst m
    · exact f1
    · exact f2
  exact ⟨f3.pl, f3.dp, Nat.le_trans (Nat.add_le_add_right (by
    have a := f1.sz
    have b := f2.sz
    show sz (tupD hs) + 2 + (sz (.tuple (fs.map famD)) + 2 + 0) ≤ 69996
    have c : sz (tupD hs) ≤ 12 * hs.length + 4 := (Fit.lot N.ok).sz
    omega) 4) (Nat.le_refl _)⟩
/-- one net, all that the law asks of it -/
theorem net_turn (N : Net hs fs) (hw : 9 < hs.length → ∃ f0, fs[0]? = some f0 ∧ 2 ≤ f0.length) (kv : List (D × D)) (o0 o2 o4 o5 o6 o7 o8 : Option EV) (φ : FS) : ∃ y4 y5 y6 y7 y8 φ',
    (seqM (parM [] [6, 7] (consD (callM reprG (consA (vD 3) nilA)) (consD (appM 2 m_w_asked (consA (vD 1) (consA (vD 3) nilA))) nilE)))
  (seqM (forM [] (seqI (op2 ixG (vD 3) (cD (.int 0)))) (setNS 4) (seqM (asgD [] 8 (appM 2 m_w_crowds_of (consA (vD 3) (consA (vD 4) nilA))))
  (ifS [] (notT (tst (appM 2 m_w_same (consA (lstM (consA (appM 2 m_lots_of (consA (vD 3) (consA (vD 4) nilA))) (consA (appN [1, 0] 2 m_lots_of (consA (vD 4) (consA (vD 3) nilA))) nilA))) (consA (lstM (consA (vD 8) (consA (vD 8) nilA))) nilA))))) (retM [] (cD (.bool false))) nxM)))
  (seqM (forM [] (seqI (op2 addG (vD 7) (lstM (consA (appM 2 m_w_pick (consA (vD 1) (consA (vD 7) nilA))) nilA)))) (setNS 5) (ifS [] (notT (tst (appM 2 m_w_is_right (consA (vD 3) (consA (vD 5) nilA))))) (retM [] (cD (.bool false))) nxM))
  (ifS [] (tst (op2 neG (callM reprG (consA (vD 3) nilA)) (vD 6))) (retM [] (cD (.bool false))) nxM))))
    [none, some (.dat (.dict kv)), o2, some (.dat (netD hs fs)), o4, o5, o6, o7, o8, none] φ = .ok (.nx, [none, some (.dat (.dict kv)), o2, some (.dat (netD hs fs)), y4, y5, y6, y7, y8, none], φ') := by
  have soft10 : ∀ (a b c d e f g h i j : Option EV), soft [] [a, b, c, d, e, f, g, h, i, j] = [soft1 [] 0 a, soft1 [] 0 b, soft1 [] 0 c, soft1 [] 0 d, soft1 [] 0 e, soft1 [] 0 f, soft1 [] 0 g, soft1 [] 0 h, soft1 [] 0 i, soft1 [] 0 j] := fun a b c d e f g h i j => by simp only [soft_c, soft_n]
  have few := N.few
  obtain ⟨e, ls, φ1, h1, h2, nl, ll, al⟩ := asked_e N hw kv φ
  have rp := (fit_net N).repr
  have p1 := par_e (vs := []) (is := [6, 7]) (ms := consD (callM reprG (consA (vD 3) nilA)) (consD (appM 2 m_w_asked (consA (vD 1) (consA (vD 3) nilA))) nilE)) (σ := [none, some (.dat (.dict kv)), o2, some (.dat (netD hs fs)), o4, o5, o6, o7, o8, none]) (φ := φ) (φ1 := φ1) (es := [.dat (.str (netD hs fs).shown), .dat (.list (ls.map tupD))]) (by
    rw [soft10]
    simp only [consD_e, callM_e, consA_e, vDs, soft1, vD0, bind_e, toD_dat, nilA_e, rp, app2_e, h1, nilE_e, h2]) rfl
  simp only [settle_nil, setsE_c, setsE_n, List.set_cons_succ, List.set_cons_zero] at p1
  -- the houses
  have loop1 := forGo_inv (set := setNS 4) (mb := seqM (asgD [] 8 (appM 2 m_w_crowds_of (consA (vD 3) (consA (vD 4) nilA))))
  (ifS [] (notT (tst (appM 2 m_w_same (consA (lstM (consA (appM 2 m_lots_of (consA (vD 3) (consA (vD 4) nilA))) (consA (appN [1, 0] 2 m_lots_of (consA (vD 4) (consA (vD 3) nilA))) nilA))) (consA (lstM (consA (vD 8) (consA (vD 8) nilA))) nilA))))) (retM [] (cD (.bool false))) nxM))
    (fun _ σ φ' => ∃ y4 y8, σ = [none, some (.dat (.dict kv)), o2, some (.dat (netD hs fs)), y4, o5, some (.dat (.str (netD hs fs).shown)), some (.dat (.list (ls.map tupD))), y8, none])
    (hs.map PyData.str) [] (fun pre b post σ φ' e2 ⟨y4, y8, e3⟩ => by
      subst e3
      rw [List.nil_append] at e2
      have mb : b ∈ hs.map PyData.str := by rw [e2]; simp
      obtain ⟨y, my, ey⟩ := List.mem_map.mp mb
      subst ey
      obtain ⟨i, f, hi, hf, F⟩ := N.at my
      refine ⟨[none, some (.dat (.dict kv)), o2, some (.dat (netD hs fs)), some (.dat (.str y)), o5, some (.dat (.str (netD hs fs).shown)), some (.dat (.list (ls.map tupD))), y8, none], rfl, ?_⟩
      have b1 := asgD_e (vs := []) (i := 8) (m := appM 2 m_w_crowds_of (consA (vD 3) (consA (vD 4) nilA))) (σ := [none, some (.dat (.dict kv)), o2, some (.dat (netD hs fs)), some (.dat (.str y)), o5, some (.dat (.str (netD hs fs).shown)), some (.dat (.list (ls.map tupD))), y8, none]) (φ := φ') (φ1 := φ') (e := .dat (famD f)) (by
        rw [soft10]
        simp only [app2_e, vDs, vD0, soft1, bind_e, toD_dat, crowds_of_e hi hf]) (by simp)
      simp only [aft_nil, toD_dat, List.set_cons_succ, List.set_cons_zero] at b1
      have ff := Fit.lst (g := famD) (xs := [f, f]) (k := 2) (n := 5000) fun g m => by
        have : g = f := by simpa using m
        rw [this]
        exact fit_fam N F
      have sm := same_e ff (by omega) (by simp) φ'
      have lo := lots_of_e N my hi hf φ'
      have t : notT (tst (appM 2 m_w_same (consA (lstM (consA (appM 2 m_lots_of (consA (vD 3) (consA (vD 4) nilA))) (consA (appN [1, 0] 2 m_lots_of (consA (vD 4) (consA (vD 3) nilA))) nilA))) (consA (lstM (consA (vD 8) (consA (vD 8) nilA))) nilA)))) (soft [] [none, some (.dat (.dict kv)), o2, some (.dat (netD hs fs)), some (.dat (.str y)), o5, some (.dat (.str (netD hs fs).shown)), some (.dat (.list (ls.map tupD))), some (.dat (famD f)), none]) φ' = .ok (false, φ') := by
        rw [soft10]
        have a1 := lst2 (ρ := [soft1 [] 0 none, soft1 [] 0 (some (.dat (.dict kv))), soft1 [] 0 o2, soft1 [] 0 (some (.dat (netD hs fs))), soft1 [] 0 (some (.dat (.str y))), soft1 [] 0 o5, soft1 [] 0 (some (.dat (.str (netD hs fs).shown))), soft1 [] 0 (some (.dat (.list (ls.map tupD)))), soft1 [] 0 (some (.dat (famD f))), soft1 [] 0 none]) (φ := φ') (φ1 := φ') (φ2 := φ') (m1 := appM 2 m_lots_of (consA (vD 3) (consA (vD 4) nilA))) (m2 := appN [1, 0] 2 m_lots_of (consA (vD 4) (consA (vD 3) nilA))) (e1 := .dat (famD f)) (e2 := .dat (famD f)) (by
          simp only [app2_e, vDs, vD0, soft1, bind_e, toD_dat, lo]) (by
          unfold appN
          simp [pick, soft1, lo])
        have a2 := lst2 (ρ := [soft1 [] 0 none, soft1 [] 0 (some (.dat (.dict kv))), soft1 [] 0 o2, soft1 [] 0 (some (.dat (netD hs fs))), soft1 [] 0 (some (.dat (.str y))), soft1 [] 0 o5, soft1 [] 0 (some (.dat (.str (netD hs fs).shown))), soft1 [] 0 (some (.dat (.list (ls.map tupD)))), soft1 [] 0 (some (.dat (famD f))), soft1 [] 0 none]) (φ := φ') (φ1 := φ') (φ2 := φ') (m1 := vD 8) (m2 := vD 8) (e1 := .dat (famD f)) (e2 := .dat (famD f)) rfl rfl
        rw [notT_e, tst_b, app2_e, a1, bind_e, a2, bind_e]
        rw [show m_w_same [(EV.own [(EV.dat (famD f)).toD, (EV.dat (famD f)).toD]).toD, (EV.own [(EV.dat (famD f)).toD, (EV.dat (famD f)).toD]).toD] φ' = _ from sm]
        rfl
      exact ⟨_, φ', (seq_nx b1).trans ((if_f t).trans nxM_e), _, _, rfl⟩) [none, some (.dat (.dict kv)), o2, some (.dat (netD hs fs)), o4, o5, some (.dat (.str (netD hs fs).shown)), some (.dat (.list (ls.map tupD))), o8, none] φ1 ⟨_, _, rfl⟩
  obtain ⟨σ', φ2, k1, y4, y8, e3⟩ := loop1
  subst e3
  have p2 := for_e (vs := []) (set := setNS 4) (mb := seqM (asgD [] 8 (appM 2 m_w_crowds_of (consA (vD 3) (consA (vD 4) nilA))))
  (ifS [] (notT (tst (appM 2 m_w_same (consA (lstM (consA (appM 2 m_lots_of (consA (vD 3) (consA (vD 4) nilA))) (consA (appN [1, 0] 2 m_lots_of (consA (vD 4) (consA (vD 3) nilA))) nilA))) (consA (lstM (consA (vD 8) (consA (vD 8) nilA))) nilA))))) (retM [] (cD (.bool false))) nxM))
    (σ := [none, some (.dat (.dict kv)), o2, some (.dat (netD hs fs)), o4, o5, some (.dat (.str (netD hs fs).shown)), some (.dat (.list (ls.map tupD))), o8, none]) (as := hs.map PyData.str) (φ := φ1) (φ1 := φ1) (mi := seqI (op2 ixG (vD 3) (cD (.int 0)))) (seqI_t (by
      rw [soft10]
      simp only [op2_e, vDs, vD0, soft1, bind_e, toD_dat, cD_e, net_at0, tupD]))
  rw [settle_nil, k1] at p2
  -- the lots
  obtain ⟨d, φ3, md, ed⟩ := pick_e (ds := ls.map tupD) (.inl rfl) (fun z => nl (List.map_eq_nil_iff.mp z)) (by rw [List.length_map]; omega) kv φ2
  obtain ⟨l1, m1, q1⟩ := List.mem_map.mp md
  subst q1
  have cat := lots_app (xs := ls) (ys := [l1]) (by simp; omega)
  have hi : seqI (op2 addG (vD 7) (lstM (consA (appM 2 m_w_pick (consA (vD 1) (consA (vD 7) nilA))) nilA))) (soft [] [none, some (.dat (.dict kv)), o2, some (.dat (netD hs fs)), y4, o5, some (.dat (.str (netD hs fs).shown)), some (.dat (.list (ls.map tupD))), y8, none]) φ2 = .ok ((ls ++ [l1]).map tupD, φ3) := by
    refine seqI_w ?_
    rw [soft10]
    simp only [op2_e, vDs, vD0, soft1, bind_e, toD_dat, lstM_e, consA_e, app2_e, ed, nilA_e, List.length_cons, List.length_nil]
    rw [if_pos (by omega), bind_e]
    rw [show addG (PyData.list (ls.map tupD)) (EV.own [tupD l1], φ3).1.toD = _ from cat]
    rfl
  have loop2 := forGo_inv (set := setNS 5) (mb := ifS [] (notT (tst (appM 2 m_w_is_right (consA (vD 3) (consA (vD 5) nilA))))) (retM [] (cD (.bool false))) nxM)
    (fun _ σ φ' => ∃ y5, σ = [none, some (.dat (.dict kv)), o2, some (.dat (netD hs fs)), y4, y5, some (.dat (.str (netD hs fs).shown)), some (.dat (.list (ls.map tupD))), y8, none])
    ((ls ++ [l1]).map tupD) [] (fun pre b post σ φ' e2 ⟨y5, e3⟩ => by
      subst e3
      rw [List.nil_append] at e2
      have mb : b ∈ (ls ++ [l1]).map tupD := by rw [e2]; simp
      obtain ⟨l, ml, el⟩ := List.mem_map.mp mb
      subst el
      have L : Lot hs l := by
        rcases List.mem_append.mp ml with m | m
        · exact al l m
        · rw [List.mem_singleton.mp m]
          exact al _ m1
      refine ⟨[none, some (.dat (.dict kv)), o2, some (.dat (netD hs fs)), y4, some (.dat (tupD l)), some (.dat (.str (netD hs fs).shown)), some (.dat (.list (ls.map tupD))), y8, none], rfl, ?_⟩
      have t : notT (tst (appM 2 m_w_is_right (consA (vD 3) (consA (vD 5) nilA)))) (soft [] [none, some (.dat (.dict kv)), o2, some (.dat (netD hs fs)), y4, some (.dat (tupD l)), some (.dat (.str (netD hs fs).shown)), some (.dat (.list (ls.map tupD))), y8, none]) φ' = .ok (false, φ') := by
        rw [soft10]
        simp only [notT_e, tst_b, app2_e, vDs, vD0, soft1, bind_e, toD_dat, is_right_e N L]
        rfl
      exact ⟨_, φ', (if_f t).trans nxM_e, _, rfl⟩) [none, some (.dat (.dict kv)), o2, some (.dat (netD hs fs)), y4, o5, some (.dat (.str (netD hs fs).shown)), some (.dat (.list (ls.map tupD))), y8, none] φ3 ⟨_, rfl⟩
  obtain ⟨σ', φ4, k2, y5, e3⟩ := loop2
  subst e3
  have p3 := for_e (vs := []) (set := setNS 5) (mb := ifS [] (notT (tst (appM 2 m_w_is_right (consA (vD 3) (consA (vD 5) nilA))))) (retM [] (cD (.bool false))) nxM) hi
  rw [settle_nil, k2] at p3
  have t : tst (op2 neG (callM reprG (consA (vD 3) nilA)) (vD 6)) (soft [] [none, some (.dat (.dict kv)), o2, some (.dat (netD hs fs)), y4, y5, some (.dat (.str (netD hs fs).shown)), some (.dat (.list (ls.map tupD))), y8, none]) φ4 = .ok (false, φ4) := by
    rw [soft10]
    simp only [tst_b, op2_e, callM_e, consA_e, vDs, vD0, soft1, bind_e, toD_dat, nilA_e, rp, neG_shown (fit_net N)]
  exact ⟨_, _, _, _, _, _, (seq_nx p1).trans ((seq_nx p2).trans ((seq_nx p3).trans ((if_f t).trans nxM_e)))⟩
end
theorem lawTrue : LawTrue := by
  intro ns _
  have d8 := draw_e (n := 8) (by decide) (by decide) ([] : List (D × D)) ⟨ns, 0, 0, 0⟩
  obtain ⟨r, φ1, er, _, _⟩ := d8
  -- the first net
  obtain ⟨n0, φ2, B, e0⟩ : ∃ (n0 : NetT) (φ2 : FS), (netB n0 = true ∧ (9 < n0.1.length → n0 = WIDE)) ∧ ifM (tst (op2 eqG (appM 2 m_w_draw (consA (vD 1) (consA (cD (.int 8)) nilA))) (cD (.int 0)))) (appM 0 m_w_wide nilA) (appM 2 m_w_pick (consA (vD 1) (consA (appM 0 m_w_hand nilA) nilA))) [none, some (.dict []), none, none, none, none, none, none, none, none] ⟨ns, 0, 0, 0⟩ = .ok (.dat (netD n0.1 n0.2), φ2) := by
    have eq0 : eqG (.int r) (.int 0) = .ok (.dat (.bool (r == 0))) := rfl
    cases hr : r == 0 with
    | true =>
      refine ⟨WIDE, φ1, ⟨wide_ok, fun _ => rfl⟩, ?_⟩
      simp only [ifM_e, tst_b, op2_e, app2_e, vDs, vD0, cD_e, bind_e, toD_dat, er, eq0, hr, app0_e, wide_e]
      rfl
    | false =>
      obtain ⟨d, φ2, md, ed⟩ := pick_e (ds := HAND.map fun n => netD n.1 n.2) (.inl rfl) (by decide) (by decide) [] φ1
      obtain ⟨n, mn, en⟩ := List.mem_map.mp md
      subst en
      refine ⟨n, φ2, ⟨hand_ok n mn, fun h => ?_⟩, ?_⟩
      · have q : ∀ n ∈ HAND, n.1.length ≤ 9 := by decide +kernel
        have := q n mn
        omega
      · simp only [ifM_e, tst_b, op2_e, app2_e, vDs, vD0, cD_e, bind_e, toD_dat, er, eq0, hr, app0_e, hand_e, toD_own, ed]
        rfl
  have soft10 : ∀ (a b c d e f g h i j : Option EV), soft [] [a, b, c, d, e, f, g, h, i, j] = [soft1 [] 0 a, soft1 [] 0 b, soft1 [] 0 c, soft1 [] 0 d, soft1 [] 0 e, soft1 [] 0 f, soft1 [] 0 g, soft1 [] 0 h, soft1 [] 0 i, soft1 [] 0 j] := fun a b c d e f g h i j => by simp only [soft_c, soft_n]
  have p1 := asgD_e (vs := []) (i := 2) (m := ifM (tst (op2 eqG (appM 2 m_w_draw (consA (vD 1) (consA (cD (.int 8)) nilA))) (cD (.int 0)))) (appM 0 m_w_wide nilA) (appM 2 m_w_pick (consA (vD 1) (consA (appM 0 m_w_hand nilA) nilA)))) (σ := [none, some (.dat (.dict [])), none, none, none, none, none, none, none, none]) (φ := ⟨ns, 0, 0, 0⟩) (φ1 := φ2) (e := .dat (netD n0.1 n0.2)) (by rw [soft10]; exact e0) (by simp)
  simp only [aft_nil, toD_dat, List.set_cons_succ, List.set_cons_zero] at p1
  obtain ⟨h1, f1, φ3, w1, N1, l1⟩ := web_e ([] : List (D × D)) φ2
  obtain ⟨h2, f2, φ4, w2, N2, l2⟩ := web_e ([] : List (D × D)) φ3
  have lc : lcM [9] (rng1I (cD (.int 2))) (setN 9) yesT (appM 2 m_w_web (consA (vD 1) (consA (cD (.int 6)) nilA))) [none, some (.dict []), some (netD n0.1 n0.2), none, none, none, none, none, none, none] φ2 = .ok (.own [netD h1 f1, netD h2 f2], φ4) := by
    unfold lcM
    rw [rng1_e (n := 2) (φ1 := φ2) rfl (by omega), bind_e]
    dsimp only
    rw [if_pos (by decide)]
    have ew : wipeD [none, some (PyData.dict []), some (netD n0.1 n0.2), none, none, none, none, none, none, none] [9] = [none, some (.dict []), some (netD n0.1 n0.2), none, none, none, none, none, none, none] := rfl
    rw [ew]
    have er2 : ((List.range 2).map fun (i : Nat) => PyData.int (0 + (i : Int))) = [.int (0 + ((0 : Nat) : Int)), .int (0 + ((1 : Nat) : Int))] := rfl
    rw [er2]
    have st : ∀ a : D, setN 9 a [none, some (PyData.dict []), some (netD n0.1 n0.2), none, none, none, none, none, none, none] = some [none, some (PyData.dict []), some (netD n0.1 n0.2), none, none, none, none, none, none, some a] := fun _ => rfl
    have ap : ∀ (a : D) (φ φ' : FS) (e : EV), m_w_web [.dict [], .int 6] φ = .ok (e, φ') → appM 2 m_w_web (consA (vD 1) (consA (cD (.int 6)) nilA)) [none, some (PyData.dict []), some (netD n0.1 n0.2), none, none, none, none, none, none, some a] φ = .ok (e, φ') := fun a φ φ' e h => by
      simp only [app2_e, vDs, vD0, cD_e, bind_e, toD_dat, h]
    unfold lcGo
    rw [st]
    dsimp only [yesT]
    rw [bind_e, if_pos rfl, ap _ _ _ _ w1, bind_e]
    unfold lcGo
    rw [st]
    dsimp only [yesT]
    rw [bind_e, if_pos rfl, ap _ _ _ _ w2, bind_e]
    rfl
  have hi : seqI (op2 addG (lstM (consA (vD 2) nilA)) (lcM [9] (rng1I (cD (.int 2))) (setN 9) yesT (appM 2 m_w_web (consA (vD 1) (consA (cD (.int 6)) nilA))))) (soft [] [none, some (.dat (.dict [])), some (.dat (netD n0.1 n0.2)), none, none, none, none, none, none, none]) φ2 = .ok ([n0, (h1, f1), (h2, f2)].map fun n => netD n.1 n.2, φ4) := by
    refine seqI_w ?_
    rw [soft10]
    show op2 addG _ _ [none, some (PyData.dict []), some (netD n0.1 n0.2), none, none, none, none, none, none, none] φ2 = _
    rw [op2_e, show lstM (consA (vD 2) nilA) [none, some (PyData.dict []), some (netD n0.1 n0.2), none, none, none, none, none, none, none] φ2 = .ok (.own [netD n0.1 n0.2], φ2) from rfl, bind_e, lc, bind_e]
    rfl
  have loop := forGo_inv (set := setNS 3) (mb := (seqM (parM [] [6, 7] (consD (callM reprG (consA (vD 3) nilA)) (consD (appM 2 m_w_asked (consA (vD 1) (consA (vD 3) nilA))) nilE)))
  (seqM (forM [] (seqI (op2 ixG (vD 3) (cD (.int 0)))) (setNS 4) (seqM (asgD [] 8 (appM 2 m_w_crowds_of (consA (vD 3) (consA (vD 4) nilA))))
  (ifS [] (notT (tst (appM 2 m_w_same (consA (lstM (consA (appM 2 m_lots_of (consA (vD 3) (consA (vD 4) nilA))) (consA (appN [1, 0] 2 m_lots_of (consA (vD 4) (consA (vD 3) nilA))) nilA))) (consA (lstM (consA (vD 8) (consA (vD 8) nilA))) nilA))))) (retM [] (cD (.bool false))) nxM)))
  (seqM (forM [] (seqI (op2 addG (vD 7) (lstM (consA (appM 2 m_w_pick (consA (vD 1) (consA (vD 7) nilA))) nilA)))) (setNS 5) (ifS [] (notT (tst (appM 2 m_w_is_right (consA (vD 3) (consA (vD 5) nilA))))) (retM [] (cD (.bool false))) nxM))
  (ifS [] (tst (op2 neG (callM reprG (consA (vD 3) nilA)) (vD 6))) (retM [] (cD (.bool false))) nxM)))))
    (fun _ σ φ => ∃ o3 o4 o5 o6 o7 o8, σ = [none, some (.dat (.dict [])), some (.dat (netD n0.1 n0.2)), o3, o4, o5, o6, o7, o8, none])
    ([n0, (h1, f1), (h2, f2)].map fun n => netD n.1 n.2) [] (fun pre b post σ φ e ⟨o3, o4, o5, o6, o7, o8, e2⟩ => by
      subst e2
      rw [List.nil_append] at e
      have mb : b ∈ [n0, (h1, f1), (h2, f2)].map fun n => netD n.1 n.2 := by rw [e]; simp
      obtain ⟨n, mn, en⟩ := List.mem_map.mp mb
      subst en
      refine ⟨[none, some (.dat (.dict [])), some (.dat (netD n0.1 n0.2)), some (.dat (netD n.1 n.2)), o4, o5, o6, o7, o8, none], rfl, ?_⟩
      have T : Net n.1 n.2 ∧ (9 < n.1.length → ∃ f0, n.2[0]? = some f0 ∧ 2 ≤ f0.length) := by
        simp only [List.mem_cons, List.not_mem_nil, or_false] at mn
        rcases mn with m | m | m <;> subst m
        · refine ⟨netB_ok B.1, fun h => ?_⟩
          rw [B.2 h]
          exact ⟨_, rfl, by decide⟩
        · exact ⟨N1, fun h => absurd h (by show ¬ 9 < h1.length; omega)⟩
        · exact ⟨N2, fun h => absurd h (by show ¬ 9 < h2.length; omega)⟩
      obtain ⟨y4, y5, y6, y7, y8, φ', k⟩ := net_turn T.1 T.2 [] none (some (.dat (netD n0.1 n0.2))) o4 o5 o6 o7 o8 φ
      exact ⟨_, φ', k, _, _, _, _, _, _, rfl⟩) [none, some (.dat (.dict [])), some (.dat (netD n0.1 n0.2)), none, none, none, none, none, none, none] φ4 ⟨none, none, none, none, none, none, rfl⟩
  obtain ⟨σ', φ5, k, o3, o4, o5, o6, o7, o8, e2⟩ := loop
  subst e2
  have p2 := for_e (vs := []) (set := setNS 3) (mb := (seqM (parM [] [6, 7] (consD (callM reprG (consA (vD 3) nilA)) (consD (appM 2 m_w_asked (consA (vD 1) (consA (vD 3) nilA))) nilE)))
  (seqM (forM [] (seqI (op2 ixG (vD 3) (cD (.int 0)))) (setNS 4) (seqM (asgD [] 8 (appM 2 m_w_crowds_of (consA (vD 3) (consA (vD 4) nilA))))
  (ifS [] (notT (tst (appM 2 m_w_same (consA (lstM (consA (appM 2 m_lots_of (consA (vD 3) (consA (vD 4) nilA))) (consA (appN [1, 0] 2 m_lots_of (consA (vD 4) (consA (vD 3) nilA))) nilA))) (consA (lstM (consA (vD 8) (consA (vD 8) nilA))) nilA))))) (retM [] (cD (.bool false))) nxM)))
  (seqM (forM [] (seqI (op2 addG (vD 7) (lstM (consA (appM 2 m_w_pick (consA (vD 1) (consA (vD 7) nilA))) nilA)))) (setNS 5) (ifS [] (notT (tst (appM 2 m_w_is_right (consA (vD 3) (consA (vD 5) nilA))))) (retM [] (cD (.bool false))) nxM))
  (ifS [] (tst (op2 neG (callM reprG (consA (vD 3) nilA)) (vD 6))) (retM [] (cD (.bool false))) nxM))))) hi
  rw [settle_nil, k] at p2
  exact ⟨_, φ5, (seq_nx p1).trans ((seq_nx p2).trans (ret_e rfl))⟩
end V03
open PySem PySem.W PyProof.Rows
set_option maxHeartbeats 0 in
theorem PySem.Challenge.cw_ownfears_k03_parts_told_holds : PySem.Challenge.rw_ownfears_k03_parts_told.Holds := by
  w_on; o_law; k_head; (case hw => w_witness2)
  k_fill
  refine VI.walkG (l := PySem.Challenge.rw_ownfears_k03_parts_told) (k := 7) (x := "_law_script") rfl rfl ⟨rfl, by decide, by decide⟩ (fun w h Y => PySem.W.kIn_of Y) ?F
  case F =>
    intro w mg fa h KX G hmg
    refine' V03.all_mk V03.lawTrue KX G hmg ?_ ?_ ?_ ?_ ?_ ?_ ?_ ?_ ?_ ?_ ?_ ?_ ?_ ?_ ?_ ?_ ?_ ?_ ?_ ?_ ?_ ?_ ?_ ?_ ?_ ?_ ?_ ?_ ?_ ?_ ?_ ?_ ?_ ?_ ?_ ?_ ?_ ?_ ?_ ?_ ?_ ?_ ?_ ?_ ?_ ?_ ?_
    all_goals first | k_is | (refine' VI.funAt ?a ?l ?c ?k; (case a => k_is); (case l => k_is); (case c => k_is); (case k => k_is))

