import PyProof.Rows.All
import Wide.All
import OpenK.AllK
import Wide.FinOn
import HandS.ForMost
import HandS.ForExc
import HandS.Star
import HandS.Deep
import HandS.IsInst
import HandS.SortKw
import KE.SortKeyHeap
import HandS.ExcIs
import HandS.Walk
import HandS.StrMore
import KE.DataCmp
import PyProof.StrLawsLast
import PyProof.Rows.RegFStrParts
import PySem.Challenge.RW_linkfarms_k02_paths_made_and_ordered
set_option Elab.async false
set_option linter.all false
set_option maxRecDepth 100000
set_option maxHeartbeats 4000000
namespace LF
open PySem PySem.Spec PyProof.Rows L2

/-- a promise that is asked only where no repr is under way -/
structure FnG (P : Program) (w : World) (K : PySem.W.Frag) (mg : Str → Option Value) (base : Heap) (CX : CXT)
    (k : Nat) (f : Addr) (fd : FuncData) (ps : List Str) (sp : Sp) : Prop where
  len : ∀ vs H Q E, sp vs H Q E → vs.length = ps.length
  go : ∀ (A : Around) (fr : List Env) (st : Shared) (H : Hp) (ar : Args) (us : List Value) (vs : List V) (Q : VK) (E : XK),
    A.guards = some [] → Room k A → Env0 P w K mg base A fr st H → BindsTo st fd ar (ps.zip us) → Vals vs us →
    sp vs H Q E → codeAny (model P w) A (.call (.ref f) ar) (CR CX fr P w H st Q E) st

theorem body_end {CX : CXT} {P : Program} {w : World} {K : PySem.W.Frag} {mg : Str → Option Value} {base : Heap} {N : List Str}
    {q : String} {sc : Scope} {f : Addr} {cd : Value} {A : Around} {fr : List Env} {st : Shared} {H : Hp} {E : XK} {Q : VK}
    {v : V} {u : Value} {σ : L2.St} {H' : Hp} {s' : Shared}
    (J : Inv (cxOf CX P w K mg base N q sc f cd A fr st H E) [] σ H' s') (rv : RelV v u) (hq : Q v H') :
    CE fr P w H st Q u s' :=
  ⟨v, H', J.os, J.bare, J.base, J.hok, rv, hq⟩

theorem fnG_of {CX : CXT} {P : Program} {w : World} {K : PySem.W.Frag} {mg : Str → Option Value} {base : Heap} {k : Nat} {f : Addr}
    {x q : String} {st : Stmt} {fd : FuncData} {N ps : List Str} {sp : Sp} (F : Fun K x q st f fd) (S : FnScope N ps (defScope st))
    (len : ∀ vs H Q E, sp vs H Q E → vs.length = ps.length)
    (hb : ∀ (cdv : Value) (A : Around) (fr : List Env) (s : Shared) (H : Hp) (vs : List V) (Q : VK) (E : XK), A.guards = some [] →
      Room k (A.deeper (envOfC q (defScope st) s.heap.objs.size f cdv)) → sp vs H Q E →
      ∃ t, PSs (cxOf CX P w K mg base N q (defScope st) f cdv A fr s H E) (defBody st) t ∧
        t { nx := fun _ H' => Q .non H', rt := Q } (start N vs) H) : FnG P w K mg base CX (k + 1) f fd ps sp := by
  obtain ⟨oc, od, kV, doc, pm, an, cdv, ct, osl, rfl, lk, hcd⟩ := F.ex
  refine ⟨len, ?_⟩
  intro A fr s H ar us vs Q E hgd hr e0 hbi r hsp
  have hl := len _ _ _ _ hsp
  have KX : K.In s.heap := e0.mod.kin.keeps (fun b o e => (e0.bs b o e).1)
  have lim : s.heap.NoLimit := e0.mod.nolimit.keeps (fun b o e => (e0.bs b o e).1)
  have hkd : ∀ y ∈ ps.zip us, (defScope st).names.lookup y.1 = some .local ∨
      ((defScope st).names.lookup y.1 = some .cell ∧ ((cellsFrom (s.heap.objs.size + 1) (defScope st).names []).lookup y.1).isSome = true) := by
    rintro ⟨n, v⟩ hy
    rcases S.par n (List.of_mem_zip hy).1 with z | z
    · exact Or.inl z
    · exact Or.inr ⟨z, PySem.W.cellsFrom_some _ _ _ (Or.inl z)⟩
  refine codeAny_call_function hr.depth (KX _ _ lk) rfl S.co S.gen rfl (PySem.W.codeRec_of KX hcd) (hbi _ _ _ _ ?_)
  refine wpAny_newFunctionEnv_cells S.kind hkd ?_
  intro env he s1 xx
  subst he
  refine ⟨lim.keeps xx.toInCall.keep, codeAny_func ?_⟩
  obtain ⟨t, ht, hq⟩ := hb cdv A fr s H vs Q E hgd (hr.deeper _) hsp
  have I := inv_start (CX := CX) (cd := cdv) (E := E) S hr.hd e0 hl r xx
  refine wpAny_mono (ht.run [] s1 (start N vs) H _ I hq) ?_ (fun e s' hs => hs)
  intro fl s' hs
  cases fl with
  | ret u =>
    obtain ⟨v, σ', H', J, rv, z⟩ := hs
    exact body_end J rv z
  | next =>
    obtain ⟨σ', H', J, z⟩ := hs
    exact body_end (v := V.non) (u := Value.none) J rfl z
  | brk => exact (hs.choose_spec.choose_spec.2).elim
  | cont => exact (hs.choose_spec.choose_spec.2).elim

section
variable {X : Cx} {CX : CXT} {k : Nat} {f : Addr} {fd : FuncData} {ps : List Str} {sp : Sp} {dvs : List V} {ds : List Value} {E : XK}
  {x : Str} {p pos : Pos} {e : Expr} {es : List Expr} {t : TA}

theorem runG {pins : List (Addr × Obj)} {σ : L2.St} {H : Hp} {s : Shared} {Q : VK} {us : List Value} {vs : List V}
    (F : FnG X.prog X.w X.K X.mg X.base CX k f fd ps sp) (gd : X.A.guards = some []) (hr : Room k X.A) (hb : Binds X.K fd ps [])
    (hx : Passes CX X E) (I : Inv X pins σ H s) (r : Vals vs us) (h : sp vs H Q E) :
    wpAny (model X.prog X.w) X.A (call (.ref f) us) (EP X pins σ Q) X.xe s := by
  have hl : us.length = ps.length := by rw [← r.length]; exact F.len _ _ _ _ h
  have hb' := hb s us I.kIn (by rw [List.append_nil]; exact hl)
  rw [List.append_nil] at hb'
  refine wpAny_call (codeAny_mono (F.go X.A X.stack s H ⟨us, []⟩ us vs Q E gd hr I.env0 hb' r h) ?_)
  intro rr s' hq
  cases rr with
  | error e => exact hx pins σ H s e s' I hq
  | ok fl =>
    cases fl with
    | ret u => exact I.after hq
    | next => exact hq.elim
    | brk => exact hq.elim
    | cont => exact hq.elim

theorem pe_callG (F : FnG X.prog X.w X.K X.mg X.base CX k f fd ps sp) (gd : X.A.guards = some []) (hr : Room k X.A) (hg : Gl X x)
    (hm : X.mg x = some (.ref f)) (hk : PySem.W.keepIn X.K (.ref f) = true) (hb : Binds X.K fd ps []) (hx : Passes CX X E)
    (ha : PA X (e :: es) t) (hdb : (x == ("__debug__" : Str)) = false := by decide)
    (he : starEach (e :: es) X.env = (false, eval e X.env) :: starEach es X.env := by rfl)
    (hpl : (backTo pos (starEach es X.env)).any (·.1) = false := by rfl) :
    PE X (.Call (.Name x p) (e :: es) [] pos) (fun σ H Q => t σ H fun vs H1 => sp vs H1 Q E) := by
  constructor
  intro pins s σ H Q I h
  refine wpAny_Call_Name_kw (ld_glob I hg hm ?_ hdb)
  refine PySem.W.callWith_K (h₀ := X.base) I.ok.mod.kin hk (thn (ha.run pos pins s σ H _ I h) ?_) he hpl
  rintro us s1 ⟨vs, H1, I1, r, z⟩
  exact ⟨I1.kIn, runG F gd hr hb hx I1 r z⟩
end

/-- repr of data of any depth, where no repr is under way -/
def rRepr (K : PySem.W.Frag) : List V → Hp → VK → Prop := fun xs H Q =>
  ∃ x d, xs = [x] ∧ Dp K H x d ∧ d.showable = true ∧ d.hasDict = false ∧ d.depth ≤ 60 ∧ d.shown.length ≤ sizeLine ∧ Q (.str d.shown) H
theorem call_reprD {X : Cx} (gd : X.A.guards = some []) (hu : X.A.units + 64 < cLine) : CallR X (.builtin "repr") (rRepr X.K) := by
  intro pins s σ H xs us Q I r h
  obtain ⟨x, d, rfl, hd, hs, hn, hp, hz, q⟩ := h
  obtain ⟨u, rfl, ru⟩ := vals1 r
  obtain ⟨as, rd⟩ := Dp.reads I d x u hd ru
  cases hd with
  | non => cases ru; exact PySem.P.repr_of_none ⟨.str _, H, I.tok _, ⟨_, rfl⟩, q⟩
  | bl b => cases ru; exact PySem.P.repr_of_bool ⟨.str _, H, I.tok _, ⟨_, rfl⟩, q⟩
  | int i =>
    obtain ⟨t, rfl⟩ := ru
    exact PySem.P.repr_of_int (by simpa [PyData.showable] using hs) ⟨.str _, H, I.tok _, ⟨_, rfl⟩, q⟩
  | str z =>
    obtain ⟨t, rfl⟩ := ru
    exact PySem.P.repr_of_str ⟨.str _, H, I.tok _, ⟨_, rfl⟩, q⟩ hz
  | lst a b =>
    cases ru
    exact repr_of_reads' rd hs (PyData.noDict_hsm hn) gd (by omega) (fun _ _ e => e)
      (fun h' u tk hk => ⟨.str _, H, I.kept (t' := tk) hk, ⟨_, rfl⟩, q⟩) hz
  | tup a b =>
    cases ru
    exact repr_of_reads' rd hs (PyData.noDict_hsm hn) gd (by omega) (fun _ _ e => e)
      (fun h' u tk hk => ⟨.str _, H, I.kept (t' := tk) hk, ⟨_, rfl⟩, q⟩) hz
end LF

set_option Elab.async false
set_option linter.all false
set_option maxRecDepth 100000
set_option maxHeartbeats 4000000
namespace LF
open PySem PySem.Spec PyProof.Rows L2
open PySem.W (EachIs dataLe AllAlike Sortable KeepsBut KeyedOut)

theorem sqL_same {K : PySem.W.Frag} {H H' : Hp} {a : Addr} {xs : List V} (e : Same H H') (h : SqL K H a xs) : SqL K H' a xs := e.seq h
theorem sqT_same {K : PySem.W.Frag} {H H' : Hp} {a : Addr} {xs : List V} (e : Same H H') (h : SqT K H a xs) : SqT K H' a xs := by
  rcases h with (h | ⟨o, h⟩) | h
  · exact Or.inl (Or.inl (e _ _ h))
  · exact Or.inl (Or.inr ⟨o, e _ _ h⟩)
  · exact Or.inr h
mutual
theorem dp_same {K : PySem.W.Frag} {H H' : Hp} (e : Same H H') : ∀ (d : PyData) (v : V), Dp K H v d → Dp K H' v d
  | .none, _, h => by cases h; exact .non
  | .bool b, _, h => by cases h; exact .bl b
  | .int i, _, h => by cases h; exact .int i
  | .str x, _, h => by cases h; exact .str x
  | .list ds, _, h => by cases h with | lst a b => exact .lst (sqL_same e a) (dpAll_same e ds _ b)
  | .tuple ds, _, h => by cases h with | tup a b => exact .tup (sqT_same e a) (dpAll_same e ds _ b)
  | .dict _, _, h => by cases h
theorem dpAll_same {K : PySem.W.Frag} {H H' : Hp} (e : Same H H') : ∀ (ds : List PyData) (vs : List V), DpAll K H vs ds → DpAll K H' vs ds
  | [], _, h => by cases h; exact .nil
  | d :: ds, _, h => by cases h with | cons a b => exact .cons (dp_same e d _ a) (dpAll_same e ds _ b)
end

/-- sorted(xs, key=f), xs texts, f a def that hands back data and leaves what is tracked -/
def rSortF (K : PySem.W.Frag) (f : Addr) (kd : Str → PyData) (sp : Sp) : List V → List V → Hp → VK → Prop := fun xs zs H Q =>
  ∃ (a : Addr) (ws : List Str), xs = [.ref a] ∧ zs = [.ref f] ∧ SqL K H a (ws.map V.str) ∧ AllAlike (ws.map kd) ∧ Sortable (ws.map kd) ∧
    (∀ d ∈ ws.map kd, d.depth ≤ 60) ∧
    (∀ x ∈ ws, ∀ H1, Same H H1 → ∀ Q1 : VK, (∀ v H2, Same H1 H2 → Dp K H2 v (kd x) → Q1 v H2) → sp [.str x] H1 Q1 E0) ∧
    ∀ H1 p, Same H H1 → H1 p = none → Q (.ref p) (upd H1 p (.lst ((ws.mergeSort (dataLe false kd)).map V.str)))

theorem each_vals_str : ∀ {ws : List Str} {us : List Value}, Vals (ws.map V.str) us → EachIs (fun (v : Value) (x : Str) => ∃ t, v = Value.str x t) us ws
  | [], _, h => by cases h; exact .nil
  | x :: ws, _, h => by cases h with | cons a b => exact .cons a (each_vals_str b)
theorem vals_each_str : ∀ {ws : List Str} {us : List Value}, EachIs (fun (v : Value) (x : Str) => ∃ t, v = Value.str x t) us ws → Vals (ws.map V.str) us
  | [], _, h => by cases h; exact .nil
  | x :: ws, _, h => by cases h with | cons a b => exact .cons a (vals_each_str b)
theorem each_get {α β : Type} {R : α → β → Prop} : ∀ {as : List α} {bs : List β} {i : Nat} {x : α}, EachIs R as bs → as[i]? = some x → ∃ y, bs[i]? = some y ∧ R x y
  | _, _, 0, x, .cons h _, e => by simp at e; subst e; exact ⟨_, rfl, h⟩
  | _, _, i + 1, x, .cons _ t, e => by simpa using each_get (i := i) t (by simpa using e)
theorem each_reads {X : Cx} {pins : List (Addr × Obj)} {σ : L2.St} {H : Hp} {s : Shared} {kd : Str → PyData} (I : Inv X pins σ H s) :
    ∀ {us : List Value} {ws : List Str}, EachIs (fun v x => ∃ y, RelV y v ∧ Dp X.K H y (kd x)) us ws →
      EachIs (fun v k => ∃ as, Reads s.heap v k as) us (ws.map kd)
  | _, _, .nil => .nil
  | _, _, .cons ⟨y, r, d⟩ t => .cons (Dp.reads I _ _ _ d r) (each_reads I t)

section
variable {X : Cx} {kf : Nat} {f : Addr} {fd : FuncData} {px : Str} {sp : Sp} {kd : Str → PyData}

theorem pin_new {pins : List (Addr × Obj)} {σ : L2.St} {H : Hp} {s : Shared} (I : Inv X pins σ H s) {b : Addr} (hb : s.heap.objs.size ≤ b) :
    H b = none ∧ b ≠ X.env.locals ∧ b ∉ X.fs ∧ (∀ x c, X.env.cells.lookup x = some c → c ≠ b) ∧ ∀ p ∈ X.pn ++ pins, p.1 ≠ b := by
  refine ⟨I.hok.fresh hb, ?_, I.nofs hb, ?_, ?_⟩
  · exact Ne.symm (Nat.ne_of_lt (Nat.lt_of_lt_of_le I.lt hb))
  · intro x c hc
    obtain ⟨v, o, ho, _⟩ := I.cell x c hc
    exact Nat.ne_of_lt (Nat.lt_of_lt_of_le (Heap.lt_size ho) hb)
  · intro p hp
    exact Nat.ne_of_lt (Nat.lt_of_lt_of_le (Heap.lt_size (I.pin p hp).1) hb)

theorem call_sortedF (F : FnOk X.prog X.w X.K X.mg X.base CX0 kf f fd [px] sp) (hr : Room (kf + 2) X.A) (hb : Binds X.K fd [px] []) :
    CallRK X (.builtin "sorted") [Str.ofString "key"] (rSortF X.K f kd sp) := by
  intro pins s σ H xs zs us vz Q I r rz h
  obtain ⟨a, ws, rfl, rfl, hs, hal, hsk, hdep, hkey, hq⟩ := h
  obtain ⟨its, rv, hl, hz⟩ := I.list hs
  rw [Vals.ref1 r]
  rw [Vals.ref1 rz]
  have hwl : ws.length = its.length := by rw [← rv.length, List.length_map]
  have hZ : its.length ≤ sizeLine := by rw [← rv.length]; exact hz
  have hE := each_vals_str rv
  show wpAny _ _ (call (.builtin "sorted") [.ref a] [(Str.ofString "key", .ref f)]) _ _ _
  refine PySem.W.sorted_of_sort (vs := its) hl.isList hZ (ksk_s1 _ _) (fun x => ksk_l1 _ _) ?_
  intro E'
  rw [ksk_t1]
  obtain ⟨hp, g, dr, tk, os⟩ := s
  -- the copy, at D
  generalize hD : hp.objs.size + 1 = D
  have hcp : (PySem.W.copyHeap hp its).get? D = some (seqObj "list" its.toArray 0) := by rw [← hD]; exact PySem.W.copyHeap_at hp its
  have hold : ∀ b o, hp.get? b = some o → (PySem.W.copyHeap hp its).get? b = some o := fun b o e => PySem.W.copyHeap_old e
  have hDsz : D < (PySem.W.copyHeap hp its).objs.size := Heap.lt_size hcp
  have hDnew : hp.objs.size ≤ D := by omega
  obtain ⟨e1, he1⟩ : ∃ e1, ((PySem.W.copyHeap hp its).update D (Obj.mapSeq fun _ => (#[] : Array Value))).get? D = some (seqObj "list" #[] e1) := ⟨_, get?_update_seq hcp fun _ => #[]⟩
  have hS1 : ((PySem.W.copyHeap hp its).update D (Obj.mapSeq fun _ => (#[] : Array Value))).objs.size = (PySem.W.copyHeap hp its).objs.size := by rw [Heap.size_update]
  unfold ksk_tree
  refine wpAny_bind (listItems_at hcp rfl ?_)
  refine wpAny_bind (listUpdate_at hcp rfl ?_ (by rw [List.size_toArray]; exact hZ) (Nat.zero_le _))
  refine wpAny_bind (seqEpoch_at he1 rfl ?_)
  refine wpAny_bind (wpAny_newTuple ?_ (by show its.length ≤ _; exact hZ))
  refine wpAny_bind (wpAny_newList ?_ (Nat.zero_le _))
  refine wpAny_holding ?_
  generalize hT : (((PySem.W.copyHeap hp its).update D (Obj.mapSeq fun _ => (#[] : Array Value))).push ({ cls := .type "tuple", data := .seq its.toArray } : Obj)) = h1
  have hkS : h1.objs.size = (PySem.W.copyHeap hp its).objs.size + 1 := by rw [← hT, size_push', hS1]
  generalize hkk : h1.objs.size = kS
  have hDk : kS ≠ D := by omega
  have hkSnew : hp.objs.size ≤ kS := by omega
  have k1 : ∀ b o, b ≠ D → (PySem.W.copyHeap hp its).get? b = some o → h1.get? b = some o := fun b o hb e => by
    rw [← hT]
    exact Heap.get?_push_of_some _ ((Heap.get?_update_ne _ _ _ _ hb).trans e)
  have k2 : ∀ b o, hp.get? b = some o → (h1.push (seqObj "list" #[] 0)).get? b = some o := fun b o e =>
    Heap.get?_push_of_some _ (k1 b o (Nat.ne_of_lt (Nat.lt_of_lt_of_le (Heap.lt_size e) hDnew)) (hold b o e))
  have g1 : (h1.push (seqObj "list" #[] 0)).get? D = some (seqObj "list" #[] e1) := Heap.get?_push_of_some _ (by rw [← hT]; exact Heap.get?_push_of_some _ he1)
  have g2 : (h1.push (seqObj "list" #[] 0)).get? kS = some (seqObj "list" #[] 0) := by rw [← hkk]; exact Heap.get?_push_size _ rfl
  have nD := pin_new I (b := D) hDnew
  have nK := pin_new I (b := kS) hkSnew
  have I2 : Inv X pins σ H ⟨h1.push (seqObj "list" #[] 0), g, dr, tk, os⟩ := I.kept (t' := tk) k2
  have seqne : ∀ (c : String) (xs : Array Value) (n : Nat) (v : Option Value), (seqObj c xs n).data ≠ .cell v := fun c xs n v z => by cases z
  have I3 : Inv X ((kS, seqObj "list" #[] 0) :: (D, seqObj "list" #[] e1) :: pins) σ H ⟨h1.push (seqObj "list" #[] 0), g, dr, tk, os⟩ := I2.pins_of (by
    intro p hp'
    rcases List.mem_cons.mp hp' with rfl | hp'
    · exact ⟨g2, nK.1, nK.2.1, nK.2.2.1, seqne _ _ _⟩
    rcases List.mem_cons.mp hp' with rfl | hp'
    · exact ⟨g1, nD.1, nD.2.1, nD.2.2.1, seqne _ _ _⟩
    · exact I2.pin p (List.mem_append_right _ hp'))
  show wpAny _ _ (ksk_rest D (.ref f) false its.toArray e1 (.ref kS)) _ _ ⟨h1.push (seqObj "list" #[] 0), g, dr, tk, os⟩
  unfold ksk_rest
  refine wpAny_bind (wpAny_rule ?_)
  rw [List.forIn_toArray]
  refine wpAny_bind (ksk_fold (fun i s' => ∃ kA e H', Same H H' ∧ Inv X ((kS, seqObj "list" kA e) :: (D, seqObj "list" #[] e1) :: pins) σ H' s' ∧
      EachIs (fun v x => ∃ y, RelV y v ∧ Dp X.K H' y (kd x)) kA.toList (ws.take i)) its 0 _
    ⟨#[], 0, H, Same.refl H, I3, by rw [List.take_zero]; exact .nil⟩ ?step ?done)
  case step =>
    rintro j u s' hu ⟨kA, e, H', sm, J, hk⟩
    simp only [Nat.zero_add] at hk ⊢
    obtain ⟨x, hx, t, rfl⟩ := each_get hE hu
    have hxm : x ∈ ws := List.mem_of_getElem? hx
    have hj : j < ws.length := (List.getElem?_eq_some_iff.mp hx).1
    have hklen : kA.size ≤ ws.length := by
      have := hk.length
      rw [Array.length_toList, List.length_take] at this
      omega
    have hsp := hkey x hxm H' sm (fun v H2 => Same H' H2 ∧ Dp X.K H2 v (kd x)) (fun v H2 s2 d2 => ⟨s2, d2⟩)
    have hb' := hb s' [.str x t] J.kIn rfl
    rw [List.append_nil] at hb'
    have run := F.run X.A.in1.in1 X.stack s' H' ⟨[.str x t], []⟩ [.str x t] [.str x] _ E0 (hr.in1.in1) (J.env0.in1.in1) hb' (.cons ⟨t, rfl⟩ .nil) hsp
    have call1 : wpAny (model X.prog X.w) X.A.in1.in1 (call (.ref f) [.str x t]) (CE X.stack X.prog X.w H' s' (fun v H2 => Same H' H2 ∧ Dp X.K H2 v (kd x))) (fun _ _ => False) s' := by
      refine wpAny_call (codeAny_mono run ?_)
      intro rr s2 hq2
      cases rr with
      | error e => exact hq2
      | ok fl =>
        cases fl with
        | ret u => exact hq2
        | next => exact hq2
        | brk => exact hq2
        | cont => exact hq2
    refine wpAny_bind (wpAny_attempt (wpAny_mono call1 ?_ (fun _ _ z => z.elim)))
    intro u s2 hu2
    obtain ⟨y, H2, J2, ry, sm2, dp2⟩ := J.after hu2
    obtain ⟨pk, pnK, pLK, pfK, _⟩ := J2.pin (kS, seqObj "list" kA e) (List.mem_append_right _ List.mem_cons_self)
    obtain ⟨pd, pnD, pLD, pfD, _⟩ := J2.pin (D, seqObj "list" #[] e1) (List.mem_append_right _ (List.mem_cons_of_mem _ List.mem_cons_self))
    have J3 : Inv X ((D, seqObj "list" #[] e1) :: pins) σ H2 s2 := J2.pins_of (by
      intro p hp'
      exact J2.pin p (List.mem_append_right _ (List.mem_cons_of_mem _ hp')))
    obtain ⟨hp2, g2', dr2, tk2, os2⟩ := s2
    refine wpAny_bind (listUpdate_at pk rfl ?_ (Nat.le_trans hklen (by rw [hwl]; exact hZ)) (by rw [Array.size_push]; exact Nat.succ_le_succ (Nat.le_trans hklen (by rw [hwl]; exact hZ))))
    have sb := Heap.SameBut.update hp2 kS (Obj.mapSeq (·.push u))
    obtain ⟨c2, hc2⟩ : ∃ c2, (hp2.update kS (Obj.mapSeq (·.push u))).get? kS = some (seqObj "list" (kA.push u) c2) := ⟨_, get?_update_seq pk (·.push u)⟩
    have pne : ∀ p ∈ X.pn ++ ((D, seqObj "list" #[] e1) :: pins), p.1 ≠ kS := by
      intro p hp'
      rcases List.mem_append.mp hp' with q | q
      · exact nK.2.2.2.2 p (List.mem_append_left _ q)
      rcases List.mem_cons.mp q with rfl | q
      · exact Ne.symm hDk
      · exact nK.2.2.2.2 p (List.mem_append_right _ q)
    have s0k : X.s_0.heap.objs.size ≤ kS := Nat.le_trans I.sz hkSnew
    have J4 := J3.turned (t' := tk2) (it := kS) (h' := hp2.update kS (Obj.mapSeq (·.push u))) (fun b o hb e => (sb.2 b hb).trans e) pnK pLK (Or.inr s0k) nK.2.2.2.1 pne
    have J5 : Inv X ((kS, seqObj "list" (kA.push u) c2) :: (D, seqObj "list" #[] e1) :: pins) σ H2 ⟨hp2.update kS (Obj.mapSeq (·.push u)), g2', dr2, tk2, os2⟩ := J4.pins_of (by
      intro p hp'
      rcases List.mem_cons.mp hp' with rfl | hp'
      · exact ⟨hc2, pnK, pLK, pfK, seqne _ _ _⟩
      · exact J4.pin p (List.mem_append_right _ hp'))
    refine wpAny_pure ⟨rfl, kA.push u, c2, H2, sm.trans sm2, J5, ?_⟩
    have ek : ws.take (j + 1) = ws.take j ++ [x] := by rw [List.take_add_one, hx]; rfl
    rw [ek, Array.toList_push]
    exact PySem.W.each_snoc ⟨y, ry, dp2⟩ (hk.mono fun v z ⟨y', r', d'⟩ => ⟨y', r', dp_same sm2 _ _ d'⟩)
  case done =>
    rintro s' ⟨kA, e, H', sm, J, hk⟩
    rw [List.take_of_length_le (by omega)] at hk
    obtain ⟨pk, pnK, pLK, pfK, _⟩ := J.pin (kS, seqObj "list" kA e) (List.mem_append_right _ List.mem_cons_self)
    obtain ⟨pd, pnD, pLD, pfD, _⟩ := J.pin (D, seqObj "list" #[] e1) (List.mem_append_right _ (List.mem_cons_of_mem _ List.mem_cons_self))
    have J1 : Inv X pins σ H' s' := J.pins_of (by
      intro p hp'
      exact J.pin p (List.mem_append_right _ (List.mem_cons_of_mem _ (List.mem_cons_of_mem _ hp'))))
    have hr' := each_reads J hk
    have hksz : kA.size = its.length := by
      have := hk.length
      rw [Array.length_toList] at this
      omega
    refine wpAny_bind (listItems_at pk rfl ?_)
    have kb : KeepsBut D (PySem.W.hideAll s'.heap [kS]) s'.heap := fun b o hb e => PySem.W.of_hideAll [kS] e
    have hu : ∀ d ∈ ws.map kd, X.A.in1.in1.units + d.depth < cLine := by
      intro d hd
      have h1 := hdep d hd
      have h2 := hr.un
      show X.A.units + 1 + 1 + d.depth < cLine
      omega
    refine PySem.W.keyH_end (κ := PySem.W.dataKind s'.heap (ws.map kd)) kb (PySem.W.hideAll_none [kS] List.mem_cons_self) pk pd hDk (PySem.W.SortsAt.data (s := s') hr' hal hsk hu) hksz hZ ?_
    intro h' tk' c kp hD'
    refine ⟨rfl, ?_⟩
    have hout : EachIs (fun (v : Value) (x : Str) => ∃ t, v = Value.str x t) (PySem.W.sortVals (PySem.W.dataKind s'.heap (ws.map kd)) false kA.toList its) (ws.mergeSort (dataLe false kd)) :=
      PySem.W.keyedOut_each (rev := false) kd ⟨s'.heap, kA.toList, hal, rfl, hr'⟩ hE
    have hv := vals_each_str hout
    have keep : ∀ b o, b ≠ D → b ≠ kS → s'.heap.get? b = some o → h'.get? b = some o := fun b o n1 n2 e =>
      kp b o n1 (PySem.W.hideAll_get [kS] e (by simpa using n2))
    have hn : H' D = none := pnD
    have hlen : ((ws.mergeSort (dataLe false kd)).map V.str).length ≤ sizeLine := by
      rw [List.length_map, List.length_mergeSort, hwl]; exact hZ
    refine ⟨.ref D, upd H' D (.lst ((ws.mergeSort (dataLe false kd)).map V.str)), ?_, rfl, hq H' D sm hn⟩
    have hne : ∀ b u, H' b = some u → b ≠ D ∧ b ≠ kS := fun b u q => ⟨ne_of_none q hn, ne_of_none q pnK⟩
    refine J1.step (ch := [D, kS]) (g' := s'.gens) (d' := s'.drawn) (t' := tk') ?_ ?_ ?_ ?_ ?_ ?_ ?_ ?_ ?_ ?_ J1.bare
    · intro b hb
      rcases List.mem_cons.mp hb with rfl | hb
      · exact ⟨Or.inr (Nat.le_trans I.sz hDnew), pLD, nD.2.2.2.1, nD.2.2.2.2⟩
      · rw [List.mem_singleton.mp hb]
        exact ⟨Or.inr (Nat.le_trans I.sz hkSnew), pLK, nK.2.2.2.1, nK.2.2.2.2⟩
    · intro b o _ _ hc e _
      exact keep b o (fun z => hc (by simp [z])) (fun z => hc (by simp [z])) e
    · intro b o _ _ hc e _
      exact ⟨o.slots, keep b o (fun z => hc (by simp [z])) (fun z => hc (by simp [z])) e⟩
    · intro b o hc e n
      rw [upd_ne (fun z => hc (by simp [z]))]
      exact n
    · intro b o hc e
      exact ⟨o, keep b o (fun z => hc (by simp [z])) (fun z => hc (by simp [z])) e⟩
    · intro b xs e
      rw [upd_ne (hne b _ e).1]; exact e
    · intro b o u e
      rw [upd_ne (hne b _ e).1]; exact e
    · intro b ps e
      exact ⟨#[], by rw [upd_ne (hne b _ e).1, e]; simp⟩
    · rintro m ⟨o, es, ep, ho, rest⟩
      exact ⟨o, es, ep, keep _ o (Ne.symm pLD) (Ne.symm pLK) ho, rest⟩
    · intro b u e
      by_cases hb : b = D
      · subst hb
        rw [upd_same] at e
        cases e
        exact ⟨hlen, _, c, hv, hD'⟩
      · rw [upd_ne hb] at e
        refine (J1.hok b u e).stay (fun z w' hz q => keep z w' ?_ ?_ q) (fun z q => ?_) (fun z xs q => ?_)
        · rcases hz with rfl | hz
          · exact hb
          · exact (hne z _ hz).1
        · rcases hz with rfl | hz
          · exact (hne z _ e).2
          · exact (hne z _ hz).2
        · rw [upd_ne (hne z _ q).1]; exact q
        · rw [upd_ne (hne z _ q).1]; exact q
end
end LF

set_option Elab.async false
set_option linter.all false
set_option maxRecDepth 100000
set_option maxHeartbeats 4000000
namespace LF
open PySem PySem.Spec PySem.Calls PyProof.Rows
open PySem.W (Looks InstAt findIn specialIn takesIn subIn mroIn hasDictIn clsIn findObj looks_findIn looks_find looks_subIn any_some)

section
variable {prog : Program} {w : World} {A : Around} {E : Value → Shared → Prop} {s : Shared} {K : PySem.W.Frag} {x D : Addr} {ox : Obj} {od : Option Obj}

/-- an error's class asked of the error itself, whether it has a dict or none -/
theorem errClass (C : L2.ExcC K D) {Q : Option Value → Shared → Prop} (X : K.In s.heap) (I : InstAt s.heap x ox D od)
    (h : Q (some (.ref D)) { s with toks := s.toks + 1 }) : wpAny (model prog w) A (getAttr? (.ref x) "__class__") Q E s := by
  have hf : findObj K D od "__class__" = some (.bind (.builtin "getset_descriptor.__get__") (.builtin "object.__class__")) := by
    obtain ⟨cd, e, _⟩ := any_some C.hd
    simp only [findObj, e, C.ha, C.hn, C.ht, Option.bind_some]
  obtain ⟨hh, gg, dd, tt, oo⟩ := s
  have lt := I.type (M := model prog w)
  have lg := looks_findIn (M := model prog w) X C.hg
  have lk := looks_findIn (M := model prog w) X C.hk
  have lf := looks_find (M := model prog w) X I hf
  have ls : Looks (model prog w) hh (isInstance (.ref x) (.type "BaseException")) true := lt.andThen (looks_subIn X C.hs)
  have z0 : (Value.builtin "BaseException.__getattribute__" == Value.builtin "object.__getattribute__") = false := by decide +kernel
  have z1 : (onTheHeap (Value.ref D) && Value.builtin "BaseException.__getattribute__" == Value.builtin "object.__getattribute__") = false := by
    rw [z0]; rfl
  have z2 : (false && onTheHeap (Value.builtin "BaseException.__getattribute__")) = false := rfl
  unfold getAttr? getAttrBy? getAttrBy
  refine wpAny_bind (wpAny_mkText (wpAny_bind (wpAny_attempt (wpAny_holding (wpAny_bind (lt.at (wpAny_bind (lg.at ?_))))))))
  show wpAny _ _ (if (onTheHeap (Value.ref D) && Value.builtin "BaseException.__getattribute__" == Value.builtin "object.__getattribute__") = true
    then _ else _) _ _ _
  rw [z1, if_neg Bool.false_ne_true]
  unfold getAttrByItsOwn hookBefore
  apply wpAny_bind
  rw [if_pos (show onTheHeap (Value.ref D) = true from rfl)]
  apply lk.at
  refine wpAny_bind (wpAny_attempt (wpAny_holding ?_))
  unfold callGetattribute
  rw [z2, if_neg Bool.false_ne_true]
  unfold boundAndCalled
  rw [PySem.F.excAttr_ValueError.ga.bind (.ref x)]
  apply wpAny_bind
  apply wpAny_pure
  show wpAny _ _ (call (.builtin "BaseException.__getattribute__") [.ref x, .str "__class__" tt]) _ _ _
  refine wpAny_call (codeAny_call_builtin PySem.F.excAttr_ValueError.ga.plain PySem.F.entry_bexc_ga ?_)
  refine @PySem.W.check_slot (model prog w) _ _ ⟨hh, gg, dd, tt + 1, oo⟩ "BaseException.__getattribute__" "BaseException" "__getattribute__"
    (.ref x) [.str "__class__" tt] [] _ (by decide +kernel) (by decide +kernel) ls (PySem.F.args_bexc_ga (.ref x) (.str "__class__" tt)) ?_
  unfold Builtin.«object.__getattribute__»
  refine wpAny_bind (wpAny_of_eq (a := ((Value.ref x : Value), [Value.str "__class__" tt])) (by
    first
      | rfl
      | (simp only [slotArgs]; rfl)) ?_)
  refine wpAny_bind (wpAny_pure (wpAny_bind (lt.at (wpAny_bind (lf.at ?_)))))
  show wpAny _ _ (holding [Value.builtin "object.__class__"]
    (call (.builtin "getset_descriptor.__get__") [.builtin "object.__class__", .ref x, .ref D]) >>= ret) _ _ _
  refine wpAny_bind (wpAny_holding (wpAny_call (PySem.W.class_get (s := ⟨hh, gg, dd, tt + 1, oo⟩) X I C.hm ?_)))
  apply wpAny_pure
  show wpAny _ _ (handedOut (.ref D)) _ _ _
  rw [PySem.W.handedOut_of (v := .ref D) rfl]
  first
    | exact wpAny_pure (wpAny_pure h)
    | exact wpAny_pure h
    | exact wpAny_pure (wpAny_bind (wpAny_pure (wpAny_pure h)))

theorem errKit (C : L2.ExcC K D) : PySem.W.KitX K (.ref x) (.ref D) (fun h => ∃ ox od, InstAt h x ox D od) := by
  have cls : ∃ c d cd sl, K.lookup D = some ⟨c, d, .cls cd, sl⟩ := by
    obtain ⟨cd, e, _⟩ := any_some C.hd
    unfold clsIn at e
    split at e
    · rename_i c d cd' sl e'
      exact ⟨c, d, cd', sl, e'⟩
    · exact nomatch e
  obtain ⟨c, d, cd, sl, hl⟩ := cls
  refine ⟨fun M h X q => ?_, fun M h X q => ?_, fun h tp ddd its n sl' X ht => ?_, fun X q k => ?_⟩
  · obtain ⟨_, _, I⟩ := q
    exact I.type
  · intro A' Q' E' s' k q'
    unfold isType loadHead
    exact wpAny_bind (wpAny_loadPart (k _ _ (X _ _ hl)) (wpAny_pure q'))
  · cases hq : (Value.ref D == .ref tp) with
    | false => rfl
    | true =>
      have e : D = tp := Value.ref.inj (beq_iff_eq.mp hq)
      subst e
      exact nomatch (X _ _ hl).symm.trans ht
  · obtain ⟨_, _, I⟩ := q
    exact errClass C X I k
end
end LF

namespace LF
open PySem PySem.Spec PyProof.Rows L2
/-- isinstance(e, c) and isinstance(e, (c, ..)) of the error that the suite holds, with its own dict -/
def rIsErr (K : PySem.W.Frag) (D a : Addr) : List V → Hp → VK → Prop := fun xs H Q =>
  (∃ (c : V) (cv : Value) (b : Bool), xs = [.ref a, c] ∧ (∀ u, RelV c u → u = cv) ∧ PySem.W.kitOne K (.ref D) cv = some b ∧ Q (.bl b) H) ∨
  (∃ (tp : Addr) (cs : List V) (us : List Value) (b : Bool), xs = [.ref a, .ref tp] ∧ H tp = some (.tup cs) ∧ Paired ClsV cs us ∧
    PySem.W.kitAny K (.ref D) us = some b ∧ Q (.bl b) H)

theorem call_isErr {X : Cx} {a D : Addr} {oe : Obj} {cls : Value} {d : Option Addr} {pn : List (Addr × Obj)} (C : ExcC X.K D) (hz : Zc cls d oe)
    (hf : ∃ vs, oe.data = .fields vs) :
    CallR (X.suite a ((a, oe) :: pn)) (.builtin "isinstance")
      (fun xs H Q => cls = .ref D ∧ (∀ e, d = some e → ∃ fs, H e = some (.xd fs)) ∧ rIsErr X.K D a xs H Q) := by
  intro pins s σ H xs us Q I r h
  obtain ⟨ec0, hde, h⟩ := h
  subst ec0
  obtain ⟨hget, _⟩ := I.pin (a, oe) (List.mem_append.mpr (.inl List.mem_cons_self))
  obtain ⟨vs, hv⟩ := hf
  have J : ∃ ox od, PySem.W.InstAt s.heap a ox D od := by
    obtain ⟨oc, odd, oda, osl⟩ := oe
    obtain ⟨h1, h2⟩ := hz
    dsimp only at h1 h2 hv
    subst h1 h2 hv
    cases odd with
    | none => exact ⟨_, none, hget, rfl, rfl, trivial⟩
    | some e =>
      obtain ⟨fs, he⟩ := hde e rfl
      obtain ⟨mA, hns, _⟩ := (show ObjOk X.prog X.w H s.heap e (.xd fs) from I.hok e _ he)
      obtain ⟨od, ho, _⟩ := L2.lookIn_ns hns
      exact ⟨_, some od, hget, rfl, rfl, ho⟩
  rcases h with ⟨c, cv, b, rfl, hcv, e, q⟩ | ⟨tp, cs, ws, b, rfl, hT, k, e, q⟩
  · obtain ⟨u1, u2, rfl, r1, r2⟩ := vals2 r
    cases (show u1 = Value.ref a from r1)
    have ec := hcv _ r2
    subst ec
    exact PySem.W.kia_one (errKit C) I.kIn J e (fun z => nomatch z) fun tk => ⟨.bl b, H, I.tok tk, rfl, q⟩
  · obtain ⟨u1, u2, rfl, r1, r2⟩ := vals2 r
    cases (show u1 = Value.ref a from r1)
    cases (show u2 = Value.ref tp from r2)
    obtain ⟨_, its, rv, o, h1, h2, n, h3⟩ := (show ObjOk X.prog X.w H s.heap tp (.tup cs) from I.hok tp _ hT)
    have e3 := ClsV.all k rv
    subst e3
    obtain ⟨oc, od, dt, sl⟩ := o
    simp only at h2 h3
    subst h2 h3
    exact PySem.W.kia_tup (errKit C) I.kIn J h1 e (fun z => nomatch z) fun tk => ⟨.bl b, H, I.tok tk, rfl, q⟩
end LF

set_option Elab.async false
set_option linter.all false
set_option maxRecDepth 100000
set_option maxHeartbeats 4000000
namespace LF
open PySem PySem.Spec PyProof.Rows L2
def lettersN : Str := "abcdefghijklmnopqrstuvwxyz"
theorem low_code : ∀ c : Fin 128, (Unicode.isAlpha c.1 && !(Unicode.isUpper c.1 || Unicode.isTitle c.1)) = decide (c.1 ∈ lettersN.cps.toList) := by decide +kernel
theorem low_lower : ∀ c : Fin 128, c.1 ∈ lettersN.cps.toList → Unicode.isLower c.1 = true ∧ Unicode.isAlpha c.1 = true := by decide +kernel
theorem low_lt : ∀ c ∈ lettersN.cps.toList, c < 128 := by decide +kernel
theorem arr_all (a : Array Nat) (p : Nat → Bool) : a.all p = a.toList.all p := by rw [Array.all_toList]
theorem arr_any (a : Array Nat) (p : Nat → Bool) : a.any p = a.toList.any p := by rw [Array.any_toList]
/-- ASCII letters without capitals are a to z -/
theorem isLow {z : Str} (hz : 1 ≤ z.length) : (Txt.isascii z && (Txt.isalpha z && Txt.islower z)) = z.cps.toList.all fun c => decide (c ∈ lettersN.cps.toList) := by
  unfold Txt.isascii Txt.isalpha Txt.islower
  rw [arr_all, arr_all, arr_any, arr_any]
  have hl : z.cps.toList.length = z.length := by simp [Str.length]
  have hp : decide (z.length > 0) = true := decide_eq_true (by omega)
  rw [hp, Bool.true_and]
  generalize z.cps.toList = l at hl
  rw [Bool.eq_iff_iff]
  simp only [Bool.and_eq_true, List.all_eq_true, List.any_eq_true, Bool.not_eq_true', List.any_eq_false, decide_eq_true_eq, Bool.or_eq_true, not_or, Bool.not_eq_true]
  constructor
  · rintro ⟨h1, h2, ⟨_, _⟩, h4⟩ c hc
    have := low_code ⟨c, h1 c hc⟩
    simp only [h2 c hc, Bool.true_and] at this
    obtain ⟨h5, h6⟩ := h4 c hc
    rw [h5, h6] at this
    exact of_decide_eq_true this.symm
  · intro h
    have f := fun c hc => low_lower ⟨c, low_lt c (h c hc)⟩ (h c hc)
    refine ⟨fun c hc => low_lt c (h c hc), fun c hc => (f c hc).2, ?_, fun c hc => ?_⟩
    · cases l with
      | nil => simp at hl; omega
      | cons a l => exact ⟨a, List.mem_cons_self, (f a List.mem_cons_self).1⟩
    · have := low_code ⟨c, low_lt c (h c hc)⟩
      rw [(f c hc).2, Bool.true_and, decide_eq_true (h c hc)] at this
      simpa using this
/-- z.isascii() and its like -/
theorem pe_isascii {X : Cx} {o : Expr} {to : TE} {apos pos : Pos} (ho : PE X o to)
    (hbase : attributeBase o "isascii" X.env (eval o X.env) = eval o X.env := by rfl) (hline : (apos.endLine == pos.line) = true := by rfl) :
    PE X (.Call (.Attribute o "isascii" apos) [] [] pos) (tM0 (fun x xs H Q => ∃ a, x = .str a ∧ xs = [] ∧ True ∧ Q (.bl (Txt.isascii a)) H) to) :=
  pe_m0 F.slot_str_isascii F.type_str_isascii mt_isascii ho hbase hline
theorem pe_isalpha {X : Cx} {o : Expr} {to : TE} {apos pos : Pos} (ho : PE X o to)
    (hbase : attributeBase o "isalpha" X.env (eval o X.env) = eval o X.env := by rfl) (hline : (apos.endLine == pos.line) = true := by rfl) :
    PE X (.Call (.Attribute o "isalpha" apos) [] [] pos) (tM0 (fun x xs H Q => ∃ a, x = .str a ∧ xs = [] ∧ True ∧ Q (.bl (Txt.isalpha a)) H) to) :=
  pe_m0 F.slot_str_isalpha F.type_str_isalpha mt_isalpha ho hbase hline
theorem pe_islower {X : Cx} {o : Expr} {to : TE} {apos pos : Pos} (ho : PE X o to)
    (hbase : attributeBase o "islower" X.env (eval o X.env) = eval o X.env := by rfl) (hline : (apos.endLine == pos.line) = true := by rfl) :
    PE X (.Call (.Attribute o "islower" apos) [] [] pos) (tM0 (fun x xs H Q => ∃ a, x = .str a ∧ xs = [] ∧ True ∧ Q (.bl (Txt.islower a)) H) to) :=
  pe_m0 F.slot_str_islower F.type_str_islower mt_islower ho hbase hline
end LF

set_option Elab.async false
set_option linter.all false
set_option maxRecDepth 100000
set_option maxHeartbeats 4000000
namespace LF
open PySem PySem.Spec PyProof.Rows L2
/-- a def of the text: its promise, its place, how it is bound -/
structure DefAt (P : Program) (w : World) (K : PySem.W.Frag) (mg : Str → Option Value) (base : Heap) (x : Str) (k : Nat) (f : Addr) (fd : FuncData) (ps : List Str) (sp : Sp) : Prop where
  F : FnOk P w K mg base CX0 k f fd ps sp
  g : mg x = some (.ref f)
  kp : PySem.W.keepIn K (.ref f) = true
  b : Binds K fd ps []
theorem pe_callD {X : Cx} {x : Str} {k : Nat} {f : Addr} {fd : FuncData} {ps : List Str} {sp : Sp} {p pos : Pos} {e : Expr} {es : List Expr} {t : TA}
    (D : DefAt X.prog X.w X.K X.mg X.base x k f fd ps sp) (hr : Room k X.A) (ha : PA X (e :: es) t) (hg : Gl X x := by rfl)
    (hdb : (x == ("__debug__" : Str)) = false := by decide)
    (he : starEach (e :: es) X.env = (false, eval e X.env) :: starEach es X.env := by rfl) (hpl : (backTo pos (starEach es X.env)).any (·.1) = false := by rfl) :
    PE X (.Call (.Name x p) (e :: es) [] pos) (tCall sp [] E0 t) := pe_call D.F hr hg D.g D.kp D.b .nil pass0 ha hdb he hpl

/-- x.rpartition(sep) -/
theorem mt_rpartition {X : Cx} : MtR X "str.rpartition" (fun x xs H Q => ∃ a b, x = .str a ∧ xs = [.str b] ∧ (b.length == 0) = false ∧ a.length ≤ sizeLine ∧
    ∀ p, H p = none → Q (.ref p) (upd H p (.tup [.str (Txt.rpartition a b).1, .str (Txt.rpartition a b).2.1, .str (Txt.rpartition a b).2.2]))) := by
  rintro pins s σ H x xs v us Q I rx rs ⟨a, b, rfl, rfl, hb, hz, h⟩
  obtain ⟨t, rfl⟩ := rx
  obtain ⟨u, rfl, t2, rfl⟩ := vals1 rs
  refine call_meets F.slot_str_rpartition (typeIs_str _ _ _) F.entry_str_rpartition (F.args_str_rpartition_2 _ _) (meets_str_rpartition a b t t2 hb hz) ?_
  unfold Txt.rpartition at h
  revert h
  cases Builtin.Str.lastOccurrence a b 0 a.length with
  | none => exact fun h => laid_parts I h
  | some i => exact fun h => laid_parts I h
theorem pe_rpartition {X : Cx} {o e : Expr} {to te : TE} {apos pos : Pos} (ho : PE X o to) (he : PE X e te) (hs : starEach [e] X.env = [(false, eval e X.env)] := by rfl)
    (hbase : attributeBase o "rpartition" X.env (eval o X.env) = eval o X.env := by rfl) (hline : (apos.endLine == pos.line) = true := by rfl) :
    PE X (.Call (.Attribute o "rpartition" apos) [e] [] pos) (tM1 (fun x xs H Q => ∃ a b, x = .str a ∧ xs = [.str b] ∧ (b.length == 0) = false ∧ a.length ≤ sizeLine ∧
      ∀ p, H p = none → Q (.ref p) (upd H p (.tup [.str (Txt.rpartition a b).1, .str (Txt.rpartition a b).2.1, .str (Txt.rpartition a b).2.2]))) to te) :=
  pe_m1 F.slot_str_rpartition F.type_str_rpartition mt_rpartition ho he hs hbase hline
end LF

namespace LF
theorem ifD {p : Prop} [Decidable p] {A B : Prop} (h1 : p → A) (h2 : ¬ p → B) : if decide p = true then A else B := by
  by_cases h : p
  · rw [if_pos (decide_eq_true h)]; exact h1 h
  · rw [if_neg (by rw [decide_eq_false h]; exact Bool.false_ne_true)]; exact h2 h
theorem ifN {p : Prop} [Decidable p] {A B : Prop} (h1 : p → B) (h2 : ¬ p → A) : if (!decide p) = true then A else B := by
  by_cases h : p
  · rw [if_neg (by rw [decide_eq_true h]; exact Bool.false_ne_true)]; exact h1 h
  · rw [if_pos (by rw [decide_eq_false h]; rfl)]; exact h2 h
end LF
namespace K2
open PySem PySem.Spec PyProof.Rows L2 LF
def topS (i : Nat) : Stmt := PySem.Challenge.pw_linkfarms_k02_paths_made_and_ordered.main.body.getD i (.Pass ⟨0, 0, 0, 0⟩)
def letters : Str := "abcdefghijklmnopqrstuvwxyz"
def isNm (z : Str) : Bool := decide (1 ≤ z.length ∧ z.length ≤ 8) && z.cps.toList.all fun c => decide (c ∈ letters.cps.toList)
/-- what the top has written, but the defs -/
structure Txt (K : PySem.W.Frag) (mg : Str → Option Value) (tk1 tk2 : Tok) : Prop where
  g_LONGEST_NAME : mg "LONGEST_NAME" = some (.int 8 tk2)
  n_isinstance : mg "isinstance" = none
  n_str : mg "str" = none
  n_len : mg "len" = none
  n_all : mg "all" = none
  n_tuple : mg "tuple" = none
  n_list : mg "list" = none
  n_sorted : mg "sorted" = none
  n_range : mg "range" = none
  n_abs : mg "abs" = none
  n_int : mg "int" = none
  n_repr : mg "repr" = none
  n_max : mg "max" = none
  n_min : mg "min" = none

def notStr : List String := ["NoneType", "int", "bool", "list", "tuple"]
def spName (K : PySem.W.Frag) : Sp := fun vs H Q _ => ∃ x, vs = [x] ∧
  ((∃ z : Str, x = .str z ∧ z.length ≤ 1000000 ∧ ∀ H', Same H H' → Q (.bl (isNm z)) H') ∨
   (∃ t, t ∈ notStr ∧ TyX K H x (.type t) ∧ ∀ H', Same H H' → Q (.bl false) H'))

abbrev s_is_name : Stmt := topS 6
abbrev N_is_name : List Str := ["thing"]
theorem sc_is_name : FnScope ["thing"] ["thing"] (defScope s_is_name) := ⟨rfl, rfl, rfl, by decide +kernel, rfl, by decide +kernel, by decide +kernel⟩

theorem kit_no {K : PySem.W.Frag} {t : String} (h : t ∈ notStr) : PySem.W.kitOne K (.type t) (.type "str") = some false := by
  simp only [notStr, List.mem_cons, List.not_mem_nil, or_false] at h
  rcases h with rfl | rfl | rfl | rfl | rfl <;> exact kit_ty (by decide +kernel)
theorem kit_str {K : PySem.W.Frag} : PySem.W.kitOne K (.type "str") (.type "str") = some true := kit_ty (by decide +kernel)
section
variable {P : Program} {w : World} {K : PySem.W.Frag} {mg : Str → Option Value} {base : Heap} {tk1 tk2 : Tok}
theorem ok_is_name {f : Addr} {fd : FuncData} (F : Fun K "is_name" "is_name" s_is_name f fd) (T : Txt K mg tk1 tk2) : FnOk P w K mg base CX0 1 f fd ["thing"] (spName K) := by
  refine F.ok sc_is_name (fun vs H Q E h => ?_) (fun cdv A outer s H vs Q E hr h => ?_)
  · obtain ⟨x, rfl, _⟩ := h
    rfl
  refine ⟨_, (pss_one (ps_ret (pe_and (pe_callB call_isi (by rfl) T.n_isinstance (by decide +kernel) (pa_cons (pv 0) (pa_cons (pe_bltn (v := .ty "str") (by rfl) T.n_str (by decide +kernel) rfl) pa_nil))) (pe_and (pe_chain op_le op_le pe_int (pe_callB call_len_str (by rfl) T.n_len (by decide +kernel) (pa_cons (pv 0) pa_nil)) (pe_glob (v := .int 8) rfl T.g_LONGEST_NAME ⟨_, rfl⟩)) (pe_and (pe_isascii (pv 0)) (pe_and (pe_isalpha (pv 0)) (pe_one (pe_islower (pv 0))))))))), ?_⟩
  obtain ⟨x, rfl, h⟩ := h
  rcases h with ⟨z, rfl, hz, hq⟩ | ⟨t, ht, ty, hq⟩
  · refine ⟨_, rfl, _, .ty "str", _, _, true, rfl, .ty _, .base (.str _), kit_str, ?_⟩
    refine ⟨_, rfl, iteT ?_⟩
    have hl : z.length ≤ sizeLine := Nat.le_trans hz (by decide)
    have q0 := hq H (Same.refl H)
    have fin : isNm z = (decide (1 ≤ z.length ∧ z.length ≤ 8) && (PySem.Txt.isascii z && (PySem.Txt.isalpha z && PySem.Txt.islower z))) := by
      unfold isNm
      by_cases h1 : 1 ≤ z.length
      · rw [isLow h1]; rfl
      · rw [decide_eq_false (by omega)]; rfl
    rw [fin] at q0
    refine ⟨_, rfl, z, rfl, hl, _, _, rfl, rfl, _, rfl, ?_⟩
    refine ifD (fun h1 => ?_) (fun h1 => ?_)
    · refine ⟨_, _, rfl, rfl, _, rfl, ?_⟩
      refine ifD (fun h2 => ?_) (fun h2 => ?_)
      · rw [decide_eq_true (show 1 ≤ z.length ∧ z.length ≤ 8 by omega), Bool.true_and] at q0
        refine ⟨_, rfl, ⟨_, rfl⟩, z, rfl, rfl, trivial, _, rfl, ?_⟩
        cases e1 : PySem.Txt.isascii z with
        | false => rw [e1] at q0; exact iteF q0
        | true =>
          rw [e1, Bool.true_and] at q0
          refine iteT ⟨_, rfl, ⟨_, rfl⟩, z, rfl, rfl, trivial, _, rfl, ?_⟩
          cases e2 : PySem.Txt.isalpha z with
          | false => rw [e2] at q0; exact iteF q0
          | true =>
            rw [e2, Bool.true_and] at q0
            exact iteT ⟨_, rfl, ⟨_, rfl⟩, z, rfl, rfl, trivial, q0⟩
      · rw [decide_eq_false (by omega), Bool.false_and] at q0
        exact q0
    · rw [decide_eq_false (by omega), Bool.false_and] at q0
      refine ⟨_, rfl, ?_⟩
      exact q0
  · have q0 := hq H (Same.refl H)
    refine ⟨_, rfl, _, .ty "str", _, _, false, rfl, .ty _, ty, kit_no ht, ?_⟩
    exact ⟨_, rfl, iteF q0⟩
end
end K2

set_option Elab.async false
set_option linter.all false
set_option maxRecDepth 100000
set_option maxHeartbeats 4000000
namespace LF
open PySem PySem.Spec PyProof.Rows L2
/-- all that was tracked but b is as it was -/
def Keep (b : Addr) (H H' : Hp) : Prop := ∀ a o, a ≠ b → H a = some o → H' a = some o
theorem Keep.refl (b : Addr) (H : Hp) : Keep b H H := fun _ _ _ e => e
theorem Keep.trans {b : Addr} {H H1 H2 : Hp} (x : Keep b H H1) (y : Keep b H1 H2) : Keep b H H2 := fun a o n e => y a o n (x a o n e)
theorem Same.keep {b : Addr} {H H' : Hp} (s : Same H H') : Keep b H H' := fun a o _ e => s a o e
theorem same_upd {H H' : Hp} {D : Addr} {o : HO} (hD : H D = none) (s : Same H H') : Same H (upd H' D o) := fun b u e => by
  rw [upd_ne (ne_of_none e hD)]; exact s b u e
theorem same_new {H : Hp} {D : Addr} {o : HO} (hD : H D = none) : Same H (upd H D o) := same_upd hD (Same.refl H)
theorem keep_upd {b : Addr} {H H' : Hp} {D : Addr} {o : HO} (hD : H D = none) (s : Keep b H H') : Keep b H (upd H' D o) := fun a u n e => by
  rw [upd_ne (ne_of_none e hD)]; exact s a u n e
theorem keep_put {b : Addr} {H H' : Hp} {o : HO} (s : Keep b H H') : Keep b H (upd H' b o) := fun a u n e => by
  rw [upd_ne n]; exact s a u n e
theorem Keep.free {b : Addr} {H H' : Hp} (s : Keep b H H') {D : Addr} (n : D ≠ b) (h : H' D = none) : H D = none := by
  cases q : H D with
  | none => rfl
  | some o => rw [s D o n q] at h; cases h
theorem keep_seq {b a : Addr} {H H' : Hp} {K : PySem.W.Frag} {xs : List V} (s : Keep b H H') (n : a ≠ b) (h : SqL K H a xs) : SqL K H' a xs := by
  rcases h with (h | ⟨o, h⟩) | h
  · exact Or.inl (Or.inl (s _ _ n h))
  · exact Or.inl (Or.inr ⟨o, s _ _ n h⟩)
  · exact Or.inr h

/-- the law's bag of draws -/
def BagAt (H : Hp) (b : Addr) : Prop := ∃ d x n : Int, H b = some (.lst [.int d, .int x, .int n]) ∧ 0 ≤ d ∧ 0 ≤ x ∧ x < 2147483647
theorem BagAt.keep {H H' : Hp} {b a : Addr} (h : BagAt H b) (s : Keep a H H') (n : b ≠ a) : BagAt H' b := by
  obtain ⟨d, x, m, e, r⟩ := h
  exact ⟨d, x, m, s _ _ n e, r⟩
theorem BagAt.same {H H' : Hp} {b : Addr} (h : BagAt H b) (s : Same H H') : BagAt H' b := by
  obtain ⟨d, x, m, e, r⟩ := h
  exact ⟨d, x, m, s _ _ e, r⟩
theorem BagAt.ne {H : Hp} {b D : Addr} (h : BagAt H b) (hD : H D = none) : D ≠ b := by
  obtain ⟨d, x, m, e, r⟩ := h
  exact Ne.symm (ne_of_none e hD)

section
variable {K : PySem.W.Frag} {a D b : Addr} {xs : List V} {tt : TT} {te : TE} {j : Nat} {σ : L2.St} {H : Hp} {Qd : Hp → Prop}
/-- a comprehension over a list, nothing tracked is changed: filter and map -/
theorem lc_filt (p : V → Bool) (f : V → V) (hD : H D = none) (hS : SqL K H a xs) (hlen : xs.length < sizeLine)
    (ht : ∀ x H1 (R : Bool → Hp → Prop), x ∈ xs → Same H H1 → (∀ H3, Same H1 H3 → R (p x) H3) → tt ((wipe σ [j]).set j (some x)) H1 R)
    (he : ∀ x H1 (R : V → Hp → Prop), x ∈ xs → p x = true → Same H H1 → (∀ H3, Same H1 H3 → R (f x) H3) → te ((wipe σ [j]).set j (some x)) H1 R)
    (hd : ∀ H', Same H H' → H' D = some (.lst ((xs.filter p).map f)) → Qd H') :
    ∃ W : Nat → Nat → Hp → Prop, (∃ m, W 0 m (upd H D (.lst []))) ∧ ∀ i m H, W i m H →
      ((Itl K a).stop i H ∧ Qd H) ∨ ((Itl K a).go i H ∧ ∃ Nx : Hp → Prop, (∀ H', Nx H' → ∃ m', m' < m ∧ W (i + 1) m' H') ∧ ∀ x H', (Itl K a).yld i H x H' → gName j x (wipe σ [j]) H' fun σ2 H2 => wipe σ2 [j] = wipe σ [j] ∧ tt σ2 H2 fun b H3 =>
        if b = true then te σ2 H3 fun y H4 => ∃ acc, H4 D = some (.lst acc) ∧ acc.length < sizeLine ∧ Nx (upd H4 D (.lst (acc ++ [y]))) else Nx H3) := by
  refine lc_list (Pv := fun i H' => Same H H' ∧ H' D = some (.lst (((xs.take i).filter p).map f))) ⟨same_new hD, upd_same⟩ (fun i H' _ h => sqL_same h.1 hS) ?_ ?_
  · rintro i x H1 hx ⟨sm, hd1⟩
    have hm := List.mem_of_getElem? hx
    have et : xs.take (i + 1) = xs.take i ++ [x] := by rw [List.take_add_one, hx]; rfl
    have hl : (((xs.take i).filter p).map f).length < sizeLine := by
      rw [List.length_map]
      have h1 : ((xs.take i).filter p).length ≤ (xs.take i).length := List.length_filter_le _ _
      have h2 : (xs.take i).length ≤ xs.length := by rw [List.length_take]; exact Nat.min_le_right _ _
      omega
    refine ⟨?_, ht x H1 _ hm sm fun H3 s3 => ?_⟩
    · show (wipe ((wipe σ [j]).set j (some x)) [j]) = wipe σ [j]
      show (((σ.set j none).set j (some x)).set j none) = σ.set j none
      simp
    · cases hp : p x with
      | true =>
        refine iteT (he x H3 _ hm hp (sm.trans s3) fun H4 s4 => ?_)
        refine ⟨_, s4 _ _ (s3 _ _ hd1), hl, same_upd hD ((sm.trans s3).trans s4), ?_⟩
        rw [upd_same, et, List.filter_append, List.map_append]
        simp [hp]
      | false =>
        refine iteF ⟨sm.trans s3, ?_⟩
        rw [s3 _ _ hd1, et, List.filter_append, List.map_append]
        simp [hp]
  · rintro H1 ⟨sm, hd1⟩
    rw [List.take_length] at hd1
    exact hd H1 sm hd1
/-- a comprehension over range(n) whose element draws from the bag at b -/
theorem lc_draw {lo : Int} {n : Nat} (Good : V → Prop) (hb : BagAt H b) (hD : H D = none) (hlen : n < sizeLine)
    (he : ∀ i H1 (R : V → Hp → Prop), i < n → Keep b H H1 → BagAt H1 b → (∀ y H3, Keep b H1 H3 → BagAt H3 b → Good y → R y H3) → te ((wipe σ [j]).set j (some (.int (lo + i)))) H1 R)
    (hd : ∀ H' acc, Keep b H H' → BagAt H' b → H' D = some (.lst acc) → acc.length = n → (∀ y ∈ acc, Good y) → Qd H') :
    ∃ W : Nat → Nat → Hp → Prop, (∃ m, W 0 m (upd H D (.lst []))) ∧ ∀ i m H, W i m H →
      ((Itr lo n).stop i H ∧ Qd H) ∨ ((Itr lo n).go i H ∧ ∃ Nx : Hp → Prop, (∀ H', Nx H' → ∃ m', m' < m ∧ W (i + 1) m' H') ∧ ∀ x H', (Itr lo n).yld i H x H' → gName j x (wipe σ [j]) H' fun σ2 H2 => wipe σ2 [j] = wipe σ [j] ∧ tYes σ2 H2 fun b H3 =>
        if b = true then te σ2 H3 fun y H4 => ∃ acc, H4 D = some (.lst acc) ∧ acc.length < sizeLine ∧ Nx (upd H4 D (.lst (acc ++ [y]))) else Nx H3) := by
  have nDb := hb.ne hD
  refine lc_range (Pv := fun i H' => Keep b H H' ∧ BagAt H' b ∧ ∃ acc, H' D = some (.lst acc) ∧ acc.length = i ∧ ∀ y ∈ acc, Good y)
    ⟨keep_upd hD (Keep.refl b H), hb.same (same_new hD), [], upd_same, rfl, fun _ h => nomatch h⟩ ?_ ?_
  · rintro i H1 hi ⟨kp, bg, acc, hacc, hl, hg⟩
    refine ⟨?_, ?_⟩
    · show (((σ.set j none).set j (some (V.int (lo + i)))).set j none) = σ.set j none
      simp
    · refine he i H1 _ hi kp bg fun y H3 k3 b3 gy => ?_
      have h3 := k3 D _ nDb hacc
      refine ⟨acc, h3, by omega, keep_upd hD (kp.trans k3), ?_, acc ++ [y], upd_same, by simp [hl], ?_⟩
      · obtain ⟨d, x, m, e, r⟩ := b3
        exact ⟨d, x, m, by rw [upd_ne nDb.symm]; exact e, r⟩
      · intro z hz
        rcases List.mem_append.mp hz with q | q
        · exact hg z q
        · rw [List.mem_singleton.mp q]; exact gy
  · rintro H1 ⟨kp, bg, acc, hacc, hl, hg⟩
    exact hd H1 acc kp bg hacc hl hg
end
end LF

set_option Elab.async false
set_option linter.all false
set_option maxRecDepth 100000
set_option maxHeartbeats 4000000
namespace K2
open PySem PySem.Spec PyProof.Rows L2 LF
def c_sl : Str := "/"
def parts (z : Str) : List Str := if z = "" then [] else PySem.Txt.split z c_sl
def isPt (z : Str) : Bool := decide (z = "") || (PySem.Txt.split z c_sl).all isNm
def spPath (K : PySem.W.Frag) : Sp := fun vs H Q _ => ∃ z : Str, vs = [.str z] ∧ z.length ≤ 1000000 ∧ ∀ H', Same H H' → Q (.bl (isPt z)) H'
def spCheck : Sp := fun vs H Q _ => ∃ z : Str, vs = [.str z] ∧ z.length ≤ 1000000 ∧ isPt z = true ∧ ∀ H', Same H H' → Q .non H'
def spSplit : Sp := fun vs H Q _ => ∃ z : Str, vs = [.str z] ∧ z.length ≤ 1000000 ∧ ∀ H' p, Same H H' → H p = none → H' p = some (.lst ((parts z).map V.str)) → Q (.ref p) H'
def spNames : Sp := fun vs H Q _ => ∃ z : Str, vs = [.str z] ∧ z.length ≤ 1000000 ∧ isPt z = true ∧ ∀ H' p, Same H H' → H' p = some (.tup ((parts z).map V.str)) → Q (.ref p) H'
def spParent : Sp := fun vs H Q _ => ∃ z : Str, vs = [.str z] ∧ z.length ≤ 1000000 ∧ isPt z = true ∧ ∀ H', Same H H' → Q (if z = "" then .non else .str (PySem.Txt.rpartition z c_sl).1) H'
def keyD (z : Str) : PyData := .tuple [.int (parts z).length, .list ((parts z).map .str)]
def spKey (K : PySem.W.Frag) : Sp := fun vs H Q _ => ∃ z : Str, vs = [.str z] ∧ z.length ≤ 1000000 ∧ ∀ v H', Same H H' → Dp K H' v (keyD z) → Q v H'

abbrev s_is_path : Stmt := topS 7
abbrev N_is_path : List Str := ["thing", "part"]
theorem sc_is_path : FnScope ["thing", "part"] ["thing"] (defScope s_is_path) := ⟨rfl, rfl, rfl, by decide +kernel, rfl, by decide +kernel, by decide +kernel⟩
abbrev s_check_path : Stmt := topS 8
theorem sc_check_path : FnScope ["path"] ["path"] (defScope s_check_path) := ⟨rfl, rfl, rfl, by decide +kernel, rfl, by decide +kernel, by decide +kernel⟩
abbrev s_names_of : Stmt := topS 9
theorem sc_names_of : FnScope ["path"] ["path"] (defScope s_names_of) := ⟨rfl, rfl, rfl, by decide +kernel, rfl, by decide +kernel, by decide +kernel⟩
abbrev s_parent : Stmt := topS 11
theorem sc_parent : FnScope ["path"] ["path"] (defScope s_parent) := ⟨rfl, rfl, rfl, by decide +kernel, rfl, by decide +kernel, by decide +kernel⟩
abbrev s_in_order : Stmt := topS 12
theorem sc_in_order : FnScope ["paths"] ["paths"] (defScope s_in_order) := ⟨rfl, rfl, rfl, by decide +kernel, rfl, by decide +kernel, by decide +kernel⟩
abbrev s_split_path : Stmt := topS 13
theorem sc_split_path : FnScope ["path"] ["path"] (defScope s_split_path) := ⟨rfl, rfl, rfl, by decide +kernel, rfl, by decide +kernel, by decide +kernel⟩
abbrev s_order_key : Stmt := topS 14
theorem sc_order_key : FnScope ["path", "parts"] ["path"] (defScope s_order_key) := ⟨rfl, rfl, rfl, by decide +kernel, rfl, by decide +kernel, by decide +kernel⟩

theorem str_dec (z y : Str) : decide (V.str z = V.str y) = decide (z = y) := by
  by_cases h : z = y
  · subst h; simp
  · rw [decide_eq_false h, decide_eq_false (fun e => h (V.str.inj e))]
theorem sl_ne : (c_sl.length == 0) = false := by decide +kernel
theorem parts_len (z : Str) (hz : z.length ≤ 1000000) : (parts z).length ≤ 1000002 := by
  unfold parts
  split
  · exact Nat.zero_le _
  · exact Nat.le_trans (split_le z c_sl) (by omega)
theorem sizeLine_big : 1000010 < sizeLine := by decide

section
variable {P : Program} {w : World} {K : PySem.W.Frag} {mg : Str → Option Value} {base : Heap} {tk1 tk2 : Tok}
theorem ok_is_path {f f1 : Addr} {fd fd1 : FuncData} (F : Fun K "is_path" "is_path" s_is_path f fd) (T : Txt K mg tk1 tk2) (d_is_name : DefAt P w K mg base "is_name" 1 f1 fd1 ["thing"] (spName K)) :
    FnOk P w K mg base CX0 2 f fd ["thing"] (spPath K) := by
  refine F.ok sc_is_path (fun vs H Q E h => ?_) (fun cdv A outer s H vs Q E hr h => ?_)
  · obtain ⟨x, rfl, _⟩ := h
    rfl
  refine ⟨_, (pss_cons (ps_if (pt_not (pt_val (pe_callB call_isi (by rfl) T.n_isinstance (by decide +kernel) (pa_cons (pv 0) (pa_cons (pe_bltn (v := .ty "str") (by rfl) T.n_str (by decide +kernel) rfl) pa_nil))))) (pss_one (ps_ret pe_bl)) pss_nil)
    (pss_one (ps_ret (pe_or (pe_cmpR op_eq (pv 0) pe_str (nomark _)) (pe_one (pe_callB (cr_all rfl) (by rfl) T.n_all (by decide +kernel) (pa_cons (pe_lc (own := [("part", 1)]) rfl sc_is_path.nd (pi_list (pe_split (pv 0) pe_str)) (blkOk_by (N := N_is_path) (sc := defScope s_is_path) (by decide +kernel)) (fun _ _ _ _ _ => pg_name (i := 1) sc_is_path.nd rfl (Or.inl rfl)) (fun _ _ _ _ _ => pts_nil) (fun _ _ _ _ _ => (pe_callD d_is_name (hr.mono (by decide)) (pa_cons (pv 1) pa_nil)))) pa_nil))))))), ?_⟩
  obtain ⟨z, rfl, hz, hq⟩ := h
  refine ⟨_, rfl, _, .ty "str", _, _, true, rfl, .ty _, .base (.str _), kit_str, _, rfl, iteF ?_⟩
  refine ⟨_, rfl, rfl, _, rfl, ?_⟩
  have hbig := sizeLine_big
  rw [str_dec]
  refine ifD (fun h1 => ?_) (fun h1 => ?_)
  · have := hq H (Same.refl H)
    unfold isPt at this
    rw [decide_eq_true h1] at this
    exact this
  · refine ⟨_, rfl, ⟨_, rfl⟩, z, c_sl, rfl, rfl, sl_ne, by omega, fun p hp => ?_⟩
    refine ⟨p, rfl, ⟨_, SqL.of upd_same⟩, fun D hD => ?_⟩
    refine lc_filt (xs := (PySem.Txt.split z c_sl).map V.str) (fun _ => true) (fun x => match x with | .str y => .bl (isNm y) | _ => .non) hD (SqL.of upd_same) ?_ (fun x H1 R _ sm hR => hR H1 (Same.refl H1)) ?_ ?_
    · rw [List.length_map]
      have := split_le z c_sl
      omega
    · intro x H1 R hx _ sm hR
      obtain ⟨y, hy, rfl⟩ := List.mem_map.mp hx
      refine ⟨_, rfl, _, rfl, Or.inl ⟨y, rfl, Nat.le_trans (part_short hy) hz, fun H' sm' => hR H' sm'⟩⟩
    · intro H2 sm hd
      refine ⟨D, (PySem.Txt.split z c_sl).map isNm, rfl, SqL.of ?_, ?_⟩
      · rw [hd, List.filter_eq_self.mpr (fun _ _ => rfl), List.map_map, List.map_map]; rfl
      · have := hq H2 ((same_new hp).trans sm)
        unfold isPt at this
        rw [decide_eq_false h1, Bool.false_or] at this
        rw [List.all_map]
        exact this
theorem ok_check_path {f f1 : Addr} {fd fd1 : FuncData} (F : Fun K "check_path" "check_path" s_check_path f fd) (d_is_path : DefAt P w K mg base "is_path" 2 f1 fd1 ["thing"] (spPath K)) :
    FnOk P w K mg base CX0 3 f fd ["path"] spCheck := by
  refine F.ok sc_check_path (fun vs H Q E h => ?_) (fun cdv A outer s H vs Q E hr h => ?_)
  · obtain ⟨x, rfl, _⟩ := h
    rfl
  refine ⟨_, (pss_one (ps_if (pt_not (pt_val (pe_callD d_is_path (hr.mono (by decide)) (pa_cons (pv 0) pa_nil)))) (pss_one ps_never) pss_nil)), ?_⟩
  obtain ⟨z, rfl, hz, hp, hq⟩ := h
  refine ⟨_, rfl, z, rfl, hz, fun H' sm => ⟨_, rfl, ?_⟩⟩
  rw [hp]
  exact iteF (hq H' sm)
theorem ok_split_path {f : Addr} {fd : FuncData} (F : Fun K "split_path" "split_path" s_split_path f fd) : FnOk P w K mg base CX0 1 f fd ["path"] spSplit := by
  refine F.ok sc_split_path (fun vs H Q E h => ?_) (fun cdv A outer s H vs Q E hr h => ?_)
  · obtain ⟨x, rfl, _⟩ := h
    rfl
  refine ⟨_, (pss_cons (ps_if (pt_cmpR op_eq (pv 0) pe_str (nomark _)) (pss_one (ps_ret (pe_lst pa_nil))) pss_nil) (pss_one (ps_ret (pe_split (pv 0) pe_str)))), ?_⟩
  obtain ⟨z, rfl, hz, hq⟩ := h
  have hbig := sizeLine_big
  refine ⟨_, rfl, rfl, _, rfl, ?_⟩
  rw [str_dec]
  refine ifD (fun h1 => ?_) (fun h1 => ?_)
  · refine ⟨Nat.zero_le _, fun p hp => hq _ p (same_new hp) hp ?_⟩
    rw [upd_same, parts, if_pos h1]; rfl
  · refine ⟨_, rfl, ⟨_, rfl⟩, z, c_sl, rfl, rfl, sl_ne, by omega, fun p hp => hq _ p (same_new hp) hp ?_⟩
    rw [upd_same, parts, if_neg h1]
theorem ok_names_of {f f1 f2 : Addr} {fd fd1 fd2 : FuncData} (F : Fun K "names_of" "names_of" s_names_of f fd) (T : Txt K mg tk1 tk2) (d_check_path : DefAt P w K mg base "check_path" 3 f1 fd1 ["path"] spCheck) (d_split_path : DefAt P w K mg base "split_path" 1 f2 fd2 ["path"] spSplit) :
    FnOk P w K mg base CX0 4 f fd ["path"] spNames := by
  refine F.ok sc_names_of (fun vs H Q E h => ?_) (fun cdv A outer s H vs Q E hr h => ?_)
  · obtain ⟨x, rfl, _⟩ := h
    rfl
  refine ⟨_, (pss_cons (ps_expr (pe_callD d_check_path (hr.mono (by decide)) (pa_cons (pv 0) pa_nil)))
    (pss_one (ps_ret (pe_callTy call_tuple_of (by rfl) T.n_tuple (by decide +kernel) (pa_cons (pe_callD d_split_path (hr.mono (by decide)) (pa_cons (pv 0) pa_nil)) pa_nil))))), ?_⟩
  obtain ⟨z, rfl, hz, hp, hq⟩ := h
  refine ⟨_, rfl, z, rfl, hz, hp, fun H1 s1 => ?_⟩
  refine ⟨_, rfl, z, rfl, hz, fun H2 p s2 np hp2 => ?_⟩
  refine ⟨p, _, rfl, Or.inl ⟨SqL.of hp2, fun l hl => hq _ l ((s1.trans s2).trans (same_new hl)) upd_same⟩⟩
theorem ok_parent {f f1 : Addr} {fd fd1 : FuncData} (F : Fun K "parent" "parent" s_parent f fd) (d_check_path : DefAt P w K mg base "check_path" 3 f1 fd1 ["path"] spCheck) :
    FnOk P w K mg base CX0 4 f fd ["path"] spParent := by
  refine F.ok sc_parent (fun vs H Q E h => ?_) (fun cdv A outer s H vs Q E hr h => ?_)
  · obtain ⟨x, rfl, _⟩ := h
    rfl
  refine ⟨_, (pss_cons (ps_expr (pe_callD d_check_path (hr.mono (by decide)) (pa_cons (pv 0) pa_nil)))
    (pss_cons (ps_if (pt_cmpR op_eq (pv 0) pe_str (nomark _)) (pss_one (ps_ret pe_non)) pss_nil)
    (pss_one (ps_ret (pe_ix ix_tup (pe_rpartition (pv 0) pe_str) pe_int (fun _ _ => rfl)))))), ?_⟩
  obtain ⟨z, rfl, hz, hp, hq⟩ := h
  have hbig := sizeLine_big
  refine ⟨_, rfl, z, rfl, hz, hp, fun H1 s1 => ?_⟩
  refine ⟨_, rfl, rfl, _, rfl, ?_⟩
  rw [str_dec]
  refine ifD (fun h1 => ?_) (fun h1 => ?_)
  · have := hq H1 s1
    rw [if_pos h1] at this
    exact this
  · refine ⟨_, rfl, ⟨_, rfl⟩, z, c_sl, rfl, rfl, sl_ne, by omega, fun p hp => ?_⟩
    refine ⟨p, _, _, _, rfl, rfl, SqT.of upd_same, rfl, ?_⟩
    simp only [if_neg h1] at hq
    exact hq _ (s1.trans (same_new hp))
theorem ok_order_key {f f1 : Addr} {fd fd1 : FuncData} (F : Fun K "order_key" "order_key" s_order_key f fd) (T : Txt K mg tk1 tk2) (d_split_path : DefAt P w K mg base "split_path" 1 f1 fd1 ["path"] spSplit) :
    FnOk P w K mg base CX0 2 f fd ["path"] (spKey K) := by
  refine F.ok sc_order_key (fun vs H Q E h => ?_) (fun cdv A outer s H vs Q E hr h => ?_)
  · obtain ⟨x, rfl, _⟩ := h
    rfl
  refine ⟨_, (pss_cons (ps_set (i := 1) sc_order_key.nd rfl (Or.inl rfl) (pe_callD d_split_path (hr.mono (by decide)) (pa_cons (pv 0) pa_nil)))
    (pss_one (ps_ret (pe_tup (pa_cons (pe_callB call_len_seq (by rfl) T.n_len (by decide +kernel) (pa_cons (pv 1) pa_nil)) (pa_cons (pv 1) pa_nil)))))), ?_⟩
  obtain ⟨z, rfl, hz, hq⟩ := h
  refine ⟨_, rfl, z, rfl, hz, fun H1 p s1 np hp1 => ?_⟩
  refine ⟨_, rfl, p, _, rfl, Or.inl (SqL.of hp1), _, rfl, (by show 2 ≤ sizeLine; decide), fun q hq1 => ?_⟩
  refine hq _ _ (s1.trans (same_new hq1)) ?_
  have npq : p ≠ q := ne_of_none hp1 hq1
  have dps : ∀ l : List Str, DpAll K (upd H1 q (.tup [.int ((List.map V.str (parts z)).length : Nat), .ref p])) (l.map V.str) (l.map .str) := by
    intro l
    induction l with
    | nil => exact .nil
    | cons a l ih => exact .cons (.str a) ih
  refine .tup (SqT.of upd_same) (.cons ?_ (.cons (.lst (SqL.of (by rw [upd_ne npq]; exact hp1)) (dps _)) .nil))
  rw [List.length_map]
  exact .int _
end
end K2

set_option Elab.async false
set_option linter.all false
set_option maxRecDepth 100000
set_option maxHeartbeats 4000000
namespace PySem
namespace BadNameX
open PySem.W PySem.Calls PyProof.Rows PySem.HandSPX
/-! ### the text of __init__ -/
def iA (p1 p2 : Pos) : Arguments := { posonlyargs := [], args := [{ arg := "self", annotation := none, pos := p1 }, { arg := "name", annotation := none, pos := p2 }], vararg := none, kwonlyargs := [], kw_defaults := [], kwarg := none, defaults := [] }
def iB (q1 q2 q3 q4 : Pos) : List Stmt := [.Assign [.Attribute (.Name "self" q1) "name" q2] (.Name "name" q3) q4]
def iS : Scope := { kind := .function, names := [(PySem.Str.ofString "self", .local), (PySem.Str.ofString "name", .local)], isGenerator := false, isCoroutine := false, more := [] }
/-- what the written part says of Low, at C, and of its __init__, at fI -/
structure NameTxt (K : Frag) (mg : Str → Option Value) (C fI : Addr) : Prop where
  gC : mg "BadName" = some (.ref C)
  cls : ∃ nm q N bs bm sn sub ab col dd k0 k1 k2 k3 k5, K.lookup C = some (excClassObj nm q C N bs bm true sn sub ab col dd k0 k1 k2 k3 k5 "ValueError.__new__") ∧ refsVE bm = true
  sa : findIn K (.ref C) "__setattr__" = some (some (.builtin "object.__setattr__"))
  ga : findIn K (.ref C) "__getattribute__" = some (some (.builtin "BaseException.__getattribute__"))
  gg : findIn K (.ref C) "__getattr__" = some none
  noN : findIn K (.ref C) "name" = some none
  iC : findIn K (.ref C) "__init__" = some (some (.ref fI))
  tC : typeIn K (.ref fI) = some (.type "function")
  kC : keepIn K (.ref C) = true
  exC : subIn K (.ref C) (.type "BaseException") = some true
  tyC : typeIn K (.ref C) = some (.type "type")
  hdC : hasDictIn K C = true
  te : exmOne K (.ref C) (.ref C) = some true
  fn : ∃ (oc : Value) (od : Option Addr) (doc pm : Value) (an : Option Addr) (cdv ct : Value) (osl : Array (Option Value)) (p1 p2 q1 q2 q3 q4 : Pos),
    K.lookup fI = some ⟨oc, od, .func (fnOf "__init__" "BadName.__init__" (iA p1 p2) (iB q1 q2 q3 q4) iS .none .none doc pm an cdv ct), osl⟩ ∧ codeIn K cdv "BadName.__init__" = true
theorem one_size (v : Value) : [v].length ≤ sizeLine := by
  rw [sizeLine_eq]
  exact (by decide : 1 ≤ 16777216)
theorem kept_but {K : Frag} {h h' : Heap} {x : Addr} (X : K.In h) (hx : K.lookup x = none) (k : ∀ b o, b ≠ x → h.get? b = some o → h'.get? b = some o) : K.In h' := fun a o e =>
  k a o (fun z => by rw [z, hx] at e; cases e) (X a o e)
theorem ldC {M : Model} {s : Shared} {name : Str} {scope : Scope} {L a : Addr} {cd : Value} {m : Str → Option Value} {x : Str} {pos : Pos} {v : Value} {Q : Value → Shared → Prop} {A : Around} {E : Value → Shared → Prop} (hn : s.heap.Ns L m) (hv : m x = some v) (h : Q v s)
    (hk : scope.kind = .function := by rfl) (hl : (envOfC name scope L a cd).kindOf x = some .local := by rfl) (hd : (x == ("__debug__" : Str)) = false := by decide) :
    wpAny M A (eval (.Name x pos) (envOfC name scope L a cd)) Q E s := wpAny_Name (wpAny_loadName_local hk hl hn hv h) hd
/-- what __init__ leaves of a fresh exception at x -/
structure InitEnd (h h' : Heap) (x C dx t1 : Addr) (v : Value) : Prop where
  keep : ∀ b o, b ≠ x → h.get? b = some o → h'.get? b = some o
  obj : h'.get? x = some { cls := .ref C, dict := some dx, data := .fields #[.ref t1, .none, .none, .none, .bool false, .none] }
  dbig : h.objs.size ≤ dx
  dne : dx ≠ x
  ns : h'.Ns1 dx (fun y => if y = "name" then some v else none)
/-- a made Low -/
structure OwnMade (h h' : Heap) (e C d : Addr) (v : Value) : Prop where
  keep : ∀ b o, h.get? b = some o → h'.get? b = some o
  new : h.objs.size ≤ e
  obj : ∃ oe vs, h'.get? e = some oe ∧ oe.cls = .ref C ∧ oe.dict = some d ∧ oe.data = .fields vs ∧ vs[1]? = some .none
  dbig : h.objs.size ≤ d
  dne : d ≠ e
  ns : h'.Ns1 d (fun y => if y = "name" then some v else none)
section
variable {prog : Program} {w : World} {A : Around} {E : Value → Shared → Prop} {R : Result → Shared → Prop} {s : Shared} {K : Frag} {mg : Str → Option Value} {C fI : Addr}
theorem low_init (T : NameTxt K mg C fI) {x t0 : Addr} {v : Value} (X : K.In s.heap) (hlim : s.heap.NoLimit) (hx : s.heap.get? x = some (excO C t0)) (hnx : K.lookup x = none) (hroom : A.depth < recursionLimit)
    (hq : ∀ h' tk dx, InitEnd s.heap h' x C dx t0 v → R (.ok (.ret .none)) { s with heap := h', toks := tk }) :
    codeAny (model prog w) A (.call (.ref fI) ⟨[.ref x, v], []⟩) R s := by
  obtain ⟨oc, od, doc, pm, an, cdv, ct, osl, p1, p2, q1, q2, q3, q4, ho, hcd⟩ := T.fn
  obtain ⟨nm, q, N, bs, bm, sn, sub, ab, col, dd, k0, k1, k2, k3, k5, hC, hbm⟩ := T.cls
  have hcl : clsIn K C = some { name := nm, bases := bs, mro := .ref C :: bm, ns := N, qualname := q, hasDict := true, slotNames := sn, subclasses := sub, abstract := ab, collection := col, hasDel := false } := by unfold clsIn; rw [hC] <;> rfl
  refine Att.call_fn (binds := [("self", .ref x), ("name", v)]) X hlim ho hcd hroom (BindsTo.of_eq (by first | rfl | with_unfolding_all rfl)) (by first | rfl | decide | with_unfolding_all rfl) (fun s₁ IC => ?_) rfl rfl rfl
  obtain ⟨h₁, tk₁, rfl⟩ := IC.toInCall.same
  have k : ∀ b o, s.heap.get? b = some o → h₁.get? b = some o := IC.toInCall.keep
  have hn := IC.toInCall.ns
  have hxL : s.heap.objs.size ≠ x := Nat.ne_of_gt (Heap.lt_size hx)
  have X₁ : K.In h₁ := X.keeps k
  have hx₁ := k _ _ hx
  -- self.by = by
  show wpAny _ _ (execs _ _) _ _ _
  refine wpAny_execs_cons (plainObj_wpAny_Assign_Attribute ?_)
  refine ldC (v := v) hn (by first | rfl | with_unfolding_all rfl | kernel_rfl) (ldC (v := .ref x) hn (by first | rfl | with_unfolding_all rfl | kernel_rfl) ?_)
  refine set_plain X₁ (ox := excO C t0) (od := none) ⟨hx₁, rfl, rfl, trivial⟩ T.sa ?_
  refine exc_osa X₁ hx₁ hcl (show refsVE (.ref C :: bm) = true from hbm) rfl T.noN (fun h₃ tk₃ dx k₃ dn dne hx₃ hn₃ => ?_)
  show wpAny _ _ (execs _ _) _ _ _
  have z : s.heap.objs.size < h₁.objs.size := hn.lt
  exact wpAny_execs_nil (hq h₃ tk₃ dx ⟨fun b o hb e => k₃ b o hb (k b o e), hx₃, Nat.le_of_lt (Nat.lt_of_lt_of_le z dn), dne, hn₃⟩)
theorem low_made (T : NameTxt K mg C fI) {v : Value} (X : K.In s.heap) (hlim : s.heap.NoLimit) (hroom : A.depth + 1 < recursionLimit)
    (hq : ∀ h' tk e d, OwnMade s.heap h' e C d v → R (.ok (.ret (.ref e))) { s with heap := h', toks := tk }) :
    codeAny (model prog w) A (.call (.ref C) ⟨[v], []⟩) R s := by
  obtain ⟨nm, q, N, bs, bm, sn, sub, ab, col, dd, k0, k1, k2, k3, k5, hC, hbm⟩ := T.cls
  obtain ⟨hp, g, dr, tk, os⟩ := s
  have k : ∀ b o, hp.get? b = some o → ((hp.push (kdv_tup [v])).push (excO C hp.objs.size)).get? b = some o := fun b o e => Heap.get?_push_of_some _ (Heap.get?_push_of_some _ e)
  have hget : ((hp.push (kdv_tup [v])).push (excO C hp.objs.size)).get? (hp.objs.size + 1) = some (excO C hp.objs.size) := by heap_get
  have hnx : K.lookup (hp.objs.size + 1) = none := by
    cases e : K.lookup (hp.objs.size + 1) with
    | none => rfl
    | some o =>
      have z : hp.get? (hp.objs.size + 1) = some o := X _ _ e
      exact absurd (Nat.lt_of_succ_lt (Heap.lt_size z)) (Nat.lt_irrefl _)
  refine call_own F.excBase_ValueError (fun X => refsVE_contains X bm hbm) (X _ _ hC) (looks_findIn X T.iC) (fun self => bind_fn X self T.tC) (one_size v) ?_
  refine low_init (s := ⟨(hp.push (kdv_tup [v])).push (excO C hp.objs.size), g, dr, tk, os⟩) T (X.keeps k) (hlim.keeps k) hget hnx ?_ fun h' tk' dx ⟨k', hx, dn, dne, hns⟩ => ?_
  · show A.depth + 1 < recursionLimit
    exact hroom
  · have old : ∀ b o, hp.get? b = some o → h'.get? b = some o := fun b o e => k' b o (Nat.ne_of_lt (Nat.lt_succ_of_lt (Heap.lt_size e))) (k b o e)
    have z : hp.objs.size + 1 + 1 ≤ dx := by
      first
        | (simpa only [Heap.size_push] using dn)
        | exact dn
        | (have q := dn; rw [Heap.size_push, Heap.size_push] at q; exact q)
    exact ⟨rfl, hq h' tk' (hp.objs.size + 1) dx ⟨old, Nat.le_succ _, ⟨_, _, hx, rfl, rfl, rfl, rfl⟩, Nat.le_trans (Nat.le_trans (Nat.le_succ _) (Nat.le_succ _)) z, dne, hns⟩⟩
end
end BadNameX
end PySem
namespace L2
open PySem PySem.Spec PyProof.Rows
theorem relO_name {v : V} {v' : Value} (r : RelV v v') (f : Str) : RelO (List.lookup f [(("name" : Str), v)]) (if f = "name" then some v' else none) := by
  by_cases hw : f = "name"
  · subst hw
    rw [if_pos rfl]
    have q : List.lookup ("name" : Str) [(("name" : Str), v)] = some v := by simp [List.lookup]
    rw [q]
    exact r
  · rw [if_neg hw]
    have qw : (f == ("name" : Str)) = false := by simpa using hw
    have q2 : List.lookup f [(("name" : Str), v)] = none := by simp [List.lookup, qw]
    rw [q2]
    trivial
section
variable {X : Cx} {C fI : Addr}
/-- Low(e) -/
def tMkName (C : Addr) (ta : TA) : St → Hp → XK → Prop := fun σ H Q => ta σ H fun vs H1 => ∃ v, vs = [v] ∧ ∀ d, H1 d = none → Q (.ref C) (some d) (upd H1 d (.xd [(("name" : Str), v)]))
theorem pmk_name {a : Expr} {ta : TA} {p pos : Pos} {k : Nat} (T : PySem.BadNameX.NameTxt X.K X.mg C fI) (hr : Room k X.A) (ha : PA X [a] ta) (hg : Gl X "BadName" := by rfl)
    (he : starEach (a :: []) X.env = (false, eval a X.env) :: starEach [] X.env := by rfl) (hpl : (backTo pos (starEach [] X.env)).any (·.1) = false := by rfl) :
    PMk X (.Call (.Name "BadName" p) [a] [] pos) (tMkName C ta) := by
  intro pins s σ H Q I h
  refine wpAny_Call_Name_kw (ld_glob I hg T.gC ?_)
  refine PySem.W.callWith_K (h₀ := X.base) I.ok.mod.kin T.kC (thn (ha.run pos pins s σ H _ I h) fun us s1 hh => ?_) he hpl
  obtain ⟨vs, H1, I1, r1, v, ev, q1⟩ := hh
  subst ev
  refine ⟨I1.kIn, ?_⟩
  cases r1 with
  | cons rv rn =>
    rename_i v' us'
    cases rn
    show wpAny _ _ (call (.ref C) [v']) _ _ _
    have hlim := I1.nolimit
    obtain ⟨hp, g, dr, tk, os⟩ := s1
    refine wpAny_call (PySem.BadNameX.low_made T I1.kIn hlim (by have := hr.dp; omega) fun h' tk' e d M => ?_)
    show MkP X pins σ Q (.ref e) ⟨h', g, dr, tk', os⟩
    obtain ⟨oe, fv, hoe, hc, hd, hdat, h1⟩ := M.obj
    have hns := M.ns
    obtain ⟨G', g1, g2⟩ := restrict h' fun b => decide (b ≠ e)
    have gk : ∀ b, b ≠ e → G'.get? b = h'.get? b := fun b hb => g1 b (decide_eq_true hb)
    have ge : G'.get? e = none := g2 e (by simp)
    have old : ∀ b o, hp.get? b = some o → G'.get? b = some o := fun b o q => (gk b (Nat.ne_of_lt (Nat.lt_of_lt_of_le (Heap.lt_size q) M.new))).trans (M.keep b o q)
    have ob : ObjOk X.prog X.w (upd H1 d (.xd [(("name" : Str), v)])) G' d (.xd [(("name" : Str), v)]) :=
      ⟨_, hns.at (fun o q => (gk d M.dne).trans q), fun f => relO_name rv f⟩
    have J : Inv X pins σ (upd H1 d (.xd [(("name" : Str), v)])) ⟨G', g, dr, tk', os⟩ := I1.laid (t' := tk') old M.dbig ob
    refine ⟨e, oe, fv, ⟨G', g, dr, tk', os⟩, _, .ref C, some d, rfl, J, fun b o q => ?_, ge, hoe, ⟨hc, hd⟩, hdat, h1, ?_, rfl, I1.bare, raises_own T.exC T.tyC, q1 d (I1.hok.fresh M.dbig)⟩
    · by_cases hb : b = e
      · have q' : G'.get? b = some o := q
        rw [hb, ge] at q'; cases q'
      · exact (gk b hb).symm.trans q
    · rw [upd_ne (Ne.symm M.dne)]
      exact I1.hok.fresh M.new
/-- raise Low(e) -/
def tRaiseName (C : Addr) (W : WX) (ta : TA) : TS := fun _ σ H => tMkName C ta σ H fun cls d H' => W cls d σ H'
theorem ps_raiseName {a : Expr} {ta : TA} {W : WX} {p pos pos2 : Pos} {k : Nat} (hc : X.calm = true) (T : PySem.BadNameX.NameTxt X.K X.mg C fI) (hr : Room k X.A) (tk : Takes X W) (ha : PA X [a] ta) (hg : Gl X "BadName" := by rfl)
    (he : starEach (a :: []) X.env = (false, eval a X.env) :: starEach [] X.env := by rfl) (hpl : (backTo pos (starEach [] X.env)).any (·.1) = false := by rfl) :
    PS X (.Raise (some (.Call (.Name "BadName" p) [a] [] pos)) none pos2) (tRaiseName C W ta) := ps_raise hc tk (pmk_name T hr ha hg he hpl)
/-- low.by, low the exception that the suite holds (at a; its class cls, its dict d) -/
def tNameOf (C : Addr) (a : Addr) (cls : Value) (d : Option Addr) (te : TE) : TE := fun σ H Q => te σ H fun x H1 => x = .ref a ∧ cls = .ref C ∧ ∃ (dd : Addr) (v : V), d = some dd ∧ H1 dd = some (.xd [(("name" : Str), v)]) ∧ Q v H1
theorem pe_nameOf {a : Addr} {oe : Obj} {cls : Value} {d : Option Addr} {pn : List (Addr × Obj)} {e : Expr} {te : TE} {pos : Pos} (T : PySem.BadNameX.NameTxt X.K X.mg C fI) (hz : Zc cls d oe) (hf : ∃ vs, oe.data = .fields vs) (he : PE (X.suite a ((a, oe) :: pn)) e te)
    (hb : attributeBase e "name" X.env (eval e X.env) = eval e X.env := by rfl) :
    PE (X.suite a ((a, oe) :: pn)) (.Attribute e "name" pos) (tNameOf C a cls d te) := by
  refine ⟨fun pins s σ H Q I h => ?_⟩
  refine attr_of hb (thn (he.run pins s σ H _ I h) fun u s1 hh => ?_)
  obtain ⟨x, H1, I1, rx, ex, ec, dd, v, ed, ea, q⟩ := hh
  subst ex
  obtain rfl : u = Value.ref a := rx
  subst ec
  subst ed
  obtain ⟨ha, _⟩ := I1.pin (a, oe) (List.mem_append_left _ List.mem_cons_self)
  obtain ⟨vs, hd⟩ := hf
  have hx : ObjOk X.prog X.w H1 s1.heap dd (.xd [(("name" : Str), v)]) := I1.hok dd _ ea
  obtain ⟨mA, hns, hr⟩ := hx
  obtain ⟨od, ho, hl⟩ := lookIn_ns hns
  have l : List.lookup ("name" : Str) [(("name" : Str), v)] = some v := by simp [List.lookup]
  obtain ⟨u, hu, ru⟩ := RelO.some_of (v := v) (o := mA "name") (by rw [← l]; exact hr "name")
  have J : PySem.W.InstAt s1.heap a oe C (some od) := ⟨ha, hz.1, by unfold PySem.W.notCls; rw [hd] <;> rfl, by rw [hz.2]; exact ho⟩
  exact HandSPX.exc_get I1.kIn J T.ga T.gg T.exC (PySem.W.findObj_own T.hdC T.noN rfl (by rw [hl, hu])) (handed_of ru) ⟨v, H1, I1.tok _, ru, q⟩
end
end L2

namespace L2
open PySem PySem.Spec PyProof.Rows
/-- an if whose test is known -/
theorem if_true_of {c : Bool} {A B : Prop} (hc : c = true) (h : A) : if c = true then A else B := by
  rw [if_pos hc]
  exact h
theorem if_false_of {c : Bool} {A B : Prop} (hc : c = false) (h : B) : if c = true then A else B := by
  rw [hc, if_neg Bool.false_ne_true]
  exact h
end L2

set_option Elab.async false
set_option linter.all false
set_option maxRecDepth 100000
set_option maxHeartbeats 4000000
namespace LF
open PySem PySem.Spec PyProof.Rows L2
section
variable {X : Cx} {k : Nat} {f : Addr} {sp : Sp} {x : Str} {p pos : Pos} {e : Expr} {es : List Expr} {t : TA} {W : WX}
theorem run_fnRS {pins : List (Addr × Obj)} {σ : L2.St} {H : Hp} {s : Shared} {Q : VK} {us : List Value} {vs : List V} (F : FnR X.prog X.w X.K X.mg X.base (L2.CX X.prog X.w) k f sp)
    (hr : Room k X.A) (tk : Takes X W) (I : Inv X pins σ H s) (r : Vals vs us) (h : sp vs H Q (WE W σ)) :
    wpAny (model X.prog X.w) X.A (call (.ref f) us) (EP X pins σ Q) X.xe s := by
  refine wpAny_call (codeAny_mono (F X.A X.stack s H us vs Q (WE W σ) hr I.env0 r h) ?_)
  intro rr s' hq
  cases rr with
  | error e => exact passAt tk σ pins H s e s' I hq
  | ok fl =>
    cases fl with
    | ret u => exact I.after hq
    | next => exact hq.elim
    | brk => exact hq.elim
    | cont => exact hq.elim
theorem pe_callRS (F : FnR X.prog X.w X.K X.mg X.base (L2.CX X.prog X.w) k f sp) (hr : Room k X.A) (hm : X.mg x = some (.ref f)) (hk : PySem.W.keepIn X.K (.ref f) = true) (tk : Takes X W)
    (ha : PA X (e :: es) t) (hg : Gl X x := by rfl) (hdb : (x == ("__debug__" : Str)) = false := by decide)
    (he : starEach (e :: es) X.env = (false, eval e X.env) :: starEach es X.env := by rfl) (hpl : (backTo pos (starEach es X.env)).any (·.1) = false := by rfl) :
    PE X (.Call (.Name x p) (e :: es) [] pos) (fun σ H Q => t σ H fun vs H1 => sp vs H1 Q (WE W σ)) := by
  constructor
  intro pins s σ H Q I h
  refine wpAny_Call_Name_kw (ld_glob I hg hm ?_ hdb)
  refine PySem.W.callWith_K (h₀ := X.base) I.ok.mod.kin hk (thn (ha.run pos pins s σ H _ I h) ?_) he hpl
  rintro us s1 ⟨vs, H1, I1, r, z⟩
  exact ⟨I1.kIn, run_fnRS F hr tk I1 r z⟩
theorem pe_callRS0 (F : FnR X.prog X.w X.K X.mg X.base (L2.CX X.prog X.w) k f sp) (hr : Room k X.A) (hm : X.mg x = some (.ref f)) (hk : PySem.W.keepIn X.K (.ref f) = true) (tk : Takes X W)
    (hg : Gl X x := by rfl) (hdb : (x == ("__debug__" : Str)) = false := by decide) :
    PE X (.Call (.Name x p) [] [] pos) (fun σ H Q => sp [] H Q (WE W σ)) := by
  constructor
  intro pins s σ H Q I h
  refine wpAny_Call_Name_kw (ld_glob I hg hm ?_ hdb)
  exact PySem.W.callWith_K0 I.kIn hk (run_fnRS (us := []) F hr tk I .nil h)
end
end LF
namespace K2
open PySem PySem.Spec PyProof.Rows L2 LF
def nmV : V → Bool
  | .str z => isNm z
  | _ => false
def Odd (H : Hp) (v : V) : Prop := v = .non ∨ (∃ i, v = .int i) ∨ (∃ b, v = .bl b) ∨ (∃ a xs, v = .ref a ∧ H a = some (.lst xs)) ∨ (∃ a xs, v = .ref a ∧ H a = some (.tup xs))
def ValOk (H : Hp) (v : V) : Prop := (∃ z : Str, v = .str z ∧ z.length ≤ 1000) ∨ Odd H v
theorem Odd.same {H H' : Hp} {v : V} (h : Odd H v) (s : Same H H') : Odd H' v := by
  rcases h with h | h | h | ⟨a, xs, h, e⟩ | ⟨a, xs, h, e⟩
  · exact Or.inl h
  · exact Or.inr (Or.inl h)
  · exact Or.inr (Or.inr (Or.inl h))
  · exact Or.inr (Or.inr (Or.inr (Or.inl ⟨a, xs, h, s _ _ e⟩)))
  · exact Or.inr (Or.inr (Or.inr (Or.inr ⟨a, xs, h, s _ _ e⟩)))
theorem ValOk.same {H H' : Hp} {v : V} (h : ValOk H v) (s : Same H H') : ValOk H' v := h.elim Or.inl fun h => Or.inr (h.same s)
theorem Odd.ty {K : PySem.W.Frag} {H : Hp} {v : V} (h : Odd H v) : ∃ t, t ∈ notStr ∧ TyX K H v (.type t) := by
  rcases h with rfl | ⟨i, rfl⟩ | ⟨b, rfl⟩ | ⟨a, xs, rfl, e⟩ | ⟨a, xs, rfl, e⟩
  · exact ⟨"NoneType", by simp [notStr], .base .non⟩
  · exact ⟨"int", by simp [notStr], .base (.int i)⟩
  · exact ⟨"bool", by simp [notStr], .base (.bl b)⟩
  · exact ⟨"list", by simp [notStr], .base (.lst e)⟩
  · exact ⟨"tuple", by simp [notStr], .base (.tup e)⟩
theorem Odd.nm {H : Hp} {v : V} (h : Odd H v) : nmV v = false := by
  rcases h with rfl | ⟨i, rfl⟩ | ⟨b, rfl⟩ | ⟨a, xs, rfl, e⟩ | ⟨a, xs, rfl, e⟩ <;> rfl
/-- is_name of any such value -/
theorem name_of {K : PySem.W.Frag} {H : Hp} {v : V} {Q : VK} {E : XK} (h : ValOk H v) (hq : ∀ H', Same H H' → Q (.bl (nmV v)) H') : spName K [v] H Q E := by
  refine ⟨v, rfl, ?_⟩
  rcases h with ⟨z, rfl, hz⟩ | h
  · exact Or.inl ⟨z, rfl, by omega, hq⟩
  · obtain ⟨t, ht, ty⟩ := h.ty (K := K)
    have e := h.nm
    rw [e] at hq
    exact Or.inr ⟨t, ht, ty, hq⟩
theorem isNm_len {z : Str} (h : isNm z = true) : 1 ≤ z.length ∧ z.length ≤ 8 := by
  unfold isNm at h
  rw [Bool.and_eq_true, decide_eq_true_eq] at h
  exact h.1
theorem all_strs : ∀ {vs : List V}, vs.all nmV = true → ∃ ss : List Str, vs = ss.map V.str ∧ ∀ s ∈ ss, isNm s = true
  | [], _ => ⟨[], rfl, fun _ h => nomatch h⟩
  | v :: vs, h => by
    rw [List.all_cons, Bool.and_eq_true] at h
    obtain ⟨ss, e, hs⟩ := all_strs h.2
    cases v with
    | str z => exact ⟨z :: ss, by rw [e]; rfl, fun s hm => by rcases List.mem_cons.mp hm with rfl | hm; exact h.1; exact hs s hm⟩
    | _ => exact absurd h.1 (by simp [nmV])
theorem sum_le {ss : List Str} {n : Nat} (h : ∀ s ∈ ss, s.length ≤ n) : (ss.map (·.length)).sum ≤ n * ss.length := by
  induction ss with
  | nil => simp
  | cons a l ih =>
    have h1 := h a List.mem_cons_self
    have h2 := ih fun s hs => h s (List.mem_cons_of_mem _ hs)
    rw [List.map_cons, List.sum_cons, List.length_cons, Nat.mul_succ]
    omega

def spOrder (K : PySem.W.Frag) : Sp := fun vs H Q _ => ∃ (a : Addr) (ws : List Str), vs = [.ref a] ∧ SqL K H a (ws.map V.str) ∧ (∀ x ∈ ws, x.length ≤ 1000000) ∧
  ∀ H' p, Same H H' → H p = none → H' p = some (.lst ((ws.mergeSort (PySem.W.dataLe false keyD)).map V.str)) → Q (.ref p) H'
theorem alike_strs : ∀ xs ys : List Str, PySem.W.alikeAll (xs.map .str) (ys.map .str) = true
  | [], _ => by simp [PySem.W.alikeAll]
  | _ :: _, [] => by simp [PySem.W.alikeAll]
  | x :: xs, y :: ys => by
    show PySem.W.alikeAll (.str x :: xs.map .str) (.str y :: ys.map .str) = true
    rw [PySem.W.alikeAll, alike_strs xs ys]
    simp [PySem.W.alike]
theorem key_alike (x y : Str) : PySem.W.alike (keyD x) (keyD y) = true := by
  show PySem.W.alikeAll [.int _, .list _] [.int _, .list _] = true
  rw [PySem.W.alikeAll, PySem.W.alikeAll, PySem.W.alikeAll]
  show (true && (PySem.W.alikeAll _ _ && true)) = true
  rw [alike_strs]; rfl
theorem depth_strs : ∀ xs : List Str, PyData.depthAll (xs.map .str) = 0
  | [] => by simp [PyData.depthAll]
  | x :: xs => by
    show PyData.depthAll (.str x :: xs.map .str) = 0
    rw [PyData.depthAll, depth_strs xs]
    simp [PyData.depth]
theorem key_depth (x : Str) : (keyD x).depth ≤ 60 := by
  unfold keyD
  simp [PyData.depth, PyData.depthAll, depth_strs]
section
variable {P : Program} {w : World} {K : PySem.W.Frag} {mg : Str → Option Value} {base : Heap} {tk1 tk2 : Tok}
theorem ok_in_order {f f1 : Addr} {fd fd1 : FuncData} (F : Fun K "in_order" "in_order" s_in_order f fd) (T : Txt K mg tk1 tk2) (d_order_key : DefAt P w K mg base "order_key" 2 f1 fd1 ["path"] (spKey K)) :
    FnOk P w K mg base CX0 5 f fd ["paths"] (spOrder K) := by
  refine F.ok sc_in_order (fun vs H Q E h => ?_) (fun cdv A outer s H vs Q E hr h => ?_)
  · obtain ⟨x, ws, rfl, _⟩ := h
    rfl
  refine ⟨_, (pss_one (ps_ret (pe_callBK (call_sortedF (kd := keyD) d_order_key.F hr d_order_key.b) (by rfl) T.n_sorted (by decide +kernel) (pa_cons (pv 0) pa_nil) (pk_cons (pe_glob (v := .ref f1) rfl d_order_key.g rfl) pk_nil)))), ?_⟩
  obtain ⟨a, ws, rfl, hs, hw, hq⟩ := h
  refine ⟨_, rfl, a, ws, rfl, rfl, hs, PySem.W.AllAlike.of key_alike, PySem.W.Sortable.tuples fun b => ⟨_, _, rfl⟩, ?_, ?_, ?_⟩
  · intro d hd
    obtain ⟨x, _, rfl⟩ := List.mem_map.mp hd
    exact key_depth x
  · intro x hx H1 sm Q1 h1
    exact ⟨x, rfl, hw x hx, fun v H' s' dp => h1 v H' s' dp⟩
  · intro H1 p sm hp
    exact hq _ p (sm.trans (same_new hp)) (sm.free hp) upd_same
end
end K2

set_option Elab.async false
set_option linter.all false
set_option maxRecDepth 100000
set_option maxHeartbeats 4000000
namespace K2
open PySem PySem.Spec PyProof.Rows L2 LF
abbrev s_path_of : Stmt := topS 10
theorem sc_path_of : FnScope ["names", "name"] ["names"] (defScope s_path_of) := ⟨rfl, rfl, rfl, by decide +kernel, rfl, by decide +kernel, by decide +kernel⟩
/-- path_of behind the binding of its star -/
def spOfT (CN : Addr) : Sp := fun vs H Q E => ∃ (p : Addr) (vs0 : List V), vs = [.ref p] ∧ H p = some (.tup vs0) ∧ vs0.length ≤ 1000 ∧ (∀ v ∈ vs0, ValOk H v) ∧
  (vs0.all nmV = true → ∀ H' ss, Same H H' → vs0 = ss.map V.str → Q (.str (PySem.Txt.join c_sl ss)) H') ∧
  (∀ w, (vs0.filter fun v => !nmV v).head? = some w → ∀ H' d, Same H H' → H' d = some (.xd [("name", w)]) → E (.ref CN) (some d) H')
structure NameOk (K : PySem.W.Frag) (mg : Str → Option Value) (CN fN : Addr) : Prop where
  low : PySem.BadNameX.NameTxt K mg CN fN
theorem first_bad {vs : List V} {i : Nat} {v : V} (hi : vs[i]? = some v) (h : (vs.take i).all nmV = true) (hv : nmV v = false) : (vs.filter fun v => !nmV v).head? = some v := by
  have e : vs = vs.take i ++ v :: vs.drop (i + 1) := by
    have hlt := (List.getElem?_eq_some_iff.mp hi).1
    have e2 : vs[i] = v := (List.getElem?_eq_some_iff.mp hi).2
    rw [← e2, List.getElem_cons_drop, List.take_append_drop]
  have e1 : (vs.take i).filter (fun v => !nmV v) = [] := by
    rw [List.filter_eq_nil_iff]
    intro a ha
    have := List.all_eq_true.mp h a ha
    simp [this]
  rw [e, List.filter_append, e1]
  simp [hv]
section
variable {P : Program} {w : World} {K : PySem.W.Frag} {mg : Str → Option Value} {base : Heap} {tk1 tk2 : Tok}
theorem ok_path_of {f f1 CN fN : Addr} {fd fd1 : FuncData} (F : Fun K "path_of" "path_of" s_path_of f fd) (L : PySem.BadNameX.NameTxt K mg CN fN) (d_is_name : DefAt P w K mg base "is_name" 1 f1 fd1 ["thing"] (spName K)) :
    FnR P w K mg base (L2.CX P w) 4 f (fun vs H Q E => ∃ ws rest, vs = ws ++ rest ∧ ws.length = ([] : List Str).length ∧ rest.length ≤ sizeLine ∧ ∀ p, H p = Option.none → spOfT CN (ws ++ [V.ref p]) (upd H p (.tup rest)) Q E) := by
  obtain ⟨oc, od, kV, doc, pm, an, cdv, ct, osl, rfl, lk, hcd⟩ := F.ex
  refine StX.fn_star (N := ["names", "name"]) (ps := []) (pv := "names") lk hcd sc_path_of StX.cxUp ?_ ?_
  · intro us rest hu
    cases us with
    | nil =>
      cases rest with
      | nil => rfl
      | cons r rs => rfl
    | cons a l => exact absurd hu (by simp)
  intro A outer s H vs Q E hr h
  obtain ⟨p, vs0, rfl, hp, hlen, hok, hq, he⟩ := h
  refine ⟨_, (pss_cons (ps_for (passes_of rfl) rfl (pi_tup (pv 0)) (pg_name (i := 1) sc_path_of.nd rfl (Or.inl rfl)) (pss_one (ps_if (pt_not (pt_val (pe_callD d_is_name (hr.mono (by decide)) (pa_cons (pv 1) pa_nil)))) (pss_one (ps_raiseName rfl L hr (takes_of rfl rfl rfl rfl) (by exact (pa_cons (pv 1) pa_nil)))) pss_nil)))
    (pss_one (ps_ret (pe_join pe_str (pv 0))))), ?_⟩
  refine ⟨_, rfl, p, rfl, ⟨_, SqT.of hp⟩, for_tup (K := K) (a := p) (xs := vs0) (fun i σ H' => ∃ v, σ = [some (.ref p), v] ∧ Same H H' ∧ (vs0.take i).all nmV = true) ⟨none, rfl, Same.refl H, rfl⟩ (fun i σ H' _ ⟨_, _, sm, _⟩ => sqT_same sm (SqT.of hp)) ?_ ?_⟩
  · rintro i y σ H' hi ⟨v, rfl, sm, hall⟩
    have hm := List.mem_of_getElem? hi
    refine ⟨_, rfl, ?_⟩
    dsimp only [tNil, List.append_nil, List.nil_append, List.cons_append]
    refine name_of (K := K) ((hok y hm).same sm) fun H1 s1 => ?_
    refine ⟨_, rfl, ?_⟩
    cases hy : nmV y with
    | true =>
      refine iteF ⟨_, rfl, sm.trans s1, ?_⟩
      rw [List.take_add_one, hi]
      simp only [Option.toList_some, List.all_append, hall, Bool.true_and]
      simp [hy]
    | false =>
      refine iteT ?_
      exact ⟨_, rfl, y, rfl, fun d hd => he y (first_bad hi hall hy) _ d ((sm.trans s1).trans (same_new hd)) upd_same⟩
  · rintro σ H' ⟨v, rfl, sm, hall⟩
    rw [List.take_length] at hall
    obtain ⟨ss, rfl, hs⟩ := all_strs hall
    refine ⟨⟨_, rfl⟩, _, rfl, c_sl, p, ss, rfl, rfl, Or.inr (SqT.of (sm _ _ hp)), ?_, hq hall H' ss sm rfl⟩
    have h1 := sum_le (ss := ss) (n := 8) fun s hm => (isNm_len (hs s hm)).2
    have h2 : c_sl.length = 1 := by decide +kernel
    rw [List.length_map] at hlen
    rw [h2]
    omega
end
end K2

set_option Elab.async false
set_option linter.all false
set_option maxRecDepth 100000
set_option maxHeartbeats 4000000
namespace K2
open PySem PySem.Spec PyProof.Rows L2 LF
abbrev s_made : Stmt := topS 21
theorem sc_made : FnScope ["_law_values", "e", "_law_own"] ["_law_values"] (defScope s_made) := ⟨rfl, rfl, rfl, by decide +kernel, rfl, by decide +kernel, by decide +kernel⟩
/-- what the error classes must say for the law's handler -/
structure ErrTxt (K : PySem.W.Frag) (mg : Str → Option Value) (CN fN CP CE : Addr) : Prop where
  low : PySem.BadNameX.NameTxt K mg CN fN
  exC : ExcC K CN
  g_BadPath : mg "BadPath" = some (.ref CP)
  g_BadEntry : mg "BadEntry" = some (.ref CE)
  n_ValueError : mg "ValueError" = none
  kVE : PySem.W.kitOne K (.ref CN) (.type "ValueError") = some true
  kPE : PySem.W.kitAny K (.ref CN) [.ref CP, .ref CE] = some false
def spMade : Sp := fun vs H Q _ => ∃ (a : Addr) (vs0 : List V), vs = [.ref a] ∧ H a = some (.lst vs0) ∧ vs0.length ≤ 3 ∧ (∀ v ∈ vs0, ValOk H v) ∧
  (vs0.all nmV = true → ∀ H' ss p, Same H H' → vs0 = ss.map V.str → H' p = some (.lst [.str (PySem.Txt.join c_sl ss)]) → Q (.ref p) H') ∧
  (∀ w, (vs0.filter fun v => !nmV v).head? = some w → ∀ H' p, Same H H' → H' p = some (.tup [.str "BadName", w]) → Q (.ref p) H')
def rLenS (K : PySem.W.Frag) : List V → Hp → VK → Prop := fun xs H Q => ∃ p ys, xs = [.ref p] ∧ (SqL K H p ys ∨ SqT K H p ys) ∧ Q (.int ys.length) H
section
variable {P : Program} {w : World} {K : PySem.W.Frag} {mg : Str → Option Value} {base : Heap} {tk1 tk2 : Tok}
theorem ok_made {f f1 CN fN CP CE : Addr} {fd : FuncData} (F : Fun K "_law_made" "_law_made" s_made f fd) (T : Txt K mg tk1 tk2) (R : ErrTxt K mg CN fN CP CE)
    (FO : FnR P w K mg base (L2.CX P w) 4 f1 (fun vs H Q E => ∃ ws rest, vs = ws ++ rest ∧ ws.length = ([] : List Str).length ∧ rest.length ≤ sizeLine ∧ ∀ p, H p = Option.none → spOfT CN (ws ++ [V.ref p]) (upd H p (.tup rest)) Q E))
    (gO : mg "path_of" = some (.ref f1)) (kO : PySem.W.keepIn K (.ref f1) = true) : FnOk P w K mg base CX0 6 f fd ["_law_values"] spMade := by
  refine F.ok sc_made (fun vs H Q E h => ?_) (fun cdv A outer s H vs Q E hr h => ?_)
  · obtain ⟨a, vs0, rfl, _⟩ := h
    rfl
  refine ⟨_, pss_one (ps_try_as (i := 1) (Wout := fun _ _ _ _ => False) rfl rfl sc_made.nd rfl rfl ⟨rfl, by decide, Or.inl R.low.gC⟩ takes0
    (fun W pn xe tk _ =>
      pss_cons (ps_if (pt_cmpR op_eq (pe_callB (show CallR _ (.builtin "len") (rLenS K) from call_len_seq) (by rfl) T.n_len PySem.boot_len (pa_cons (pv 0) pa_nil)) pe_int (nomark _)) (pss_one (ps_ret (pe_lst (pa_cons (pe_callRS0 FO (hr.mono (by decide)) gO kO tk) pa_nil)))) pss_nil)
      (pss_cons (ps_if (pt_cmpR op_eq (pe_callB (show CallR _ (.builtin "len") (rLenS K) from call_len_seq) (by rfl) T.n_len PySem.boot_len (pa_cons (pv 0) pa_nil)) pe_int (nomark _)) (pss_one (ps_ret (pe_lst (pa_cons (pe_callRS FO (hr.mono (by decide)) gO kO tk (pa_cons (pe_ix (show IxR _ (rIxL K) from ix_list) (pv 0) pe_int (fun _ _ => rfl)) pa_nil)) pa_nil)))) pss_nil)
      (pss_cons (ps_if (pt_cmpR op_eq (pe_callB (show CallR _ (.builtin "len") (rLenS K) from call_len_seq) (by rfl) T.n_len PySem.boot_len (pa_cons (pv 0) pa_nil)) pe_int (nomark _)) (pss_one (ps_ret (pe_lst (pa_cons (pe_callRS FO (hr.mono (by decide)) gO kO tk (pa_cons (pe_ix (show IxR _ (rIxL K) from ix_list) (pv 0) pe_int (fun _ _ => rfl)) (pa_cons (pe_ix (show IxR _ (rIxL K) from ix_list) (pv 0) pe_int (fun _ _ => rfl)) pa_nil))) pa_nil)))) pss_nil)
      (pss_one (ps_ret (pe_lst (pa_cons (pe_callRS FO (hr.mono (by decide)) gO kO tk (pa_cons (pe_ix (show IxR _ (rIxL K) from ix_list) (pv 0) pe_int (fun _ _ => rfl)) (pa_cons (pe_ix (show IxR _ (rIxL K) from ix_list) (pv 0) pe_int (fun _ _ => rfl)) (pa_cons (pe_ix (show IxR _ (rIxL K) from ix_list) (pv 0) pe_int (fun _ _ => rfl)) pa_nil)))) pa_nil)))))))
    (fun a oe cls d pn hz hf =>
      pss_cons (ps_set (i := 2) sc_made.nd rfl (Or.inl rfl) (pe_and (pe_callB (call_isErr R.exC hz hf) (by rfl) T.n_isinstance (by decide +kernel) (pa_cons (pv 1) (pa_cons (pe_bltn (v := .ty "ValueError") (by rfl) R.n_ValueError (by decide +kernel) rfl) pa_nil)))
          (pe_one (pe_not (pe_callB (call_isErr R.exC hz hf) (by rfl) T.n_isinstance (by decide +kernel) (pa_cons (pv 1) (pa_cons (pe_tup (pa_cons (pe_glob (v := .ref CP) rfl R.g_BadPath rfl) (pa_cons (pe_glob (v := .ref CE) rfl R.g_BadEntry rfl) pa_nil))) pa_nil)))))))
      (pss_one (ps_ret (pe_ifExp (pt_val (pv 2)) (pe_tup (pa_cons pe_str (pa_cons (pe_nameOf R.low hz hf (pv 1)) pa_nil))) (pe_tup (pa_cons pe_str pa_nil))))))), ?_⟩
  obtain ⟨a, vs0, rfl, ha, hlen, hok, hq, he⟩ := h
  have hcall : ∀ (Q1 : VK) (E1 : XK), (vs0.all nmV = true → ∀ H' ss, Same H H' → vs0 = ss.map V.str → Q1 (.str (PySem.Txt.join c_sl ss)) H') →
      (∀ w, (vs0.filter fun v => !nmV v).head? = some w → ∀ H' d, Same H H' → H' d = some (.xd [("name", w)]) → E1 (.ref CN) (some d) H') →
      ∃ ws rest, vs0 = ws ++ rest ∧ ws.length = ([] : List Str).length ∧ rest.length ≤ sizeLine ∧ ∀ p, H p = none → spOfT CN (ws ++ [V.ref p]) (upd H p (.tup rest)) Q1 E1 := by
    intro Q1 E1 h1 h2
    refine ⟨[], vs0, rfl, rfl, Nat.le_trans hlen (by decide), fun p hp => ⟨p, vs0, rfl, upd_same, by omega, fun v hv => (hok v hv).same (same_new hp), fun hall H' ss sm e => h1 hall H' ss ((same_new hp).trans sm) e, fun w hw H' d sm hd => h2 w hw H' d ((same_new hp).trans sm) hd⟩⟩
  have hsucc : vs0.all nmV = true → ∀ H' ss, Same H H' → vs0 = ss.map V.str → ([V.str (PySem.Txt.join c_sl ss)] : List V).length ≤ sizeLine ∧ ∀ p, H' p = none → Q (.ref p) (upd H' p (.lst [V.str (PySem.Txt.join c_sl ss)])) := by
    intro hall H' ss sm e
    exact ⟨by show 1 ≤ sizeLine; decide, fun p hp => hq hall _ ss p (sm.trans (same_new hp)) e upd_same⟩
  match vs0, hlen, hcall, hsucc with
  | [], _, hcall, hsucc =>
    refine ⟨_, rfl, a, _, rfl, Or.inl (SqL.of ha), rfl, _, rfl, ?_⟩
    refine iteT ?_
    refine hcall _ _ (fun hall H' ss sm e => hsucc hall H' ss sm e) (fun w hw => ?_)
    exact absurd hw (by simp)
  | [x], _, hcall, hsucc =>
    refine ⟨_, rfl, a, _, rfl, Or.inl (SqL.of ha), rfl, _, rfl, ?_⟩
    refine iteF ?_
    refine ⟨_, rfl, a, _, rfl, Or.inl (SqL.of ha), rfl, _, rfl, ?_⟩
    refine iteT ?_
    refine ⟨_, rfl, a, _, _, _, rfl, rfl, SqL.of ha, rfl, ?_⟩
    refine hcall _ _ (fun hall H' ss sm e => hsucc hall H' ss sm e) ?_
    intro w hw H' d sm hd
    refine ⟨true, R.low.te, fun _ a0 ha0 => ?_, fun q => Bool.noConfusion q⟩
    refine ⟨_, rfl, rfl, fun e' he' => ⟨_, Option.some.inj he' ▸ hd⟩, Or.inl ⟨.ty "ValueError", .type "ValueError", true, rfl, fun u r => r, R.kVE, _, rfl, ?_⟩⟩
    refine iteT ?_
    refine ⟨_, rfl, (by show 2 ≤ sizeLine; decide), fun tp htp => ?_⟩
    have ndt : d ≠ tp := ne_of_none hd htp
    refine ⟨rfl, fun e' he' => ⟨_, Option.some.inj he' ▸ (upd_ne ndt).trans hd⟩, Or.inr ⟨tp, [.ref CP, .ref CE], [.ref CP, .ref CE], false, rfl, upd_same, .cons (.own CP) (.cons (.own CE) .nil), R.kPE, _, rfl, ?_⟩⟩
    refine ⟨_, rfl, _, rfl, ?_⟩
    refine iteT ?_
    refine ⟨_, rfl, rfl, rfl, d, w, rfl, (upd_ne ndt).trans hd, (by show 2 ≤ sizeLine; decide), fun q hq1 => ?_⟩
    exact he w hw _ q ((sm.trans (same_new htp)).trans (same_new hq1)) upd_same
  | [x, y], _, hcall, hsucc =>
    refine ⟨_, rfl, a, _, rfl, Or.inl (SqL.of ha), rfl, _, rfl, ?_⟩
    refine iteF ?_
    refine ⟨_, rfl, a, _, rfl, Or.inl (SqL.of ha), rfl, _, rfl, ?_⟩
    refine iteF ?_
    refine ⟨_, rfl, a, _, rfl, Or.inl (SqL.of ha), rfl, _, rfl, ?_⟩
    refine iteT ?_
    refine ⟨_, rfl, a, _, _, _, rfl, rfl, SqL.of ha, rfl, _, rfl, a, _, _, _, rfl, rfl, SqL.of ha, rfl, ?_⟩
    refine hcall _ _ (fun hall H' ss sm e => hsucc hall H' ss sm e) ?_
    intro w hw H' d sm hd
    refine ⟨true, R.low.te, fun _ a0 ha0 => ?_, fun q => Bool.noConfusion q⟩
    refine ⟨_, rfl, rfl, fun e' he' => ⟨_, Option.some.inj he' ▸ hd⟩, Or.inl ⟨.ty "ValueError", .type "ValueError", true, rfl, fun u r => r, R.kVE, _, rfl, ?_⟩⟩
    refine iteT ?_
    refine ⟨_, rfl, (by show 2 ≤ sizeLine; decide), fun tp htp => ?_⟩
    have ndt : d ≠ tp := ne_of_none hd htp
    refine ⟨rfl, fun e' he' => ⟨_, Option.some.inj he' ▸ (upd_ne ndt).trans hd⟩, Or.inr ⟨tp, [.ref CP, .ref CE], [.ref CP, .ref CE], false, rfl, upd_same, .cons (.own CP) (.cons (.own CE) .nil), R.kPE, _, rfl, ?_⟩⟩
    refine ⟨_, rfl, _, rfl, ?_⟩
    refine iteT ?_
    refine ⟨_, rfl, rfl, rfl, d, w, rfl, (upd_ne ndt).trans hd, (by show 2 ≤ sizeLine; decide), fun q hq1 => ?_⟩
    exact he w hw _ q ((sm.trans (same_new htp)).trans (same_new hq1)) upd_same
  | [x, y, z], _, hcall, hsucc =>
    refine ⟨_, rfl, a, _, rfl, Or.inl (SqL.of ha), rfl, _, rfl, ?_⟩
    refine iteF ?_
    refine ⟨_, rfl, a, _, rfl, Or.inl (SqL.of ha), rfl, _, rfl, ?_⟩
    refine iteF ?_
    refine ⟨_, rfl, a, _, rfl, Or.inl (SqL.of ha), rfl, _, rfl, ?_⟩
    refine iteF ?_
    refine ⟨_, rfl, a, _, _, _, rfl, rfl, SqL.of ha, rfl, _, rfl, a, _, _, _, rfl, rfl, SqL.of ha, rfl, _, rfl, a, _, _, _, rfl, rfl, SqL.of ha, rfl, ?_⟩
    refine hcall _ _ (fun hall H' ss sm e => hsucc hall H' ss sm e) ?_
    intro w hw H' d sm hd
    refine ⟨true, R.low.te, fun _ a0 ha0 => ?_, fun q => Bool.noConfusion q⟩
    refine ⟨_, rfl, rfl, fun e' he' => ⟨_, Option.some.inj he' ▸ hd⟩, Or.inl ⟨.ty "ValueError", .type "ValueError", true, rfl, fun u r => r, R.kVE, _, rfl, ?_⟩⟩
    refine iteT ?_
    refine ⟨_, rfl, (by show 2 ≤ sizeLine; decide), fun tp htp => ?_⟩
    have ndt : d ≠ tp := ne_of_none hd htp
    refine ⟨rfl, fun e' he' => ⟨_, Option.some.inj he' ▸ (upd_ne ndt).trans hd⟩, Or.inr ⟨tp, [.ref CP, .ref CE], [.ref CP, .ref CE], false, rfl, upd_same, .cons (.own CP) (.cons (.own CE) .nil), R.kPE, _, rfl, ?_⟩⟩
    refine ⟨_, rfl, _, rfl, ?_⟩
    refine iteT ?_
    refine ⟨_, rfl, rfl, rfl, d, w, rfl, (upd_ne ndt).trans hd, (by show 2 ≤ sizeLine; decide), fun q hq1 => ?_⟩
    exact he w hw _ q ((sm.trans (same_new htp)).trans (same_new hq1)) upd_same
end
end K2

set_option Elab.async false
set_option linter.all false
set_option maxRecDepth 100000
set_option maxHeartbeats 4000000
namespace LF
open PySem PySem.Spec PyProof.Rows L2
def spBag (K : PySem.W.Frag) : Sp := fun vs H Q _ => ∃ (a : Addr) (at' : Int) (ns : List Int), vs = [.ref a, .int at'] ∧ SqL K H a (ns.map V.int) ∧ 0 ≤ at' ∧
  ∀ H' p, Same H H' → H p = none → BagAt H' p → Q (.ref p) H'
def spTake : Sp := fun vs H Q _ => ∃ (b : Addr) (m : Int), vs = [.ref b, .int m] ∧ BagAt H b ∧ 1 ≤ m ∧ m < 1000000 ∧
  ∀ H' r, Keep b H H' → BagAt H' b → 0 ≤ r → r < m → Q (.int r) H'
def spPick (K : PySem.W.Frag) : Sp := fun vs H Q _ => ∃ (b : Addr) (x : V), vs = [.ref b, x] ∧ BagAt H b ∧
  ((∃ (p : Addr) (items : List V), x = .ref p ∧ p ≠ b ∧ SqL K H p items ∧ 1 ≤ items.length ∧ items.length < 1000000 ∧ ∀ H' v, Keep b H H' → BagAt H' b → v ∈ items → Q v H') ∨
   (∃ z : Str, x = .str z ∧ 1 ≤ z.length ∧ z.length < 1000000 ∧ ∀ H' c, Keep b H H' → BagAt H' b → c ∈ z.cps.toList → Q (.str ⟨#[c]⟩) H'))
end LF
namespace K2
open PySem PySem.Spec PyProof.Rows L2 LF
abbrev s_bag : Stmt := topS 16
theorem sc_bag : FnScope ["_law_script", "_law_at", "_law_cell", "_law_digits"] ["_law_script", "_law_at"] (defScope s_bag) := ⟨rfl, rfl, rfl, by decide +kernel, rfl, by decide +kernel, by decide +kernel⟩
abbrev s_take : Stmt := topS 17
theorem sc_take : FnScope ["_law_bag_here", "_law_many", "_law_digit"] ["_law_bag_here", "_law_many"] (defScope s_take) := ⟨rfl, rfl, rfl, by decide +kernel, rfl, by decide +kernel, by decide +kernel⟩
abbrev s_pick : Stmt := topS 18
theorem sc_pick : FnScope ["_law_bag_here", "_law_some"] ["_law_bag_here", "_law_some"] (defScope s_pick) := ⟨rfl, rfl, rfl, by decide +kernel, rfl, by decide +kernel, by decide +kernel⟩
section
variable {P : Program} {w : World} {K : PySem.W.Frag} {mg : Str → Option Value} {base : Heap} {tk1 tk2 : Tok}
theorem ok_bag {f : Addr} {fd : FuncData} (F : Fun K "_law_bag" "_law_bag" s_bag f fd) (T : Txt K mg tk1 tk2) : FnOk P w K mg base CX0 1 f fd ["_law_script", "_law_at"] (spBag K) := by
  refine F.ok sc_bag (fun vs H Q E h => ?_) (fun cdv A outer s H vs Q E hr h => ?_)
  · obtain ⟨a, at', ns, rfl, _⟩ := h
    rfl
  refine ⟨_, (pss_cons (ps_set (i := 2) sc_bag.nd rfl (Or.inl rfl) (pe_ifExp (pt_cmpR op_lt (pv 1) (pe_callB call_len_seq (by rfl) T.n_len (by decide +kernel) (pa_cons (pv 0) pa_nil)) (nomark _)) (pe_ix ix_list (pv 0) (pv 1) (fun _ _ => rfl)) pe_int))
    (pss_cons (ps_set (i := 3) sc_bag.nd rfl (Or.inl rfl) (pe_ifExp (pt_cmpR op_ge (pe_callB call_abs (by rfl) T.n_abs (by decide +kernel) (pa_cons (pv 2) pa_nil)) (pe_op op_pow pe_int pe_int) (nomark _)) (pe_callB call_abs (by rfl) T.n_abs (by decide +kernel) (pa_cons (pv 2) pa_nil)) pe_int))
    (pss_one (ps_ret (pe_lst (pa_cons (pv 3) (pa_cons (pe_op op_mod (pe_op op_add (pe_op op_add (pe_op op_mul (pe_op op_mod (pe_callTy call_int1 (by rfl) T.n_int (by decide +kernel) (pa_cons (pv 2) pa_nil)) pe_int) pe_int) (pe_op op_mul pe_int (pv 1))) pe_int) pe_int) (pa_cons pe_int pa_nil)))))))), ?_⟩
  obtain ⟨a, at', ns, rfl, hS, hat, hq⟩ := h
  have absNN : ∀ c : Int, 0 ≤ (if c < 0 then -c else c) := fun c => by split <;> omega
  refine ⟨_, rfl, _, rfl, a, _, rfl, Or.inl hS, _, _, rfl, rfl, _, rfl, ?_⟩
  refine ifD (fun h1 => ?_) (fun h1 => ?_)
  · rw [List.length_map] at h1
    have h2 : at'.toNat < ns.length := by omega
    have hix : atI (ns.map V.int) at' = some (.int ns[at'.toNat]) := by
      have e : at' = ((at'.toNat : Nat) : Int) := by omega
      have z := atI_nat (xs := ns.map V.int) (j := at'.toNat) (v := .int ns[at'.toNat]) (by rw [List.getElem?_map, List.getElem?_eq_getElem h2]; rfl)
      rw [← e] at z
      exact z
    refine ⟨_, rfl, _, rfl, a, _, _, .int ns[at'.toNat], rfl, rfl, hS, hix, ?_⟩
    refine ⟨_, rfl, _, rfl, _, _, rfl, rfl, ⟨by decide, by decide, by decide⟩, _, _, rfl, rfl, _, rfl, ?_⟩
    refine ifD (fun _ => ?_) (fun _ => ?_)
    · refine ⟨_, rfl, _, rfl, ?_⟩
      refine ⟨_, rfl, _, rfl, Or.inl ⟨_, rfl, ?_⟩⟩
      refine ⟨_, _, rfl, rfl, (by show (0 : Int) < 2147483629; decide), ?_⟩
      refine ⟨_, _, rfl, rfl, Or.inr ⟨by decide, by decide⟩, ?_⟩
      refine ⟨_, rfl, _, _, rfl, rfl, Or.inl ⟨by decide, by decide⟩, ?_⟩
      refine ⟨_, _, rfl, rfl, _, _, rfl, rfl, _, _, rfl, rfl, (by show (0 : Int) < 2147483647; decide), ?_⟩
      exact ⟨(by show 3 ≤ sizeLine; decide), fun p hp => hq _ p (same_new hp) hp ⟨_, _, 0, upd_same, by first | exact absNN _ | exact Int.le_refl 0, Int.emod_nonneg _ (by decide), Int.emod_lt_of_pos _ (by decide)⟩⟩
    · refine ⟨_, rfl, _, rfl, Or.inl ⟨_, rfl, ?_⟩⟩
      refine ⟨_, _, rfl, rfl, (by show (0 : Int) < 2147483629; decide), ?_⟩
      refine ⟨_, _, rfl, rfl, Or.inr ⟨by decide, by decide⟩, ?_⟩
      refine ⟨_, rfl, _, _, rfl, rfl, Or.inl ⟨by decide, by decide⟩, ?_⟩
      refine ⟨_, _, rfl, rfl, _, _, rfl, rfl, _, _, rfl, rfl, (by show (0 : Int) < 2147483647; decide), ?_⟩
      exact ⟨(by show 3 ≤ sizeLine; decide), fun p hp => hq _ p (same_new hp) hp ⟨_, _, 0, upd_same, by first | exact absNN _ | exact Int.le_refl 0, Int.emod_nonneg _ (by decide), Int.emod_lt_of_pos _ (by decide)⟩⟩
  · refine ⟨_, rfl, _, rfl, _, _, rfl, rfl, ⟨by decide, by decide, by decide⟩, _, _, rfl, rfl, _, rfl, ?_⟩
    refine ifD (fun _ => ?_) (fun _ => ?_)
    · refine ⟨_, rfl, _, rfl, ?_⟩
      refine ⟨_, rfl, _, rfl, Or.inl ⟨_, rfl, ?_⟩⟩
      refine ⟨_, _, rfl, rfl, (by show (0 : Int) < 2147483629; decide), ?_⟩
      refine ⟨_, _, rfl, rfl, Or.inr ⟨by decide, by decide⟩, ?_⟩
      refine ⟨_, rfl, _, _, rfl, rfl, Or.inl ⟨by decide, by decide⟩, ?_⟩
      refine ⟨_, _, rfl, rfl, _, _, rfl, rfl, _, _, rfl, rfl, (by show (0 : Int) < 2147483647; decide), ?_⟩
      exact ⟨(by show 3 ≤ sizeLine; decide), fun p hp => hq _ p (same_new hp) hp ⟨_, _, 0, upd_same, by first | exact absNN _ | exact Int.le_refl 0, Int.emod_nonneg _ (by decide), Int.emod_lt_of_pos _ (by decide)⟩⟩
    · refine ⟨_, rfl, _, rfl, Or.inl ⟨_, rfl, ?_⟩⟩
      refine ⟨_, _, rfl, rfl, (by show (0 : Int) < 2147483629; decide), ?_⟩
      refine ⟨_, _, rfl, rfl, Or.inr ⟨by decide, by decide⟩, ?_⟩
      refine ⟨_, rfl, _, _, rfl, rfl, Or.inl ⟨by decide, by decide⟩, ?_⟩
      refine ⟨_, _, rfl, rfl, _, _, rfl, rfl, _, _, rfl, rfl, (by show (0 : Int) < 2147483647; decide), ?_⟩
      exact ⟨(by show 3 ≤ sizeLine; decide), fun p hp => hq _ p (same_new hp) hp ⟨_, _, 0, upd_same, by first | exact absNN _ | exact Int.le_refl 0, Int.emod_nonneg _ (by decide), Int.emod_lt_of_pos _ (by decide)⟩⟩
theorem ok_take {f : Addr} {fd : FuncData} (F : Fun K "_law_take" "_law_take" s_take f fd) (T : Txt K mg tk1 tk2) : FnOk P w K mg base CX0 1 f fd ["_law_bag_here", "_law_many"] spTake := by
  refine F.ok sc_take (fun vs H Q E h => ?_) (fun cdv A outer s H vs Q E hr h => ?_)
  · obtain ⟨b, m, rfl, _⟩ := h
    rfl
  refine ⟨_, (pss_cons (ps_if (pt_cmpR op_gt (pe_ix ix_list (pv 0) pe_int (fun _ _ => rfl)) pe_int (nomark _)) (pss_cons (ps_set (i := 2) sc_take.nd rfl (Or.inl rfl) (pe_op op_mod (pe_callTy call_int1 (by rfl) T.n_int (by decide +kernel) (pa_cons (pe_ix ix_list (pv 0) pe_int (fun _ _ => rfl)) pa_nil)) (pv 1)))
    (pss_cons (ps_asg (pe_op op_fdiv (pe_ix ix_list (pv 0) pe_int (fun _ _ => rfl)) (pv 1)) (pg_sub (pv 0) pe_int set_list))
    (pss_one (ps_ret (pv 2))))) pss_nil)
    (pss_cons (ps_asg (pe_op op_add (pe_ix ix_list (pv 0) pe_int (fun _ _ => rfl)) pe_int) (pg_sub (pv 0) pe_int set_list))
    (pss_cons (ps_asg (pe_op op_mod (pe_op op_add (pe_op op_add (pe_op op_mul (pe_callTy call_int1 (by rfl) T.n_int (by decide +kernel) (pa_cons (pe_ix ix_list (pv 0) pe_int (fun _ _ => rfl)) pa_nil)) pe_int) (pe_op op_mul pe_int (pe_ix ix_list (pv 0) pe_int (fun _ _ => rfl)))) pe_int) pe_int) (pg_sub (pv 0) pe_int set_list))
    (pss_one (ps_ret (pe_op op_mod (pe_op op_fdiv (pe_op op_mod (pe_callTy call_int1 (by rfl) T.n_int (by decide +kernel) (pa_cons (pe_op op_pow (pe_op op_fdiv (pe_ix ix_list (pv 0) pe_int (fun _ _ => rfl)) pe_int) pe_int) pa_nil)) pe_int) pe_int) (pv 1))))))), ?_⟩
  obtain ⟨b, m, rfl, ⟨d, x, n, hb, hd, hx0, hx1⟩, hm1, hm2, hq⟩ := h
  refine ⟨_, rfl, b, _, _, _, rfl, rfl, SqL.of hb, rfl, _, _, rfl, rfl, _, rfl, ?_⟩
  refine ifD (fun h1 => ?_) (fun h1 => ?_)
  · refine ⟨_, rfl, b, _, _, _, rfl, rfl, SqL.of hb, rfl, Or.inl ⟨_, rfl, ?_⟩⟩
    refine ⟨_, rfl, _, _, rfl, rfl, (by show (0 : Int) < m; omega), ?_⟩
    refine ⟨_, rfl, b, _, _, _, rfl, rfl, SqL.of hb, rfl, _, rfl, _, _, rfl, rfl, ⟨by show (0 : Int) < m; omega, by show m < 1073741824; omega⟩, ?_⟩
    refine ⟨_, rfl, b, _, _, _, rfl, rfl, hb, rfl, ?_⟩
    refine ⟨_, rfl, ?_⟩
    refine hq _ _ (keep_put (Keep.refl b H)) ⟨d / m, x, n, upd_same, ?_, hx0, hx1⟩ (Int.emod_nonneg _ (by omega)) (Int.emod_lt_of_pos _ (by omega))
    exact Int.ediv_nonneg hd (by omega)
  · refine ⟨_, rfl, b, _, _, _, rfl, rfl, SqL.of hb, rfl, _, _, rfl, rfl, ?_⟩
    refine ⟨_, rfl, b, _, _, _, rfl, rfl, hb, rfl, ?_⟩
    refine ⟨_, rfl, b, _, _, _, rfl, rfl, SqL.of upd_same, rfl, Or.inl ⟨_, rfl, ?_⟩⟩
    refine ⟨_, _, rfl, rfl, Or.inr ⟨by decide, by decide⟩, ?_⟩
    refine ⟨_, rfl, b, _, _, _, rfl, rfl, SqL.of upd_same, rfl, _, _, rfl, rfl, Or.inl ⟨by decide, by decide⟩, ?_⟩
    refine ⟨_, _, rfl, rfl, _, _, rfl, rfl, _, _, rfl, rfl, (by show (0 : Int) < 2147483647; decide), ?_⟩
    refine ⟨_, rfl, b, _, _, _, rfl, rfl, upd_same, rfl, ?_⟩
    have n1 := Int.emod_nonneg (x * 48271 + 3571 * (n + 1) + 7) (show (2147483647 : Int) ≠ 0 by decide)
    have n2 := Int.emod_lt_of_pos (x * 48271 + 3571 * (n + 1) + 7) (show (0 : Int) < 2147483647 by decide)
    refine ⟨_, rfl, b, _, _, _, rfl, rfl, SqL.of upd_same, rfl, _, _, rfl, rfl, ⟨by decide, by decide⟩, ?_⟩
    refine ⟨_, _, rfl, rfl, ⟨by decide, by decide, ?_⟩, Or.inl ⟨_, rfl, ?_⟩⟩
    · have h9 : (((x * 48271 + 3571 * (n + 1) + 7) % 2147483647) / 8).natAbs < 2 ^ 64 := by
        generalize (x * 48271 + 3571 * (n + 1) + 7) % 2147483647 = y at n1 n2 ⊢
        have h8 : 0 ≤ y / 8 ∧ y / 8 < 2147483647 := by omega
        have h7 : (2 : Nat) ^ 64 = 18446744073709551616 := by decide
        omega
      exact h9
    refine ⟨_, _, rfl, rfl, (by show (0 : Int) < 2147483579; decide), _, _, rfl, rfl, ⟨by decide, by decide⟩, ?_⟩
    refine ⟨_, rfl, _, _, rfl, rfl, (by show (0 : Int) < m; omega), ?_⟩
    refine hq _ _ (keep_put (keep_put (Keep.refl b H))) ⟨_, _, _, upd_same, hd, n1, n2⟩ (Int.emod_nonneg _ (by omega)) (Int.emod_lt_of_pos _ (by omega))
theorem ok_pick {f f1 : Addr} {fd fd1 : FuncData} (F : Fun K "_law_pick" "_law_pick" s_pick f fd) (T : Txt K mg tk1 tk2) (d_take : DefAt P w K mg base "_law_take" 1 f1 fd1 ["_law_bag_here", "_law_many"] spTake) :
    FnOk P w K mg base CX0 2 f fd ["_law_bag_here", "_law_some"] (spPick K) := by
  refine F.ok sc_pick (fun vs H Q E h => ?_) (fun cdv A outer s H vs Q E hr h => ?_)
  · obtain ⟨b, x, rfl, _⟩ := h
    rfl
  refine ⟨_, (pss_one (ps_ret (pe_ix ix_seq (pv 1) (pe_callD d_take (hr.mono (by decide)) (pa_cons (pv 0) (pa_cons (pe_callB call_len (by rfl) T.n_len PySem.boot_len (pa_cons (pv 1) pa_nil)) pa_nil))) (fun _ _ => rfl)))), ?_⟩
  obtain ⟨b, x, rfl, hb, h⟩ := h
  rcases h with ⟨p, items, rfl, npb, hp, h1, h2, hq⟩ | ⟨z, rfl, h1, h2, hq⟩
  · refine ⟨_, rfl, _, rfl, _, rfl, .ref p, items.length, rfl, Or.inl ⟨_, hp, rfl⟩, ?_⟩
    refine ⟨b, _, rfl, hb, by omega, by omega, fun H' r kp bg r0 r1 => ?_⟩
    have hr' : r.toNat < items.length := by omega
    have e : r = ((r.toNat : Nat) : Int) := by omega
    have z := atI_nat (xs := items) (j := r.toNat) (v := items[r.toNat]) (List.getElem?_eq_getElem hr')
    rw [← e] at z
    exact Or.inl ⟨p, _, _, _, rfl, rfl, keep_seq kp npb hp, z, hq H' _ kp bg (List.getElem_mem hr')⟩
  · refine ⟨_, rfl, _, rfl, _, rfl, .str z, z.length, rfl, ⟨Nat.le_trans (Nat.le_of_lt h2) (by decide), rfl⟩, ?_⟩
    refine ⟨b, _, rfl, hb, by omega, by omega, fun H' r kp bg r0 r1 => ?_⟩
    have hr' : r.toNat < z.cps.toList.length := by
      have : z.cps.toList.length = z.length := by simp [Str.length]
      omega
    have e : r = ((r.toNat : Nat) : Int) := by omega
    have y := atI_nat (xs := z.cps.toList) (j := r.toNat) (v := z.cps.toList[r.toNat]) (List.getElem?_eq_getElem hr')
    rw [← e] at y
    exact Or.inr (Or.inr ⟨z, _, _, rfl, rfl, Nat.le_trans (Nat.le_of_lt h2) (by decide), y, hq H' _ kp bg (List.getElem_mem hr')⟩)
end
end K2

set_option Elab.async false
set_option linter.all false
set_option maxRecDepth 100000
set_option maxHeartbeats 4000000
namespace LF
open PySem PySem.Spec PyProof.Rows L2 TL K2
def low (z : Str) : Prop := ∀ c ∈ z.cps.toList, c ∈ letters.cps.toList
theorem isNm_iff {z : Str} : isNm z = true ↔ (1 ≤ z.length ∧ z.length ≤ 8) ∧ low z := by
  unfold isNm low
  rw [Bool.and_eq_true, decide_eq_true_eq, List.all_eq_true]
  simp only [decide_eq_true_eq]
theorem sl_not_low : (47 : Nat) ∉ letters.cps.toList := by decide +kernel
theorem isNm_sl {z : Str} (h : isNm z = true) : 47 ∉ tl z := fun hm => sl_not_low ((isNm_iff.mp h).2 _ hm)
theorem tl_sl : tl c_sl = [47] := by decide +kernel
theorem kind_sl : c_sl.cps.all (· < 256) = true := by decide +kernel
theorem len_app (x y : Str) : (x ++ y).length = x.length + y.length := by
  rw [len_tl, len_tl, len_tl, tl_append, List.length_append]
theorem low_app {x y : Str} (hx : low x) (hy : low y) : low (x ++ y) := fun c hc => by
  have e := tl_append x y
  have hc' : c ∈ tl (x ++ y) := hc
  rw [e] at hc'
  exact (List.mem_append.mp hc').elim (hx c) (hy c)
theorem low_sub {x y : Str} (hx : low x) (h : ∀ c ∈ y.cps.toList, c ∈ x.cps.toList) : low y := fun c hc => hx c (h c hc)
theorem cut_mem (z : Str) (lo hi : Option Int) : ∀ c ∈ (cutS z lo hi).cps.toList, c ∈ z.cps.toList := fun c hc => by
  unfold cutS at hc
  exact List.mem_of_mem_drop (List.mem_of_mem_take (by simpa using hc))
theorem cut_to (z : Str) (i : Nat) (h : i ≤ z.length) : (cutS z none (some (i : Int))).length = i := by
  have e : z.cps.toList.length = z.length := by simp [Str.length]
  unfold cutS
  rw [HT.sIx_none, HT.sIx_nat]
  show (((z.cps.toList.drop 0).take (min i z.length - 0)).toArray).size = i
  rw [List.size_toArray, List.length_take, List.length_drop]
  omega
theorem cut_from (z : Str) (i : Nat) (h : i ≤ z.length) : (cutS z (some (i : Int)) none).length = z.length - i := by
  have e : z.cps.toList.length = z.length := by simp [Str.length]
  unfold cutS
  rw [HT.sIx_none, HT.sIx_nat]
  show (((z.cps.toList.drop (min i z.length)).take (z.length - min i z.length)).toArray).size = _
  rw [List.size_toArray, List.length_take, List.length_drop]
  omega
theorem join_nil_tl (ss : List Str) : tl (PySem.Txt.join "" ss) = (ss.map tl).flatten := by
  rw [join_eq, tl_join]
  have e : tl ("" : Str) = [] := by decide +kernel
  rw [e]
  generalize ss.map tl = l
  induction l with
  | nil => rfl
  | cons a l ih =>
    cases l with
    | nil => simp [joinL]
    | cons b l =>
      show a ++ ([] ++ joinL [] (b :: l)) = _
      rw [ih]; simp
/-- what a word is: a stem with one more letter -/
theorem stem_of {ss : List Str} (h : ∀ s ∈ ss, ∃ c, s = ⟨#[c]⟩ ∧ c ∈ letters.cps.toList) : (PySem.Txt.join "" ss).length = ss.length ∧ low (PySem.Txt.join "" ss) := by
  have e := join_nil_tl ss
  constructor
  · rw [len_tl, e]
    clear e
    induction ss with
    | nil => rfl
    | cons a l ih =>
      obtain ⟨c, rfl, _⟩ := h a List.mem_cons_self
      have := ih fun s hs => h s (List.mem_cons_of_mem _ hs)
      have e1 : (tl (⟨#[c]⟩ : Str)).length = 1 := rfl
      simp only [List.map_cons, List.flatten_cons, List.length_append, List.length_cons, e1, this]
      omega
  · intro c hc
    have hc' : c ∈ tl (PySem.Txt.join "" ss) := hc
    rw [e, List.mem_flatten] at hc'
    obtain ⟨l, hl, hcl⟩ := hc'
    obtain ⟨s, hs, rfl⟩ := List.mem_map.mp hl
    obtain ⟨d, rfl, hd⟩ := h s hs
    have : c ∈ [d] := hcl
    rw [List.mem_singleton.mp this]
    exact hd
theorem split_names {ns : List Str} (hne : ns ≠ []) (h : ∀ n ∈ ns, isNm n = true) : PySem.Txt.split (PySem.Txt.join c_sl ns) c_sl = ns :=
  split_join tl_sl kind_sl hne fun p hp => isNm_sl (h p hp)
theorem join_nil0 : PySem.Txt.join c_sl [] = "" := by decide +kernel
theorem join_ne {ns : List Str} (hne : ns ≠ []) (h : ∀ n ∈ ns, isNm n = true) : PySem.Txt.join c_sl ns ≠ "" := fun e => by
  have h1 := split_names hne h
  rw [e] at h1
  have h2 : PySem.Txt.split "" c_sl = [("" : Str)] := by decide +kernel
  rw [h2] at h1
  have h3 := h "" (by rw [← h1]; exact List.mem_singleton_self _)
  exact absurd h3 (by decide +kernel)
theorem parts_join {ns : List Str} (h : ∀ n ∈ ns, isNm n = true) : parts (PySem.Txt.join c_sl ns) = ns := by
  unfold parts
  by_cases hne : ns = []
  · subst hne
    rw [join_nil0, if_pos rfl]
  · rw [if_neg (join_ne hne h), split_names hne h]
theorem isPt_join {ns : List Str} (h : ∀ n ∈ ns, isNm n = true) : isPt (PySem.Txt.join c_sl ns) = true := by
  unfold isPt
  by_cases hne : ns = []
  · subst hne
    rw [join_nil0]; rfl
  · rw [split_names hne h, List.all_eq_true.mpr h, Bool.or_true]
theorem join_len_le {ns : List Str} (h : ∀ n ∈ ns, isNm n = true) : (PySem.Txt.join c_sl ns).length ≤ 9 * ns.length := by
  rw [len_tl, join_eq, tl_join, tl_sl]
  induction ns with
  | nil => exact Nat.zero_le _
  | cons a l ih =>
    have ha := (isNm_len (h a List.mem_cons_self)).2
    have e : (tl a).length = a.length := (len_tl a).symm
    have il := ih fun n hn => h n (List.mem_cons_of_mem _ hn)
    cases l with
    | nil =>
      show (tl a).length ≤ _
      rw [List.length_singleton]; omega
    | cons b l =>
      show (tl a ++ ([47] ++ joinL [47] ((b :: l).map tl))).length ≤ _
      have e1 : ([47] : List Nat).length = 1 := rfl
      simp only [List.length_append, List.length_cons, e1] at il ⊢
      try simp only [List.length_nil] at il ⊢
      omega
end LF

set_option Elab.async false
set_option linter.all false
set_option maxRecDepth 100000
set_option maxHeartbeats 4000000
namespace LF
open PySem PySem.Spec PyProof.Rows L2 K2
def spWords : Sp := fun vs H Q _ => ∃ (b : Addr) (m : Int), vs = [.ref b, .int m] ∧ BagAt H b ∧ 0 ≤ m ∧ m ≤ 100 ∧
  ∀ (H' : Hp) (p : Addr) (ss : List Str), Keep b H H' → BagAt H' b → H p = none → H' p = some (.lst (ss.map V.str)) → (ss.length : Int) = m → (∀ s ∈ ss, isNm s = true) → Q (.ref p) H'
def spLPath : Sp := fun vs H Q _ => ∃ (b l : Addr) (L : List Str) (most : Int), vs = [.ref b, .ref l, .int most] ∧ BagAt H b ∧ l ≠ b ∧ H l = some (.lst (L.map V.str)) ∧ 1 ≤ L.length ∧ L.length ≤ 1000 ∧
  (∀ s ∈ L, isNm s = true) ∧ 0 ≤ most ∧ most ≤ 1000 ∧
  ∀ (H' : Hp) (ns : List Str), Keep b H H' → BagAt H' b → (∀ n ∈ ns, isNm n = true) → (ns.length : Int) ≤ most → Q (.str (PySem.Txt.join c_sl ns)) H'
theorem all_str {Pr : Str → Prop} : ∀ {acc : List V}, (∀ y ∈ acc, ∃ s, y = V.str s ∧ Pr s) → ∃ ss : List Str, acc = ss.map V.str ∧ ∀ s ∈ ss, Pr s
  | [], _ => ⟨[], rfl, fun _ h => nomatch h⟩
  | v :: vs, h => by
    obtain ⟨ss, e, hs⟩ := all_str (acc := vs) fun y hy => h y (List.mem_cons_of_mem _ hy)
    obtain ⟨s, rfl, hp⟩ := h v List.mem_cons_self
    exact ⟨s :: ss, by rw [e]; rfl, fun t ht => (List.mem_cons.mp ht).elim (fun q => q ▸ hp) (hs t)⟩
end LF
namespace K2
open PySem PySem.Spec PyProof.Rows L2 LF
abbrev s_lpath : Stmt := topS 20
abbrev N__law_path : List Str := ["_law_bag_here", "_law_letters", "_law_most", "_law_k"]
theorem sc__law_path : FnScope ["_law_bag_here", "_law_letters", "_law_most", "_law_k"] ["_law_bag_here", "_law_letters", "_law_most"] (defScope s_lpath) := ⟨rfl, rfl, rfl, by decide +kernel, rfl, by decide +kernel, by decide +kernel⟩
abbrev s__law_words : Stmt := topS 19
abbrev N__law_words : List Str := ["_law_bag_here", "_law_many", "_law_letters", "_law_stem", "_law_k", "_law_spot", "_law_first", "_law_pace"]
theorem sc__law_words : FnScope ["_law_bag_here", "_law_many", "_law_letters", "_law_stem", "_law_k", "_law_spot", "_law_first", "_law_pace"] ["_law_bag_here", "_law_many"] (defScope s__law_words) := ⟨rfl, rfl, rfl, by decide +kernel, rfl, by decide +kernel, by decide +kernel⟩
section
variable {P : Program} {w : World} {K : PySem.W.Frag} {mg : Str → Option Value} {base : Heap} {tk1 tk2 : Tok}
theorem ok_lpath {f f1 f2 : Addr} {fd fd1 fd2 : FuncData} (F : Fun K "_law_path" "_law_path" s_lpath f fd) (T : Txt K mg tk1 tk2) (d_take : DefAt P w K mg base "_law_take" 1 f1 fd1 ["_law_bag_here", "_law_many"] spTake)
    (d_pick : DefAt P w K mg base "_law_pick" 2 f2 fd2 ["_law_bag_here", "_law_some"] (spPick K)) : FnOk P w K mg base CX0 3 f fd ["_law_bag_here", "_law_letters", "_law_most"] spLPath := by
  refine F.ok sc__law_path (fun vs H Q E h => ?_) (fun cdv A outer s H vs Q E hr h => ?_)
  · obtain ⟨b, l, L, m, rfl, _⟩ := h
    rfl
  refine ⟨_, (pss_one (ps_ret (pe_join pe_str (pe_lc (own := [("_law_k", 3)]) rfl sc__law_path.nd (pi_range1 (by rfl) T.n_range (pa_cons (pe_callD d_take (hr.mono (by decide)) (pa_cons (pv 0) (pa_cons (pe_op op_add (pv 2) pe_int) pa_nil))) pa_nil)) (blkOk_by (N := N__law_path) (sc := defScope s_lpath) (by decide +kernel)) (fun _ _ _ _ _ => pg_name (i := 3) sc__law_path.nd rfl (Or.inl rfl)) (fun _ _ _ _ _ => pts_nil) (fun _ _ _ _ _ => (pe_callD d_pick (hr.mono (by decide)) (pa_cons (pv 0) (pa_cons (pv 1) pa_nil)))))))), ?_⟩
  obtain ⟨b, l, L, m, rfl, hb, nlb, hl, hL1, hL2, hL, hm0, hm1, hq⟩ := h
  refine ⟨⟨_, rfl⟩, _, rfl, _, rfl, _, _, rfl, rfl, ?_⟩
  refine ⟨b, m + 1, rfl, hb, by omega, by omega, fun H1 r k1 b1 r0 r1 => ?_⟩
  refine ⟨r, rfl, by omega, by omega, fun D hD => ?_⟩
  refine lc_draw (lo := 0) (Good := fun y => ∃ s, y = .str s ∧ isNm s = true) b1 hD ?_ ?_ ?_
  · exact Nat.lt_of_lt_of_le (show r.toNat < 2000 by omega) (by decide)
  · intro i H2 R hi k2 b2 hR
    refine ⟨_, rfl, _, rfl, ?_⟩
    refine ⟨b, _, rfl, b2, Or.inl ⟨l, L.map V.str, rfl, nlb, SqL.of (k2 _ _ nlb (k1 _ _ nlb hl)), by rw [List.length_map]; exact hL1, by rw [List.length_map]; omega, fun H' v k b3 hv => ?_⟩⟩
    obtain ⟨s, hs, rfl⟩ := List.mem_map.mp hv
    exact hR _ H' k b3 ⟨s, rfl, hL s hs⟩
  · intro H2 acc k2 b2 hD2 hlen hg
    obtain ⟨ss, rfl, hs⟩ := all_str hg
    rw [List.length_map] at hlen
    have h1 := sum_le (ss := ss) (n := 8) fun s hm => (isNm_len (hs s hm)).2
    have h2 : c_sl.length = 1 := by decide +kernel
    refine ⟨_, D, ss, rfl, rfl, Or.inl (SqL.of hD2), ?_, hq H2 ss (k1.trans k2) b2 hs (by omega)⟩
    show (ss.map (·.length)).sum + ss.length * c_sl.length ≤ 16777216
    rw [h2]; omega
end
end K2

set_option Elab.async false
set_option linter.all false
set_option maxRecDepth 100000
set_option maxHeartbeats 4000000
namespace K2
open PySem PySem.Spec PyProof.Rows L2 LF
section
variable {P : Program} {w : World} {K : PySem.W.Frag} {mg : Str → Option Value} {base : Heap} {tk1 tk2 : Tok}
theorem ok_words {f f1 f2 : Addr} {fd fd1 fd2 : FuncData} (F : Fun K "_law_words" "_law_words" s__law_words f fd) (T : Txt K mg tk1 tk2) (d_take : DefAt P w K mg base "_law_take" 1 f1 fd1 ["_law_bag_here", "_law_many"] spTake)
    (d_pick : DefAt P w K mg base "_law_pick" 2 f2 fd2 ["_law_bag_here", "_law_some"] (spPick K)) : FnOk P w K mg base CX0 3 f fd ["_law_bag_here", "_law_many"] spWords := by
  refine F.ok sc__law_words (fun vs H Q E h => ?_) (fun cdv A outer s H vs Q E hr h => ?_)
  · obtain ⟨b, m, rfl, _⟩ := h
    rfl
  refine ⟨_, (pss_cons (ps_set (i := 2) sc__law_words.nd rfl (Or.inr rfl) pe_str)
    (pss_cons (ps_set (i := 3) sc__law_words.nd rfl (Or.inr rfl) (pe_join pe_str (pe_lc (own := [("_law_k", 4)]) rfl sc__law_words.nd (pi_range1 (by rfl) T.n_range (pa_cons (pe_callD d_pick (hr.mono (by decide)) (pa_cons (pv 0) (pa_cons (pe_lst (pa_cons pe_int (pa_cons pe_int (pa_cons pe_int (pa_cons pe_int (pa_cons pe_int pa_nil)))))) pa_nil))) pa_nil)) (blkOk_by (N := N__law_words) (sc := defScope s__law_words) (by decide +kernel)) (fun _ _ _ _ _ => pg_name (i := 4) sc__law_words.nd rfl (Or.inl rfl)) (fun _ _ _ _ _ => pts_nil) (fun _ _ _ _ _ => (pe_callD d_pick (hr.mono (by decide)) (pa_cons (pv 0) (pa_cons (pv 2) pa_nil)))))))
    (pss_cons (ps_asg (pe_tup (pa_cons (pe_callD d_take (hr.mono (by decide)) (pa_cons (pv 0) (pa_cons (pe_op op_add (pe_callB call_len_str (by rfl) T.n_len (by decide +kernel) (pa_cons (pv 3) pa_nil)) pe_int) pa_nil))) (pa_cons (pe_callD d_take (hr.mono (by decide)) (pa_cons (pv 0) (pa_cons pe_int pa_nil))) pa_nil))) (pg_tup (by rfl) (pgs_cons (pg_name (i := 5) sc__law_words.nd rfl (Or.inr rfl)) (pgs_cons (pg_name (i := 6) sc__law_words.nd rfl (Or.inr rfl)) pgs_nil))))
    (pss_cons (ps_set (i := 7) sc__law_words.nd rfl (Or.inr rfl) (pe_callD d_pick (hr.mono (by decide)) (pa_cons (pv 0) (pa_cons (pe_lst (pa_cons pe_int (pa_cons pe_int (pa_cons pe_int (pa_cons pe_int pa_nil))))) pa_nil))))
    (pss_one (ps_ret (pe_lc (own := [("_law_k", 4)]) rfl sc__law_words.nd (pi_range1 (by rfl) T.n_range (pa_cons (pv 1) pa_nil)) (blkOk_by (N := N__law_words) (sc := defScope s__law_words) (by decide +kernel)) (fun _ _ _ _ _ => pg_name (i := 4) sc__law_words.nd rfl (Or.inl rfl)) (fun _ _ _ _ _ => pts_nil) (fun _ _ _ _ _ => (pe_op op_add_str (pe_op op_add_str (pe_slice sl_str (pv 3) po_none (po_some (pv 5))) (pe_ix ix_str (pv 2) (pe_op op_mod (pe_op op_add (pv 6) (pe_op op_mul (pv 7) (pv 4))) pe_int) (fun _ _ => rfl))) (pe_slice sl_str (pv 3) (po_some (pv 5)) po_none)))))))))), ?_⟩
  obtain ⟨b, m, rfl, hb, hm0, hm1, hq⟩ := h
  -- the stem
  refine ⟨⟨_, rfl⟩, _, rfl, (by show 5 ≤ sizeLine; decide), fun p5 hp5 => ?_⟩
  refine ⟨b, _, rfl, hb.same (same_new hp5), Or.inl ⟨p5, _, rfl, hb.ne hp5, SqL.of upd_same, by decide, by decide, fun H1 v k1 b1 hv => ?_⟩⟩
  have hv' : ∃ i : Int, v = .int i ∧ 0 ≤ i ∧ i ≤ 7 := by
    simp only [List.mem_cons, List.not_mem_nil, or_false] at hv
    rcases hv with rfl | rfl | rfl | rfl | rfl <;> exact ⟨_, rfl, by decide, by decide⟩
  obtain ⟨i, rfl, hi0, hi7⟩ := hv'
  have K1 : Keep b H H1 := (Same.keep (same_new hp5)).trans k1
  refine ⟨i, rfl, by omega, by omega, fun D hD => ?_⟩
  refine lc_draw (lo := 0) (Good := fun y => ∃ s, y = .str s ∧ ∃ c, s = ⟨#[c]⟩ ∧ c ∈ letters.cps.toList) b1 hD ?_ ?_ ?_
  · exact Nat.lt_of_lt_of_le (show i.toNat < 10 by omega) (by decide)
  · intro j H2 R hj k2 b2 hR
    refine ⟨_, rfl, _, rfl, ?_⟩
    exact ⟨b, _, rfl, b2, Or.inr ⟨letters, rfl, by decide +kernel, by decide +kernel, fun H' c k b3 hc => hR _ H' k b3 ⟨_, rfl, c, rfl, hc⟩⟩⟩
  · intro H2 acc k2 b2 hD2 hlen hg
    obtain ⟨cs, rfl, hcs⟩ := all_str hg
    rw [List.length_map] at hlen
    obtain ⟨sl, slow⟩ := stem_of hcs
    have h1 := sum_le (ss := cs) (n := 1) fun s hm => by
      obtain ⟨c, rfl, _⟩ := hcs s hm
      exact Nat.le_refl 1
    refine ⟨_, D, cs, rfl, rfl, Or.inl (SqL.of hD2), ?_, ?_⟩
    · show (cs.map (·.length)).sum + cs.length * (("" : Str)).length ≤ 16777216
      have h2 : (("" : Str)).length = 0 := by decide +kernel
      rw [h2]; omega
    generalize hst : PySem.Txt.join "" cs = stem at sl slow
    have sl7 : stem.length ≤ 7 := by omega
    have slL : stem.length ≤ sizeLine := Nat.le_trans sl7 (by decide)
    -- spot, first
    refine ⟨_, rfl, _, rfl, stem, rfl, slL, _, _, rfl, rfl, ?_⟩
    refine ⟨b, _, rfl, b2, by omega, by omega, fun H3 spot k3 b3 sp0 sp1 => ?_⟩
    refine ⟨_, rfl, ?_⟩
    refine ⟨b, 26, rfl, b3, by omega, by omega, fun H4 first k4 b4 fi0 fi1 => ?_⟩
    refine ⟨(by show 2 ≤ sizeLine; decide), fun tp htp => ?_⟩
    refine ⟨tp, _, rfl, SqT.of upd_same, rfl, _, _, rfl, _, _, rfl, rfl, ?_⟩
    -- pace
    refine ⟨_, rfl, (by show 4 ≤ sizeLine; decide), fun p4 hp4 => ?_⟩
    have b5 : BagAt (upd (upd H4 tp (.tup [.int spot, .int first])) p4 (.lst [.int 1, .int 3, .int 7, .int 25])) b := (b4.same (same_new htp)).same (same_new hp4)
    refine ⟨b, _, rfl, b5, Or.inl ⟨p4, _, rfl, (b4.same (same_new htp)).ne hp4, SqL.of upd_same, by decide, by decide, fun H5 v5 k5 b6 hv5 => ?_⟩⟩
    have hv6 : ∃ i : Int, v5 = .int i ∧ 0 ≤ i ∧ i ≤ 25 := by
      simp only [List.mem_cons, List.not_mem_nil, or_false] at hv5
      rcases hv5 with rfl | rfl | rfl | rfl <;> exact ⟨_, rfl, by decide, by decide⟩
    obtain ⟨pace, rfl, pa0, pa1⟩ := hv6
    have K5 : Keep b H H5 := (((K1.trans k2).trans k3).trans k4).trans (((Same.keep (same_new htp)).trans (Same.keep (same_new hp4))).trans k5)
    refine ⟨_, rfl, m, rfl, by omega, by omega, fun D2 hD2' => ?_⟩
    refine lc_draw (lo := 0) (Good := fun y => ∃ s, y = .str s ∧ isNm s = true) b6 hD2' ?_ ?_ ?_
    · exact Nat.lt_of_lt_of_le (show m.toNat < 200 by omega) (by decide)
    · intro j H6 R hj k6 b7 hR
      have hspot : spot = ((spot.toNat : Nat) : Int) := by omega
      have hsn : spot.toNat ≤ stem.length := by omega
      have l1 := cut_to stem spot.toNat hsn
      have l2 := cut_from stem spot.toNat hsn
      rw [← hspot] at l1 l2
      have hidx0 := Int.emod_nonneg (first + pace * (0 + (j : Int))) (show (26 : Int) ≠ 0 by decide)
      have hidx1 := Int.emod_lt_of_pos (first + pace * (0 + (j : Int))) (show (0 : Int) < 26 by decide)
      have hll : letters.cps.toList.length = 26 := by decide +kernel
      have hix : (((first + pace * (0 + (j : Int))) % 26).toNat) < letters.cps.toList.length := by omega
      have hat := atI_nat (xs := letters.cps.toList) (j := ((first + pace * (0 + (j : Int))) % 26).toNat) (List.getElem?_eq_getElem hix)
      have hcast : ((((first + pace * (0 + (j : Int))) % 26).toNat : Nat) : Int) = (first + pace * (0 + (j : Int))) % 26 := by omega
      rw [hcast] at hat
      have hcm := List.getElem_mem hix
      refine ⟨_, rfl, _, rfl, spot, rfl, stem, rfl, slL, ?_⟩
      refine ⟨_, rfl, _, rfl, _, rfl, _, rfl, _, _, rfl, rfl, Or.inl ⟨by show -(2 ^ 64 : Int) < pace; omega, by show pace < (2 ^ 64 : Int); omega⟩, _, _, rfl, rfl, _, _, rfl, rfl, (by show (0 : Int) < 26; decide), ?_⟩
      refine ⟨letters, _, _, rfl, rfl, by decide +kernel, hat, ?_⟩
      have lc : ((⟨#[letters.cps.toList[((first + pace * (0 + (j : Int))) % 26).toNat]'hix]⟩ : Str)).length = 1 := rfl
      have s1 := len_app (cutS stem none (some spot)) ⟨#[letters.cps.toList[((first + pace * (0 + (j : Int))) % 26).toNat]'hix]⟩
      have s2 := len_app (cutS stem none (some spot) ++ ⟨#[letters.cps.toList[((first + pace * (0 + (j : Int))) % 26).toNat]'hix]⟩) (cutS stem (some spot) none)
      refine ⟨_, _, rfl, rfl, ?_, ?_⟩
      · exact Nat.le_trans (by omega : _ ≤ 100) (by decide)
      refine ⟨_, rfl, _, rfl, spot, rfl, stem, rfl, slL, ?_⟩
      refine ⟨_, _, rfl, rfl, ?_, ?_⟩
      · exact Nat.le_trans (by omega : _ ≤ 100) (by decide)
      refine hR _ H6 (Keep.refl b H6) b7 ⟨_, rfl, isNm_iff.mpr ⟨by omega, ?_⟩⟩
      refine low_app (low_app (low_sub slow (cut_mem _ _ _)) ?_) (low_sub slow (cut_mem _ _ _))
      intro c hc
      have hc' : c ∈ [letters.cps.toList[((first + pace * (0 + (j : Int))) % 26).toNat]'hix] := hc
      rw [List.mem_singleton.mp hc']
      exact hcm
    · intro H6 acc2 k6 b7 hD3 hlen2 hg2
      obtain ⟨ws, rfl, hws⟩ := all_str hg2
      rw [List.length_map] at hlen2
      refine hq H6 D2 ws (K5.trans k6) b7 ?_ hD3 (by omega) hws
      exact K5.free (b6.ne hD2') hD2'
end
end K2

set_option Elab.async false
set_option linter.all false
set_option maxRecDepth 100000
set_option maxHeartbeats 4000000
namespace LF
open PySem PySem.Spec PyProof.Rows L2 K2
/-- < of alike data -/
def rLtD (K : PySem.W.Frag) : R2 := fun x y H Q => ∃ d e, Dp K H x d ∧ Dp K H y e ∧ PySem.W.alike d e = true ∧ d ≠ .none ∧ d.depth ≤ 60 ∧ Q (.bl (PySem.W.dataLt d e)) H
theorem op_ltD {X : Cx} (hu : X.A.units + 64 < cLine) : OpR X (compareOp .Lt) (rLtD X.K) := by
  intro pins s σ H x y v u Q I rx ry h
  obtain ⟨d, e, hd, he, ha, hn, hp, q⟩ := h
  obtain ⟨as, r1⟩ := Dp.reads I d x v hd rx
  obtain ⟨bs, r2⟩ := Dp.reads I e y u he ry
  have hm : min d.depth e.depth ≤ d.depth := Nat.min_le_left _ _
  exact PySem.W.lt_data r1 r2 ha hn (by omega) ⟨.bl _, H, I, rfl, q⟩
def bits (z : Str) : List Str := (PySem.Txt.split z c_sl).filter fun s => !decide (s = "")
theorem bits_join {ns : List Str} (h : ∀ n ∈ ns, isNm n = true) : bits (PySem.Txt.join c_sl ns) = ns := by
  unfold bits
  by_cases hne : ns = []
  · subst hne
    rw [join_nil0]
    decide +kernel
  · rw [split_names hne h, List.filter_eq_self]
    intro a ha
    have h1 := (isNm_len (h a ha)).1
    have : a ≠ "" := fun e => by rw [e] at h1; exact absurd h1 (by decide +kernel)
    simp [this]
theorem dp_strs {K : PySem.W.Frag} {H : Hp} : ∀ l : List Str, DpAll K H (l.map V.str) (l.map .str)
  | [] => .nil
  | a :: l => .cons (.str a) (dp_strs l)
theorem eqv_strs : ∀ xs ys : List Str, PyData.eqvAll (xs.map .str) (ys.map .str) = decide (xs = ys)
  | [], [] => by simp [PyData.eqvAll]
  | [], _ :: _ => by simp [PyData.eqvAll]
  | _ :: _, [] => by simp [PyData.eqvAll]
  | x :: xs, y :: ys => by
    show PyData.eqvAll (.str x :: xs.map .str) (.str y :: ys.map .str) = _
    rw [PyData.eqvAll, eqv_strs xs ys]
    show ((x == y) && decide (xs = ys)) = _
    by_cases h1 : x = y <;> by_cases h2 : xs = ys <;> simp [h1, h2]
/-- the order of two paths -/
theorem before_key (x y : Str) : PySem.W.dataLt (keyD x) (keyD y) =
    if (parts x).length = (parts y).length then PySem.W.dataLt (.list ((parts x).map .str)) (.list ((parts y).map .str)) else decide ((parts x).length < (parts y).length) := by
  unfold keyD
  rw [PySem.W.dataLt_pair (by simp [PySem.W.alike]) (by simp only [PySem.W.alike]; exact alike_strs _ _), PySem.W.dataLt_int]
  have e1 : PyData.eqv (.int (parts x).length) (.int (parts y).length) = decide ((parts x).length = (parts y).length) := by
    show (((parts x).length : Int) == ((parts y).length : Int)) = _
    by_cases h : (parts x).length = (parts y).length
    · simp [h]
    · have h' : ¬ ((parts x).length : Int) = ((parts y).length : Int) := by omega
      simp [h, h']
  have e2 : PyData.eqv (.list ((parts x).map .str)) (.list ((parts y).map .str)) = decide (parts x = parts y) := by
    rw [PyData.eqv]; exact eqv_strs _ _
  rw [e1, e2]
  by_cases h : (parts x).length = (parts y).length
  · rw [if_pos (decide_eq_true h), if_pos h]
    by_cases h2 : parts x = parts y
    · rw [if_pos (decide_eq_true h2), h2, PySem.W.dataLt_list]; exact (PyProof.Rows.lex_irrefl _).symm
    · rw [if_neg (by rw [decide_eq_false h2]; exact Bool.false_ne_true)]
  · rw [if_neg (by rw [decide_eq_false h]; exact Bool.false_ne_true), if_neg h]
    by_cases h2 : (parts x).length < (parts y).length
    · rw [decide_eq_true h2]; exact decide_eq_true (by omega)
    · rw [decide_eq_false h2]; exact decide_eq_false (by omega)
end LF
namespace K2
open PySem PySem.Spec PyProof.Rows L2 LF
def spBefore : Sp := fun vs H Q _ => ∃ x y : Str, vs = [.str x, .str y] ∧ x.length ≤ 1000000 ∧ y.length ≤ 1000000 ∧ bits x = parts x ∧ bits y = parts y ∧
  ∀ H', Same H H' → Q (.bl (PySem.W.dataLt (keyD x) (keyD y))) H'
abbrev s__law_before : Stmt := topS 24
abbrev N__law_before : List Str := ["_law_one", "_law_other", "_law_mine", "_law_part", "_law_yours"]
theorem sc__law_before : FnScope ["_law_one", "_law_other", "_law_mine", "_law_part", "_law_yours"] ["_law_one", "_law_other"] (defScope s__law_before) := ⟨rfl, rfl, rfl, by decide +kernel, rfl, by decide +kernel, by decide +kernel⟩
theorem filt_bits (z : Str) : (((PySem.Txt.split z c_sl).map V.str).filter fun v => !decide (v = V.str "")).map (fun v => v) = (bits z).map V.str := by
  unfold bits
  rw [List.map_id', List.filter_map]
  congr 1
  congr 1
  funext s
  show (!decide (V.str s = V.str "")) = _
  rw [str_dec]
theorem bits_len (z : Str) (hz : z.length ≤ 1000000) : ((PySem.Txt.split z c_sl).map V.str).length < sizeLine := by
  rw [List.length_map]
  have := split_le z c_sl
  have := sizeLine_big
  omega
section
variable {P : Program} {w : World} {K : PySem.W.Frag} {mg : Str → Option Value} {base : Heap} {tk1 tk2 : Tok}
theorem ok_before {f : Addr} {fd : FuncData} (F : Fun K "_law_before" "_law_before" s__law_before f fd) (T : Txt K mg tk1 tk2) : FnOk P w K mg base CX0 2 f fd ["_law_one", "_law_other"] spBefore := by
  refine F.ok sc__law_before (fun vs H Q E h => ?_) (fun cdv A outer s H vs Q E hr h => ?_)
  · obtain ⟨x, y, rfl, _⟩ := h
    rfl
  have hu := hr.units
  refine ⟨_, (pss_cons (ps_setLc (i := 2) (own := [("_law_part", 3)]) rfl sc__law_before.nd rfl rfl (sw_true rfl rfl rfl (by decide +kernel)) (pi_list (pe_split (pv 0) pe_str)) (blkOk_by (N := N__law_before) (sc := defScope s__law_before) (by decide +kernel)) (fun _ _ _ _ _ => pg_name (i := 3) sc__law_before.nd rfl (Or.inl rfl)) (fun _ _ _ _ _ => (pts_one (pt_cmpR op_ne (pv 3) pe_str (nomark _)))) (fun _ _ _ _ _ => (pv 3)))
    (pss_cons (ps_setLc (i := 4) (own := [("_law_part", 3)]) rfl sc__law_before.nd rfl rfl (sw_true rfl rfl rfl (by decide +kernel)) (pi_list (pe_split (pv 1) pe_str)) (blkOk_by (N := N__law_before) (sc := defScope s__law_before) (by decide +kernel)) (fun _ _ _ _ _ => pg_name (i := 3) sc__law_before.nd rfl (Or.inl rfl)) (fun _ _ _ _ _ => (pts_one (pt_cmpR op_ne (pv 3) pe_str (nomark _)))) (fun _ _ _ _ _ => (pv 3)))
    (pss_one (ps_ret (pe_ifExp (pt_cmpR op_eq (pe_callB call_len_seq (by rfl) T.n_len (by decide +kernel) (pa_cons (pv 2) pa_nil)) (pe_callB call_len_seq (by rfl) T.n_len (by decide +kernel) (pa_cons (pv 4) pa_nil)) (nomark _)) (pe_cmpR (op_ltD hu) (pv 2) (pv 4) (nomark _)) (pe_cmpR op_lt (pe_callB call_len_seq (by rfl) T.n_len (by decide +kernel) (pa_cons (pv 2) pa_nil)) (pe_callB call_len_seq (by rfl) T.n_len (by decide +kernel) (pa_cons (pv 4) pa_nil)) (nomark _))))))), ?_⟩
  obtain ⟨x, y, rfl, hx, hy, bx, byy, hq⟩ := h
  have hbig := sizeLine_big
  refine ⟨_, rfl, ⟨_, rfl⟩, x, c_sl, rfl, rfl, sl_ne, by omega, fun p hp => ⟨p, rfl, ⟨_, SqL.of upd_same⟩, fun D hD => ?_⟩⟩
  refine lc_filt (xs := (PySem.Txt.split x c_sl).map V.str) (fun v => !decide (v = V.str "")) (fun v => v) hD (SqL.of upd_same) (bits_len x hx) ?_ ?_ ?_
  · intro v H1 R hv sm hR
    obtain ⟨z, _, rfl⟩ := List.mem_map.mp hv
    exact ⟨_, rfl, rfl, _, rfl, hR H1 (Same.refl H1)⟩
  · intro v H1 R hv _ sm hR
    exact ⟨_, rfl, hR H1 (Same.refl H1)⟩
  intro H1 s1 hD1
  rw [filt_bits] at hD1
  refine ⟨_, rfl, ⟨_, rfl⟩, y, c_sl, rfl, rfl, sl_ne, by omega, fun p2 hp2 => ⟨p2, rfl, ⟨_, SqL.of upd_same⟩, fun D2 hD2 => ?_⟩⟩
  refine lc_filt (xs := (PySem.Txt.split y c_sl).map V.str) (fun v => !decide (v = V.str "")) (fun v => v) hD2 (SqL.of upd_same) (bits_len y hy) ?_ ?_ ?_
  · intro v H1 R hv sm hR
    obtain ⟨z, _, rfl⟩ := List.mem_map.mp hv
    exact ⟨_, rfl, rfl, _, rfl, hR H1 (Same.refl H1)⟩
  · intro v H1 R hv _ sm hR
    exact ⟨_, rfl, hR H1 (Same.refl H1)⟩
  intro H2 s2 hD3
  rw [filt_bits] at hD3
  have S2 : Same H1 H2 := (same_new hp2).trans s2
  have S : Same H H2 := ((same_new hp).trans s1).trans S2
  have hD4 := S2 _ _ hD1
  rw [bx] at hD4
  rw [byy] at hD3
  refine ⟨_, rfl, D, _, rfl, Or.inl (SqL.of hD4), _, rfl, D2, _, rfl, Or.inl (SqL.of hD3), rfl, _, rfl, ?_⟩
  have hfin := hq H2 S
  rw [before_key] at hfin
  have hl : ∀ a b : Nat, decide (V.int (a : Nat) = V.int (b : Nat)) = decide (a = b) := fun a b => by
    by_cases h : a = b
    · subst h; simp
    · rw [decide_eq_false h, decide_eq_false (fun e => h (by have := V.int.inj e; omega))]
  rw [List.length_map, List.length_map, hl]
  refine ifD (fun h1 => ?_) (fun h1 => ?_)
  · rw [if_pos h1] at hfin
    exact ⟨_, rfl, _, rfl, _, _, .lst (SqL.of hD4) (dp_strs _), .lst (SqL.of hD3) (dp_strs _), by rw [PySem.W.alike]; exact alike_strs _ _, fun z => (nomatch z), by simp [PyData.depth, depth_strs], hfin⟩
  · rw [if_neg h1] at hfin
    refine ⟨_, rfl, D, _, rfl, Or.inl (SqL.of hD4), _, rfl, D2, _, rfl, Or.inl (SqL.of hD3), _, _, rfl, rfl, ?_⟩
    rw [List.length_map, List.length_map]
    have e : decide (((parts x).length : Int) < ((parts y).length : Int)) = decide ((parts x).length < (parts y).length) := by
      by_cases h : (parts x).length < (parts y).length
      · rw [decide_eq_true h]; exact decide_eq_true (by omega)
      · rw [decide_eq_false h]; exact decide_eq_false (by omega)
    show Q (.bl (decide (((parts x).length : Int) < ((parts y).length : Int)))) H2
    rw [e]
    exact hfin
end
end K2

set_option Elab.async false
set_option linter.all false
set_option maxRecDepth 100000
set_option maxHeartbeats 4000000
namespace LF
open PySem PySem.Spec PyProof.Rows L2 K2
abbrev leS (a b : Str) : Prop := a.cps.toList ≤ b.cps.toList
theorem not_ltCps {a b : Str} (h : (!ltCps b.cps.toList a.cps.toList) = true) : leS a b := by
  rw [ltCps_eq, Bool.not_eq_true', decide_eq_false_iff_not] at h
  exact List.not_lt.mp h
theorem rising_pw : ∀ (l : List Str) (p : Str), risingS p l = true → (∀ x ∈ l, leS p x) ∧ l.Pairwise leS
  | [], _, _ => ⟨fun _ h => (nomatch h), .nil⟩
  | x :: r, p, h => by
    have h' : (!ltCps x.cps.toList p.cps.toList && risingS x r) = true := h
    rw [Bool.and_eq_true] at h'
    have h1 := not_ltCps h'.1
    obtain ⟨h2, h3⟩ := rising_pw r x h'.2
    refine ⟨fun y hy => ?_, .cons h2 h3⟩
    rcases List.mem_cons.mp hy with rfl | hy
    · exact h1
    · exact List.le_trans h1 (h2 y hy)
theorem sorted_pw {l : List Str} (h : sortedS l = true) : l.Pairwise leS := by
  cases l with
  | nil => exact .nil
  | cons x r =>
    obtain ⟨h1, h2⟩ := rising_pw r x h
    exact .cons h1 h2
theorem sorted_one {l m : List Str} (hl : sortedS l = true) (hm : sortedS m = true) (hp : l.Perm m) : l = m :=
  List.Perm.eq_of_pairwise (le := leS) (fun a b _ _ h1 h2 => str_of_cps' (List.le_antisymm h1 h2)) (sorted_pw hl) (sorted_pw hm) hp
where str_of_cps' {x y : Str} (h : x.cps.toList = y.cps.toList) : x = y := PySem.W.str_of_cps h
theorem strOk_low {z : Str} (h : low z) : PyData.strOk z = true := by
  unfold PyData.strOk
  rw [Array.all_eq_true']
  intro c hc
  have h1 := h c (Array.mem_toList_iff.mpr hc)
  have h2 : ∀ d ∈ letters.cps.toList, d < 0x110000 := by decide +kernel
  exact decide_eq_true (h2 c h1)
theorem strOk_join {ns : List Str} (h : ∀ n ∈ ns, isNm n = true) : PyData.strOk (PySem.Txt.join c_sl ns) = true := by
  unfold PyData.strOk
  rw [Array.all_eq_true']
  intro c hc
  have h1 : c ∈ TL.tl (PySem.Txt.join c_sl ns) := Array.mem_toList_iff.mpr hc
  have h2 : ∀ d ∈ letters.cps.toList, d < 0x110000 := by decide +kernel
  rw [TL.join_eq, TL.tl_join, tl_sl] at h1
  refine decide_eq_true ?_
  clear hc
  induction ns with
  | nil => exact nomatch h1
  | cons a l ih =>
    have ha : c ∈ TL.tl a → c < 0x110000 := fun q => h2 c ((isNm_iff.mp (h a List.mem_cons_self)).2 c q)
    cases l with
    | nil => exact ha h1
    | cons b l =>
      have h3 : c ∈ TL.tl a ++ ([47] ++ TL.joinL [47] ((b :: l).map TL.tl)) := h1
      rcases List.mem_append.mp h3 with q | q
      · exact ha q
      · rcases List.mem_append.mp q with q | q
        · rw [List.mem_singleton.mp q]; decide
        · exact ih (fun n hn => h n (List.mem_cons_of_mem _ hn)) q
theorem canLay_strs : ∀ {l : List Str}, (∀ s ∈ l, PyData.strOk s = true) → PyData.canLayAll0 (l.map .str) = true
  | [], _ => by simp [PyData.canLayAll0]
  | a :: l, h => by
    show PyData.canLayAll0 (.str a :: l.map .str) = true
    rw [PyData.canLayAll0, canLay_strs fun s hs => h s (List.mem_cons_of_mem _ hs), PyData.canLay0, h a List.mem_cons_self]
    rfl
theorem shaped_strs {l : List Str} (h : ∀ s ∈ l, PyData.strOk s = true) : SeqAt.shaped (.list (l.map .str)) = true := by
  unfold SeqAt.shaped
  rw [PyData.canLay0, canLay_strs h, Bool.true_and]
  exact decide_eq_true (by rw [PyData.depth, depth_strs]; decide)
theorem eqv_list_strs (xs ys : List Str) : PyData.eqv (.list (xs.map .str)) (.list (ys.map .str)) = decide (xs = ys) := by
  rw [PyData.eqv]; exact eqv_strs _ _
/-- f(k = v, ..) -/
theorem pe_callK0 {X : Cx} {k : Nat} {f : Addr} {fd : FuncData} {ps ks : List Str} {sp : Sp} {x : Str} {p pos : Pos} {kws : List Keyword} {tk : TA} {g : List Value → List Value → List Value} {gV : List V → List V → List V}
    (F : FnOk X.prog X.w X.K X.mg X.base CX0 k f fd ps sp) (hr : Room k X.A) (hm : X.mg x = some (.ref f)) (hk : PySem.W.keepIn X.K (.ref f) = true) (hb : KBinds X.K fd ps ks g gV)
    (hkw : PK X kws tk) (hg : Gl X x := by rfl) (hall : (backToKw pos (keywordEach kws X.env)).all (·.1.isSome) = true := by rfl) (hks : (backToKw pos (keywordEach kws X.env)).filterMap (·.1) = ks := by rfl)
    (hdb : (x == ("__debug__" : Str)) = false := by decide)
    (hpl : ((backTo pos (starEach [] X.env)).any (·.1) || (backToKw pos (keywordEach kws X.env)).any (·.1.isNone)) = false := by rfl) :
    PE X (.Call (.Name x p) [] kws pos) (fun σ H Q => tk σ H fun zs H2 => sp (gV [] zs) H2 Q E0) := by
  constructor
  intro pins s σ H Q I h
  refine wpAny_Call_Name_kw (ld_glob I hg hm ?_ hdb)
  refine PySem.W.callWith_KW0 (h₀ := X.base) I.ok.mod.kin hk hall ?_ hpl
  refine thn (hkw.run pos pins s σ H _ I h) ?_
  rintro ws s2 ⟨zs, H2, I2, rz, q2⟩
  refine ⟨I2.kIn, ?_⟩
  rw [hks]
  exact run_fnk F hr hb pass0 I2 .nil rz q2
end LF
namespace K2
open PySem PySem.Spec PyProof.Rows L2 LF
theorem kb_in_order {K : PySem.W.Frag} {f : Addr} {fd : FuncData} (F : Fun K "in_order" "in_order" s_in_order f fd) : KBinds K fd ["paths"] ["paths"] (fun us ws => us ++ ws) (fun vs zs => vs ++ zs) := by
  obtain ⟨oc, od, kV, doc, pm, an, cdv, ct, osl, rfl, lk, hcd⟩ := F.ex
  refine ⟨?_, fun r rz => r.append rz⟩
  intro s us ws _ hl
  match us, ws, hl with
  | [u], [], _ => exact .of_eq rfl
  | [], [v], _ => exact .of_eq rfl
theorem cut_last (ss : List Str) (z : Str) : cutV (ss.map V.str ++ [.str z]) none (some (-1)) = ss.map V.str := by
  unfold cutV
  rw [HT.sIx_none]
  have e : HT.sIx (ss.map V.str ++ [V.str z]).length (ss.map V.str ++ [V.str z]).length (some (-1)) = ss.length := by
    unfold HT.sIx
    rw [List.length_append, List.length_map, List.length_singleton]
    show (if (-1 : Int) < 0 then ((-1 : Int) + ((ss.length + 1 : Nat) : Int)).toNat else _) = _
    rw [if_pos (by decide)]
    omega
  rw [e, List.drop_zero, Nat.sub_zero, List.take_append_of_le_length (by rw [List.length_map]; exact Nat.le_refl _), List.take_of_length_le (by rw [List.length_map]; exact Nat.le_refl _)]
end K2

set_option Elab.async false
set_option linter.all false
set_option maxRecDepth 100000
set_option maxHeartbeats 4000000
namespace K2
open PySem PySem.Spec PyProof.Rows L2 LF
/-- a check of the law: it says True -/
def spRight : Sp := fun vs H Q _ => ∃ (b l : Addr) (L : List Str), vs = [.ref b, .ref l] ∧ BagAt H b ∧ l ≠ b ∧ H l = some (.lst (L.map V.str)) ∧ 1 ≤ L.length ∧ L.length ≤ 1000 ∧
  (∀ s ∈ L, isNm s = true) ∧ ∀ H', Keep b H H' → BagAt H' b → Q (.bl true) H'
abbrev s__law_order_right : Stmt := topS 25
abbrev N__law_order_right : List Str := ["_law_bag_here", "_law_letters", "_law_some", "_law_k", "_law_kept", "_law_told"]
theorem sc__law_order_right : FnScope ["_law_bag_here", "_law_letters", "_law_some", "_law_k", "_law_kept", "_law_told"] ["_law_bag_here", "_law_letters"] (defScope s__law_order_right) := ⟨rfl, rfl, rfl, by decide +kernel, rfl, by decide +kernel, by decide +kernel⟩
def ofNames (z : Str) : Prop := ∃ ns : List Str, (∀ n ∈ ns, isNm n = true) ∧ ns.length ≤ 1000 ∧ z = PySem.Txt.join c_sl ns
theorem ofNames.len {z : Str} (h : ofNames z) : z.length ≤ 1000000 := by
  obtain ⟨ns, h1, h2, rfl⟩ := h
  have := join_len_le h1
  omega
theorem ofNames.bits {z : Str} (h : ofNames z) : bits z = parts z := by
  obtain ⟨ns, h1, h2, rfl⟩ := h
  rw [bits_join h1, parts_join h1]
theorem ofNames.ok {z : Str} (h : ofNames z) : PyData.strOk z = true := by
  obtain ⟨ns, h1, h2, rfl⟩ := h
  exact strOk_join h1
section
variable {P : Program} {w : World} {K : PySem.W.Frag} {mg : Str → Option Value} {base : Heap} {tk1 tk2 : Tok}
theorem ok_order_right {f f1 f2 f3 f4 : Addr} {fd fd1 fd2 fd3 fd4 : FuncData} (F : Fun K "_law_order_right" "_law_order_right" s__law_order_right f fd) (T : Txt K mg tk1 tk2)
    (d_take : DefAt P w K mg base "_law_take" 1 f1 fd1 ["_law_bag_here", "_law_many"] spTake)
    (d_lpath : DefAt P w K mg base "_law_path" 3 f2 fd2 ["_law_bag_here", "_law_letters", "_law_most"] spLPath)
    (d_in_order : DefAt P w K mg base "in_order" 5 f3 fd3 ["paths"] (spOrder K)) (Fio : Fun K "in_order" "in_order" s_in_order f3 fd3)
    (d_before : DefAt P w K mg base "_law_before" 2 f4 fd4 ["_law_one", "_law_other"] spBefore) : FnOk P w K mg base CX0 6 f fd ["_law_bag_here", "_law_letters"] spRight := by
  refine F.ok sc__law_order_right (fun vs H Q E h => ?_) (fun cdv A outer s H vs Q E hr h => ?_)
  · obtain ⟨b, l, L, rfl, _⟩ := h
    rfl
  have hu := hr.units
  refine ⟨_, (pss_cons (ps_setLc (i := 2) (own := [("_law_k", 3)]) rfl sc__law_order_right.nd rfl rfl (sw_true rfl rfl rfl (by decide +kernel)) (pi_range1 (by rfl) T.n_range (pa_cons (pe_callD d_take (hr.mono (by decide)) (pa_cons (pv 0) (pa_cons pe_int pa_nil))) pa_nil)) (blkOk_by (N := N__law_order_right) (sc := defScope s__law_order_right) (by decide +kernel)) (fun _ _ _ _ _ => pg_name (i := 3) sc__law_order_right.nd rfl (Or.inl rfl)) (fun _ _ _ _ _ => pts_nil) (fun _ _ _ _ _ => (pe_callD d_lpath (hr.mono (by decide)) (pa_cons (pv 0) (pa_cons (pv 1) (pa_cons pe_int pa_nil))))))
    (pss_cons (ps_par (i := 4) (j := 5) (by rfl) sc__law_order_right.nd rfl rfl (by decide) rfl rfl (pa_cons (pe_callTy call_list_of (by rfl) T.n_list (by decide +kernel) (pa_cons (pv 2) pa_nil)) (pa_cons (pe_callD d_in_order (hr.mono (by decide)) (pa_cons (pv 2) pa_nil)) pa_nil)) (by rfl))
    (pss_cons (ps_if (PW.pt (pw_or (pt_cmpR (op_neD hu) (pv 2) (pv 4) (nomark _)) (pw_or (pt_cmpR op_ne (pe_callB call_len_seq (by rfl) T.n_len (by decide +kernel) (pa_cons (pv 5) pa_nil)) (pe_callB call_len_seq (by rfl) T.n_len (by decide +kernel) (pa_cons (pv 2) pa_nil)) (nomark _)) (pw_or1 (pt_cmpR (op_neD hu) (pe_callB cr_sortedS (by rfl) T.n_sorted (by decide +kernel) (pa_cons (pv 5) pa_nil)) (pe_callB cr_sortedS (by rfl) T.n_sorted (by decide +kernel) (pa_cons (pv 2) pa_nil)) (nomark _)))))) (pss_one (ps_ret pe_bl)) pss_nil)
    (pss_cons (ps_for PassesOwn.never rfl (pi_range1 (by rfl) T.n_range (pa_cons (pe_op op_sub (pe_callB call_len_seq (by rfl) T.n_len (by decide +kernel) (pa_cons (pv 5) pa_nil)) pe_int) pa_nil)) (pg_name (i := 3) sc__law_order_right.nd rfl (Or.inl rfl)) (pss_one (ps_if (pt_val (pe_callD d_before (hr.mono (by decide)) (pa_cons (pe_ix ix_list (pv 5) (pe_op op_add (pv 3) pe_int) (fun _ _ => rfl)) (pa_cons (pe_ix ix_list (pv 5) (pv 3) (fun _ _ => rfl)) pa_nil)))) (pss_one (ps_ret pe_bl)) pss_nil)))
    (pss_cons (ps_expr (pe_bm PySem.F.plainAttrs_list PySem.F.slot_list_append PySem.F.type_list_append mt_append (pv 5) (pa_cons pe_str pa_nil)))
    (pss_one (ps_ret (pe_cmpR (op_eqD hu) (pe_callK0 d_in_order.F (hr.mono (by decide)) d_in_order.g d_in_order.kp (kb_in_order Fio) (pk_cons (pv 2) pk_nil)) (pe_slice sl_list (pv 5) po_none (po_some (pe_un un_neg pe_int))) (nomark _))))))))), ?_⟩
  obtain ⟨b, l, L, rfl, hb, nlb, hl, hL1, hL2, hL, hq⟩ := h
  refine ⟨_, rfl, b, 10, rfl, hb, by omega, by omega, fun H1 r k1 b1 r0 r1 => ?_⟩
  refine ⟨r, rfl, by omega, by omega, fun D hD => ?_⟩
  refine lc_draw (lo := 0) (Good := fun y => ∃ s, y = .str s ∧ ofNames s) b1 hD ?_ ?_ ?_
  · exact Nat.lt_of_lt_of_le (show r.toNat < 200 by omega) (by decide)
  · intro j H2 R hj k2 b2 hR
    refine ⟨_, rfl, _, rfl, ?_⟩
    exact ⟨b, l, L, 6, rfl, b2, nlb, k2 _ _ nlb (k1 _ _ nlb hl), hL1, hL2, hL, by omega, by omega, fun H' ns k b3 hns hl6 => hR _ H' k b3 ⟨_, rfl, ns, hns, by omega, rfl⟩⟩
  intro H2 acc k2 b2 hD2 hlen hg
  obtain ⟨ss, rfl, hs⟩ := all_str hg
  rw [List.length_map] at hlen
  have hss10 : ss.length < 10 := by omega
  have K2' : Keep b H H2 := k1.trans k2
  have nDb := b1.ne hD
  -- kept, told
  refine ⟨_, rfl, D, _, rfl, Or.inl (SqL.of hD2), fun pk hpk => ?_⟩
  refine ⟨_, rfl, D, ss, rfl, SqL.of (same_new hpk _ _ hD2), fun x hx => (hs x hx).len, fun H3 pt s3 npt hpt => ?_⟩
  refine ⟨_, _, rfl, ?_⟩
  have S3 : Same H2 H3 := (same_new hpk).trans s3
  have hD3 := S3 _ _ hD2
  have hk3 : H3 pk = some (.lst (ss.map V.str)) := s3 _ _ upd_same
  generalize htd : ss.mergeSort (PySem.W.dataLe false keyD) = told at hpt
  have hperm : told.Perm ss := by rw [← htd]; exact List.mergeSort_perm _ _
  have hmem : ∀ x ∈ told, ofNames x := fun x hx => hs x (hperm.mem_iff.mp hx)
  have hpw : told.Pairwise (fun a c => PySem.W.dataLe false keyD a c = true) := by
    rw [← htd]; exact PySem.W.sort_pairwise (PySem.W.sortLe_total _ _ _) ss
  have hok : ∀ x ∈ ss, PyData.strOk x = true := fun x hx => (hs x hx).ok
  have hok2 : ∀ x ∈ told, PyData.strOk x = true := fun x hx => (hmem x hx).ok
  -- the tests
  refine ⟨_, rfl, _, rfl, _, _, .lst (SqL.of hD3) (dp_strs ss), .lst (SqL.of hk3) (dp_strs ss), shaped_strs hok, shaped_strs hok, _, rfl, ?_⟩
  rw [eqv_list_strs, decide_eq_true rfl]
  refine iteF ?_
  refine ⟨_, rfl, pt, _, rfl, Or.inl (SqL.of hpt), _, rfl, D, _, rfl, Or.inl (SqL.of hD3), rfl, _, rfl, ?_⟩
  rw [List.length_map, List.length_map, hperm.length_eq, decide_eq_true rfl]
  refine iteF ?_
  refine ⟨_, rfl, pt, told, rfl, SqL.of hpt, by rw [hperm.length_eq]; omega, fun y1 q1 p1 o1 n1 => ?_⟩
  refine ⟨_, rfl, D, ss, rfl, SqL.of ((same_new n1) _ _ hD3), by omega, fun y2 q2 p2 o2 n2 => ?_⟩
  have hy : y1 = y2 := sorted_one o1 o2 (p1.trans (hperm.trans p2.symm))
  subst hy
  have hoky : ∀ x ∈ y1, PyData.strOk x = true := fun x hx => hok2 x (p1.mem_iff.mp hx)
  refine ⟨_, _, .lst (SqL.of ((same_new n2) _ _ upd_same)) (dp_strs y1), .lst (SqL.of upd_same) (dp_strs y1), shaped_strs hoky, shaped_strs hoky, _, rfl, ?_⟩
  rw [eqv_list_strs, decide_eq_true rfl]
  refine iteF ?_
  have S4 : Same H3 (upd (upd H3 q1 (.lst (y1.map V.str))) q2 (.lst (y1.map V.str))) := (same_new n1).trans (same_new n2)
  generalize (upd (upd H3 q1 (.lst (y1.map V.str))) q2 (.lst (y1.map V.str))) = H4 at S4
  -- the pairs beside one another
  refine ⟨_, rfl, pt, _, rfl, Or.inl (SqL.of (S4 _ _ hpt)), _, _, rfl, rfl, ?_⟩
  rw [List.length_map, hperm.length_eq]
  refine ⟨_, rfl, by omega, by omega, for_range (lo := 0) (fun i σ H' => ∃ v, σ = [some (.ref b), some (.ref l), some (.ref D), v, some (.ref pk), some (.ref pt)] ∧ Same H4 H') ⟨_, rfl, Same.refl H4⟩ ?_ ?_⟩
  · rintro i σ H5 hi ⟨v, rfl, s5⟩
    have hi1 : i + 1 < told.length := by rw [hperm.length_eq]; omega
    have hpt5 := s5 _ _ (S4 _ _ hpt)
    have a1 := atI_nat (xs := told.map V.str) (j := i + 1) (v := .str told[i + 1]) (by rw [List.getElem?_map, List.getElem?_eq_getElem hi1]; rfl)
    have a0 := atI_nat (xs := told.map V.str) (j := i) (v := .str told[i]) (by rw [List.getElem?_map, List.getElem?_eq_getElem (by omega)]; rfl)
    have e1 : (0 : Int) + (i : Int) + 1 = ((i + 1 : Nat) : Int) := by omega
    have e0 : (0 : Int) + (i : Int) = ((i : Nat) : Int) := by omega
    refine ⟨_, rfl, _, rfl, _, _, rfl, rfl, pt, _, _, _, rfl, rfl, SqL.of hpt5, by rw [e1]; exact a1, ?_⟩
    refine ⟨_, rfl, _, rfl, pt, _, _, _, rfl, rfl, SqL.of hpt5, by rw [e0]; exact a0, ?_⟩
    have hx1 := hmem told[i + 1] (List.getElem_mem _)
    have hx0 := hmem told[i] (List.getElem_mem _)
    refine ⟨_, _, rfl, hx1.len, hx0.len, hx1.bits, hx0.bits, fun H6 s6 => ?_⟩
    have hle : PySem.W.dataLt (keyD told[i + 1]) (keyD told[i]) = false := by
      have h1 := (List.pairwise_iff_getElem.mp hpw) i (i + 1) (by omega) hi1 (by omega)
      rw [PySem.W.dataLe_eq] at h1
      simpa using h1
    refine ⟨_, rfl, ?_⟩
    rw [hle]
    exact iteF ⟨_, rfl, s5.trans s6⟩
  · rintro σ H5 ⟨v, rfl, s5⟩
    have hpt5 := s5 _ _ (S4 _ _ hpt)
    have hD5 := s5 _ _ (S4 _ _ hD3)
    have npD : D ≠ pt := by
      intro e
      rw [← e, same_new hpk _ _ hD2] at npt
      cases npt
    have nptb : pt ≠ b := by
      intro e
      obtain ⟨_, _, _, hbb, _⟩ := b2
      rw [e, same_new hpk _ _ hbb] at npt
      cases npt
    refine ⟨_, rfl, Or.inl ⟨rfl, _, SqL.of hpt5⟩, pt, _, _, rfl, rfl, hpt5, ?_, ?_⟩
    · rw [List.length_map, hperm.length_eq]
      exact Nat.lt_of_lt_of_le (show ss.length < 100 by omega) (by decide)
    have hD6 : upd H5 pt (.lst (told.map V.str ++ [.str "changed"])) D = some (.lst (ss.map V.str)) := by rw [upd_ne npD]; exact hD5
    refine ⟨_, rfl, D, ss, rfl, SqL.of hD6, fun x hx => (hs x hx).len, fun H7 p7 s7 np7 hp7 => ?_⟩
    rw [htd] at hp7
    have hpt7 := s7 _ _ (upd_same (H := H5) (a := pt) (o := .lst (told.map V.str ++ [.str "changed"])))
    refine ⟨_, rfl, _, rfl, _, rfl, pt, _, rfl, SqL.of hpt7, fun p8 hp8 => ?_⟩
    rw [cut_last]
    refine ⟨_, _, .lst (SqL.of (same_new hp8 _ _ hp7)) (dp_strs told), .lst (SqL.of upd_same) (dp_strs told), shaped_strs hok2, shaped_strs hok2, ?_⟩
    rw [eqv_list_strs, decide_eq_true rfl]
    have Kf : Keep b H2 (upd H7 p8 (.lst (told.map V.str))) := by
      intro a o na e
      have npa : a ≠ pt := by
        intro e2
        rw [← e2, same_new hpk _ _ e] at npt
        cases npt
      exact same_new hp8 _ _ (s7 _ _ (by rw [upd_ne npa]; exact s5 _ _ (S4 _ _ (S3 _ _ e))))
    have Bf : BagAt (upd H7 p8 (.lst (told.map V.str))) b := by
      obtain ⟨d, x, n, hbb, r⟩ := b2
      exact ⟨d, x, n, same_new hp8 _ _ (s7 _ _ (by rw [upd_ne nptb.symm]; exact s5 _ _ (S4 _ _ (S3 _ _ hbb)))), r⟩
    exact hq _ (K2'.trans Kf) Bf
end
end K2

set_option Elab.async false
set_option linter.all false
set_option maxRecDepth 100000
set_option maxHeartbeats 4000000
namespace LF
open PySem PySem.Spec PyProof.Rows L2 TL K2
theorem joinL_snoc (n : List Nat) : ∀ (l : List (List Nat)), l ≠ [] → joinL [47] (l ++ [n]) = joinL [47] l ++ 47 :: n
  | [], h => absurd rfl h
  | [p], _ => rfl
  | p :: q :: r, _ => by
    show p ++ ([47] ++ joinL [47] ((q :: r) ++ [n])) = (p ++ ([47] ++ joinL [47] (q :: r))) ++ 47 :: n
    rw [joinL_snoc n (q :: r) (by simp)]
    simp [List.append_assoc]
theorem join_snoc {init : List Str} (n : Str) (hne : init ≠ []) : tl (PySem.Txt.join c_sl (init ++ [n])) = tl (PySem.Txt.join c_sl init) ++ 47 :: tl n := by
  rw [join_eq, join_eq, tl_join, tl_join, tl_sl, List.map_append]
  exact joinL_snoc (tl n) _ (by simpa using hne)
theorem at_mem {x : Str} {i : Nat} (h : StrLaws.At x c_sl x.length i) : 47 ∈ (tl x).drop i := by
  have h1 := (at_iff (by rw [tl_sl]; simp) i).mp h
  rw [tl_sl] at h1
  have h2 : ((tl x).drop i).take 1 = [47] := eq_of_beq h1
  exact List.mem_of_mem_take (by rw [h2]; exact List.mem_singleton_self _)
/-- a path's parent -/
theorem rpart_join {ns : List Str} (hne : ns ≠ []) (h : ∀ n ∈ ns, isNm n = true) : (PySem.Txt.rpartition (PySem.Txt.join c_sl ns) c_sl).1 = PySem.Txt.join c_sl ns.dropLast := by
  obtain ⟨init, n, rfl⟩ : ∃ init n, ns = init ++ [n] := ⟨ns.dropLast, ns.getLast hne, (List.dropLast_concat_getLast hne).symm⟩
  have hn : 47 ∉ tl n := isNm_sl (h n (by simp))
  rw [List.dropLast_concat]
  unfold PySem.Txt.rpartition
  by_cases hi : init = []
  · subst hi
    have e : PySem.Txt.join c_sl ([] ++ [n]) = n := by
      apply ext_tl
      rw [join_eq, tl_join]; rfl
    rw [e, join_nil0]
    rcases StrLaws.last_spec n c_sl with ⟨h1, _⟩ | ⟨i, h1, h2, _⟩
    · rw [h1]; rfl
    · exact absurd (List.mem_of_mem_drop (at_mem h2)) hn
  · have et := join_snoc n hi
    generalize hx : PySem.Txt.join c_sl (init ++ [n]) = x at et
    generalize hy : PySem.Txt.join c_sl init = y at et
    have hat : StrLaws.At x c_sl x.length (tl y).length := by
      refine (at_iff (by rw [tl_sl]; simp) _).mpr ?_
      rw [et, tl_sl, List.drop_left]
      rfl
    rcases StrLaws.last_spec x c_sl with ⟨_, h2⟩ | ⟨i, h1, h2, h3⟩
    · exact absurd hat (h2 _)
    · have hle : (tl y).length ≤ i := Nat.le_of_not_lt fun q => h3 _ q hat
      have hie : i = (tl y).length := by
        refine Nat.le_antisymm (Nat.le_of_not_lt fun q => ?_) hle
        have hm := at_mem h2
        have e : i = (tl y).length + (1 + (i - (tl y).length - 1)) := by omega
        rw [et, e, ← List.drop_drop, List.drop_left, ← List.drop_drop] at hm
        exact hn (List.mem_of_mem_drop hm)
      rw [h1]
      show Builtin.Str.strSub x 0 i = y
      apply ext_tl
      rw [tl_strSub, hie, List.drop_zero, Nat.sub_zero, et, List.take_left]
end LF

set_option Elab.async false
set_option linter.all false
set_option maxRecDepth 100000
set_option maxHeartbeats 4000000
namespace LF
open PySem PySem.Spec PyProof.Rows L2 K2
/-- data whose repr is told -/
structure Rok (d : PyData) : Prop where
  sh : d.showable = true
  nd : d.hasDict = false
  dp : d.depth ≤ 60
  ln : d.shown.length ≤ sizeLine
theorem Rok.of {d : PyData} (h1 : d.canLay0 = true) (h2 : d.depth ≤ 60) (h3 : d.weight ≤ 2 ^ 20) (h4 : d.intsShort 13 = true) (h5 : d.showable = true) : Rok d := by
  refine ⟨h5, PyData.hasDict_of_canLay d h1, h2, ?_⟩
  have hl : PyData.layable0 d = true := by
    unfold PyData.layable0
    rw [h1, decide_eq_true (by omega : d.depth ≤ 64), decide_eq_true h3]; rfl
  exact Nat.le_trans (shown_le13 hl h4) (by decide)
theorem weight_strs {n : Nat} : ∀ {l : List Str}, (∀ s ∈ l, s.length ≤ n) → PyData.weightAll (l.map .str) ≤ (n + 1) * l.length
  | [], _ => by simp [PyData.weightAll]
  | a :: l, h => by
    have h1 := weight_strs (n := n) fun s hs => h s (List.mem_cons_of_mem _ hs)
    have h2 := h a List.mem_cons_self
    show PyData.weightAll (.str a :: l.map .str) ≤ _
    rw [PyData.weightAll, PyData.weight, List.length_cons, Nat.mul_succ]
    have e : a.cps.size = a.length := rfl
    omega
theorem ints_strs : ∀ l : List Str, PyData.intsShortAll 13 (l.map .str) = true
  | [] => by simp [PyData.intsShortAll]
  | a :: l => by
    show PyData.intsShortAll 13 (.str a :: l.map .str) = true
    rw [PyData.intsShortAll, ints_strs l]; simp [PyData.intsShort]
theorem show_strs : ∀ l : List Str, PyData.showableAll (l.map .str) = true
  | [] => by simp [PyData.showableAll]
  | a :: l => by
    show PyData.showableAll (.str a :: l.map .str) = true
    rw [PyData.showableAll, show_strs l]; simp [PyData.showable]
theorem rok_tuple {l : List Str} {n : Nat} (h1 : ∀ s ∈ l, PyData.strOk s = true) (h2 : ∀ s ∈ l, s.length ≤ n) (h3 : (n + 1) * l.length ≤ 1000000) : Rok (.tuple (l.map .str)) := by
  refine Rok.of (by rw [PyData.canLay0]; exact canLay_strs h1) (by rw [PyData.depth, depth_strs]; decide) ?_ (by rw [PyData.intsShort]; exact ints_strs l) (by rw [PyData.showable]; exact show_strs l)
  rw [PyData.weight]
  exact Nat.le_trans (Nat.le_trans (weight_strs h2) h3) (by decide)
theorem rok_list {l : List Str} {n : Nat} (h1 : ∀ s ∈ l, PyData.strOk s = true) (h2 : ∀ s ∈ l, s.length ≤ n) (h3 : (n + 1) * l.length ≤ 1000000) : Rok (.list (l.map .str)) := by
  refine Rok.of (by rw [PyData.canLay0]; exact canLay_strs h1) (by rw [PyData.depth, depth_strs]; decide) ?_ (by rw [PyData.intsShort]; exact ints_strs l) (by rw [PyData.showable]; exact show_strs l)
  rw [PyData.weight]
  exact Nat.le_trans (Nat.le_trans (weight_strs h2) h3) (by decide)
theorem rok_str {z : Str} (h1 : PyData.strOk z = true) (h2 : z.length ≤ 1000000) : Rok (.str z) := by
  refine Rok.of (by rw [PyData.canLay0]; exact h1) (by simp [PyData.depth]) ?_ (by simp [PyData.intsShort]) (by simp [PyData.showable])
  rw [PyData.weight]
  exact Nat.le_trans (show z.cps.size ≤ 1000000 from h2) (by decide)
theorem rok_none : Rok .none := Rok.of (by simp [PyData.canLay0]) (by simp [PyData.depth]) (by simp [PyData.weight]) (by simp [PyData.intsShort]) (by simp [PyData.showable])
end LF
namespace K2
open PySem PySem.Spec PyProof.Rows L2 LF
def spPR : Sp := fun vs H Q _ => ∃ z : Str, vs = [.str z] ∧ ofNames z ∧ ∀ H', Same H H' → Q (.bl true) H'
abbrev s__law_path_right : Stmt := topS 23
abbrev N__law_path_right : List Str := ["_law_path_here", "_law_bits", "_law_part", "_law_due"]
theorem sc__law_path_right : FnScope ["_law_path_here", "_law_bits", "_law_part", "_law_due"] ["_law_path_here"] (defScope s__law_path_right) := ⟨rfl, rfl, rfl, by decide +kernel, rfl, by decide +kernel, by decide +kernel⟩
theorem isNm_ok {z : Str} (h : isNm z = true) : PyData.strOk z = true := strOk_low (isNm_iff.mp h).2
theorem cut_drop_last (ss : List Str) : cutV (ss.map V.str) none (some (-1)) = ss.dropLast.map V.str := by
  rcases List.eq_nil_or_concat ss with rfl | ⟨l, a, rfl⟩
  · rfl
  · rw [List.concat_eq_append, List.dropLast_concat, List.map_append]
    exact cut_last l a
section
variable {P : Program} {w : World} {K : PySem.W.Frag} {mg : Str → Option Value} {base : Heap} {tk1 tk2 : Tok}
theorem ok_path_right {f f1 f2 f3 : Addr} {fd fd1 fd2 fd3 : FuncData} (F : Fun K "_law_path_right" "_law_path_right" s__law_path_right f fd) (T : Txt K mg tk1 tk2)
    (d_names_of : DefAt P w K mg base "names_of" 4 f1 fd1 ["path"] spNames) (d_is_path : DefAt P w K mg base "is_path" 2 f2 fd2 ["thing"] (spPath K))
    (d_parent : DefAt P w K mg base "parent" 4 f3 fd3 ["path"] spParent) : FnG P w K mg base CX0 5 f fd ["_law_path_here"] spPR := by
  refine fnG_of F sc__law_path_right (fun vs H Q E h => ?_) (fun cdv A outer s H vs Q E gd hr h => ?_)
  · obtain ⟨z, rfl, _⟩ := h
    rfl
  have hu := hr.units
  refine ⟨_, (pss_cons (ps_setLc (i := 1) (own := [("_law_part", 2)]) rfl sc__law_path_right.nd rfl rfl (sw_true rfl rfl rfl (by decide +kernel)) (pi_list (pe_split (pv 0) pe_str)) (blkOk_by (N := N__law_path_right) (sc := defScope s__law_path_right) (by decide +kernel)) (fun _ _ _ _ _ => pg_name (i := 2) sc__law_path_right.nd rfl (Or.inl rfl)) (fun _ _ _ _ _ => (pts_one (pt_cmpR op_ne (pv 2) pe_str (nomark _)))) (fun _ _ _ _ _ => (pv 2)))
    (pss_cons (ps_if (PW.pt (pw_or (pt_cmpR op_ne (pe_callB (call_reprD gd hu) (by rfl) T.n_repr (by decide +kernel) (pa_cons (pe_callD d_names_of (hr.mono (by decide)) (pa_cons (pv 0) pa_nil)) pa_nil)) (pe_callB (call_reprD gd hu) (by rfl) T.n_repr (by decide +kernel) (pa_cons (pe_callTy call_tuple_of (by rfl) T.n_tuple (by decide +kernel) (pa_cons (pv 1) pa_nil)) pa_nil)) (nomark _)) (pw_or1 (pt_not (pt_val (pe_callD d_is_path (hr.mono (by decide)) (pa_cons (pv 0) pa_nil))))))) (pss_one (ps_ret pe_bl)) pss_nil)
    (pss_cons (ps_set (i := 3) sc__law_path_right.nd rfl (Or.inl rfl) (pe_ifExp (pt_cmpR op_eq (pv 0) pe_str (nomark _)) pe_non (pe_join pe_str (pe_slice sl_list (pv 1) po_none (po_some (pe_un un_neg pe_int))))))
    (pss_one (ps_ret (pe_cmpR op_eq (pe_callB (call_reprD gd hu) (by rfl) T.n_repr (by decide +kernel) (pa_cons (pe_callD d_parent (hr.mono (by decide)) (pa_cons (pv 0) pa_nil)) pa_nil)) (pe_callB (call_reprD gd hu) (by rfl) T.n_repr (by decide +kernel) (pa_cons (pv 3) pa_nil)) (nomark _))))))), ?_⟩
  obtain ⟨z, rfl, hz, hq⟩ := h
  have hlen := hz.len
  have hbits := hz.bits
  obtain ⟨ns, hns, hn1, rfl⟩ := hz
  have hpt := isPt_join hns
  have hps := parts_join hns
  have hbig := sizeLine_big
  generalize hx : PySem.Txt.join c_sl ns = x at hlen hbits hpt hps
  refine ⟨_, rfl, ⟨_, rfl⟩, x, c_sl, rfl, rfl, sl_ne, by omega, fun p hp => ⟨p, rfl, ⟨_, SqL.of upd_same⟩, fun D hD => ?_⟩⟩
  refine lc_filt (xs := (PySem.Txt.split x c_sl).map V.str) (fun v => !decide (v = V.str "")) (fun v => v) hD (SqL.of upd_same) (bits_len x hlen) ?_ ?_ ?_
  · intro v H1 R hv sm hR
    obtain ⟨y, _, rfl⟩ := List.mem_map.mp hv
    exact ⟨_, rfl, rfl, _, rfl, hR H1 (Same.refl H1)⟩
  · intro v H1 R hv _ sm hR
    exact ⟨_, rfl, hR H1 (Same.refl H1)⟩
  intro H1 s1 hD1
  rw [filt_bits, hbits, hps] at hD1
  have S1 : Same H H1 := (same_new hp).trans s1
  have rk := rok_tuple (l := ns) (n := 8) (fun s hs => isNm_ok (hns s hs)) (fun s hs => (isNm_len (hns s hs)).2) (by omega)
  -- the tests
  refine ⟨_, rfl, x, rfl, hlen, hpt, fun H2 p2 s2 hp2 => ?_⟩
  rw [hps] at hp2
  refine ⟨_, _, rfl, .tup (SqT.of hp2) (dp_strs ns), rk.sh, rk.nd, rk.dp, rk.ln, ?_⟩
  refine ⟨_, rfl, D, _, rfl, Or.inl ⟨SqL.of (s2 _ _ hD1), fun p3 hp3 => ?_⟩⟩
  refine ⟨_, _, rfl, .tup (SqT.of upd_same) (dp_strs ns), rk.sh, rk.nd, rk.dp, rk.ln, rfl, _, rfl, ?_⟩
  rw [decide_eq_true rfl]
  refine iteF ?_
  refine ⟨_, rfl, x, rfl, hlen, fun H4 s4 => ⟨_, rfl, ?_⟩⟩
  rw [hpt]
  refine iteF ?_
  have S4 : Same H1 H4 := (s2.trans (same_new hp3)).trans s4
  have hD4 := S4 _ _ hD1
  -- the parent
  refine ⟨_, rfl, rfl, _, rfl, ?_⟩
  rw [str_dec]
  refine ifD (fun h1 => ?_) (fun h1 => ?_)
  · refine ⟨_, rfl, x, rfl, hlen, hpt, fun H5 s5 => ?_⟩
    rw [if_pos h1]
    refine ⟨_, _, rfl, .non, rok_none.sh, rok_none.nd, rok_none.dp, rok_none.ln, ?_⟩
    refine ⟨_, rfl, _, _, rfl, .non, rok_none.sh, rok_none.nd, rok_none.dp, rok_none.ln, rfl, ?_⟩
    rw [decide_eq_true rfl]
    exact hq H5 ((S1.trans S4).trans s5)
  · have hne : ns ≠ [] := fun e => h1 (by rw [← hx, e]; exact join_nil0)
    have hdl : ∀ s ∈ ns.dropLast, isNm s = true := fun s hs => hns s (List.dropLast_subset _ hs)
    refine ⟨⟨_, rfl⟩, _, rfl, _, rfl, _, rfl, D, _, rfl, SqL.of hD4, fun p5 hp5 => ?_⟩
    rw [cut_drop_last]
    refine ⟨c_sl, p5, ns.dropLast, rfl, rfl, Or.inl (SqL.of upd_same), ?_, ?_⟩
    · have h2 := sum_le (ss := ns.dropLast) (n := 8) fun s hm => (isNm_len (hdl s hm)).2
      have h3 : c_sl.length = 1 := by decide +kernel
      have h4 : ns.dropLast.length ≤ 1000 := by rw [List.length_dropLast]; omega
      show (ns.dropLast.map (·.length)).sum + ns.dropLast.length * c_sl.length ≤ 16777216
      rw [h3]; omega
    refine ⟨_, rfl, x, rfl, hlen, hpt, fun H6 s6 => ?_⟩
    rw [if_neg h1, ← hx, rpart_join hne hns]
    have hjl := join_len_le hdl
    have h4 : ns.dropLast.length ≤ 1000 := by rw [List.length_dropLast]; omega
    have rs := rok_str (strOk_join hdl) (by omega)
    refine ⟨_, _, rfl, .str _, rs.sh, rs.nd, rs.dp, rs.ln, ?_⟩
    refine ⟨_, rfl, _, _, rfl, .str _, rs.sh, rs.nd, rs.dp, rs.ln, rfl, ?_⟩
    rw [decide_eq_true rfl]
    exact hq H6 (((S1.trans S4).trans (same_new hp5)).trans s6)
end
end K2

set_option Elab.async false
set_option linter.all false
set_option maxRecDepth 100000
set_option maxHeartbeats 4000000
namespace K2
open PySem PySem.Spec PyProof.Rows L2 LF
abbrev s__law_made_right : Stmt := topS 22
abbrev N__law_made_right : List Str := ["_law_bag_here", "_law_letters", "_law_odd", "_law_values", "_law_k", "_law_wrong", "_law_value", "_law_due"]
theorem sc__law_made_right : FnScope ["_law_bag_here", "_law_letters", "_law_odd", "_law_values", "_law_k", "_law_wrong", "_law_value", "_law_due"] ["_law_bag_here", "_law_letters"] (defScope s__law_made_right) := ⟨rfl, rfl, rfl, by decide +kernel, rfl, by decide +kernel, by decide +kernel⟩
/-- the odd values, their lists at pl and pt -/
def oddV (pl pt : Addr) : List V := [.str "", .str "A", .str "a b", .str "abcdefghi", .str "a/b", .non, .int 1, .bl true, .ref pl, .ref pt]
def dOf (pl : Addr) : V → PyData
  | .str z => .str z
  | .int i => .int i
  | .bl b => .bool b
  | .ref a => if a = pl then .list [.str "a"] else .tuple [.str "a"]
  | _ => .none
theorem dp_list {K : PySem.W.Frag} {H : Hp} {f : V → PyData} : ∀ {vs : List V}, (∀ v ∈ vs, Dp K H v (f v)) → DpAll K H vs (vs.map f)
  | [], _ => .nil
  | v :: vs, h => .cons (h v List.mem_cons_self) (dp_list fun u hu => h u (List.mem_cons_of_mem _ hu))
theorem dp_odd {K : PySem.W.Frag} {H : Hp} {pl pt : Addr} (h1 : H pl = some (.lst [.str "a"])) (h2 : H pt = some (.tup [.str "a"])) : ∀ v ∈ oddV pl pt, Dp K H v (dOf pl v) := by
  intro v hv
  have hne : pt ≠ pl := ne_of h2 h1 (by intro q; cases q)
  simp only [oddV, List.mem_cons, List.not_mem_nil, or_false] at hv
  rcases hv with rfl | rfl | rfl | rfl | rfl | rfl | rfl | rfl | rfl | rfl
  · exact .str _
  · exact .str _
  · exact .str _
  · exact .str _
  · exact .str _
  · exact .non
  · exact .int _
  · exact .bl _
  · show Dp K H (.ref pl) (if pl = pl then _ else _)
    rw [if_pos rfl]
    exact .lst (SqL.of h1) (.cons (.str _) .nil)
  · show Dp K H (.ref pt) (if pt = pl then _ else _)
    rw [if_neg hne]
    exact .tup (SqT.of h2) (.cons (.str _) .nil)
/-- the data of the odd values -/
def oddD : List PyData := [.str "", .str "A", .str "a b", .str "abcdefghi", .str "a/b", .none, .int 1, .bool true, .list [.str "a"], .tuple [.str "a"]]
theorem dOf_odd {pl pt : Addr} (hne : pt ≠ pl) : ∀ v ∈ oddV pl pt, dOf pl v ∈ oddD := by
  intro v hv
  simp only [oddV, List.mem_cons, List.not_mem_nil, or_false] at hv
  rcases hv with rfl | rfl | rfl | rfl | rfl | rfl | rfl | rfl | rfl | rfl <;> simp [dOf, oddD, hne]
theorem odd_rok : ∀ d ∈ oddD, Rok (.tuple [.str "BadName", d]) ∧ SeqAt.shaped d = true := by
  intro d hd
  simp only [oddD, List.mem_cons, List.not_mem_nil, or_false] at hd
  rcases hd with rfl | rfl | rfl | rfl | rfl | rfl | rfl | rfl | rfl | rfl <;>
    exact ⟨Rok.of (by decide +kernel) (by decide +kernel) (by decide +kernel) (by decide +kernel) (by decide +kernel), by decide +kernel⟩
theorem odd_nm {pl pt : Addr} : ∀ v ∈ oddV pl pt, nmV v = false := by
  intro v hv
  simp only [oddV, List.mem_cons, List.not_mem_nil, or_false] at hv
  rcases hv with rfl | rfl | rfl | rfl | rfl | rfl | rfl | rfl | rfl | rfl <;> first | rfl | decide +kernel
theorem odd_ok {H : Hp} {pl pt : Addr} (h1 : H pl = some (.lst [.str "a"])) (h2 : H pt = some (.tup [.str "a"])) : ∀ v ∈ oddV pl pt, ValOk H v := by
  intro v hv
  simp only [oddV, List.mem_cons, List.not_mem_nil, or_false] at hv
  rcases hv with rfl | rfl | rfl | rfl | rfl | rfl | rfl | rfl | rfl | rfl
  · exact Or.inl ⟨_, rfl, by decide +kernel⟩
  · exact Or.inl ⟨_, rfl, by decide +kernel⟩
  · exact Or.inl ⟨_, rfl, by decide +kernel⟩
  · exact Or.inl ⟨_, rfl, by decide +kernel⟩
  · exact Or.inl ⟨_, rfl, by decide +kernel⟩
  · exact Or.inr (Or.inl rfl)
  · exact Or.inr (Or.inr (Or.inl ⟨_, rfl⟩))
  · exact Or.inr (Or.inr (Or.inr (Or.inl ⟨_, rfl⟩)))
  · exact Or.inr (Or.inr (Or.inr (Or.inr (Or.inl ⟨_, _, rfl, h1⟩))))
  · exact Or.inr (Or.inr (Or.inr (Or.inr (Or.inr ⟨_, _, rfl, h2⟩))))
/-- in: only names are among the letters -/
theorem any_in {L : List Str} (hL : ∀ s ∈ L, isNm s = true) {pl pt : Addr} {v : V} (hv : v ∈ L.map V.str ++ oddV pl pt) : ((L.map PyData.str).any fun z => PyData.eqv z (dOf pl v)) = nmV v := by
  rcases List.mem_append.mp hv with h | h
  · obtain ⟨s, hs, rfl⟩ := List.mem_map.mp h
    have e : nmV (.str s) = true := hL s hs
    rw [e, List.any_eq_true]
    exact ⟨.str s, List.mem_map.mpr ⟨s, hs, rfl⟩, by show (s == s) = true; simp⟩
  · rw [odd_nm v h, List.any_eq_false]
    intro z hz
    obtain ⟨s, hs, rfl⟩ := List.mem_map.mp hz
    have hn := odd_nm v h
    cases v with
    | str y =>
      show ¬ (s == y) = true
      intro e
      have e' : s = y := by simpa using e
      subst e'
      have h3 : nmV (.str s) = true := hL s hs
      rw [h3] at hn
      cases hn
    | ref a =>
      show ¬ PyData.eqv (.str s) (if a = pl then _ else _) = true
      split <;> simp [PyData.eqv]
    | _ => simp [dOf, PyData.eqv]
section
variable {P : Program} {w : World} {K : PySem.W.Frag} {mg : Str → Option Value} {base : Heap} {tk1 tk2 : Tok}
theorem ok_made_right {f f1 f2 f3 : Addr} {fd fd1 fd2 fd3 : FuncData} (F : Fun K "_law_made_right" "_law_made_right" s__law_made_right f fd) (T : Txt K mg tk1 tk2)
    (d_take : DefAt P w K mg base "_law_take" 1 f1 fd1 ["_law_bag_here", "_law_many"] spTake) (d_pick : DefAt P w K mg base "_law_pick" 2 f2 fd2 ["_law_bag_here", "_law_some"] (spPick K))
    (d_made : DefAt P w K mg base "_law_made" 6 f3 fd3 ["_law_values"] spMade) : FnG P w K mg base CX0 7 f fd ["_law_bag_here", "_law_letters"] spRight := by
  refine fnG_of F sc__law_made_right (fun vs H Q E h => ?_) (fun cdv A outer s H vs Q E gd hr h => ?_)
  · obtain ⟨b, l, L, rfl, _⟩ := h
    rfl
  have hu := hr.units
  have hu2 : (A.deeper (envOfC "_law_made_right" (defScope s__law_made_right) s.heap.objs.size f cdv)).units + 65 < cLine := by have := hr.un; omega
  refine ⟨_, (pss_cons (ps_set (i := 2) sc__law_made_right.nd rfl (Or.inr rfl) (pe_lst (pa_cons pe_str (pa_cons pe_str (pa_cons pe_str (pa_cons pe_str (pa_cons pe_str (pa_cons pe_non (pa_cons pe_int (pa_cons pe_bl (pa_cons (pe_lst (pa_cons pe_str pa_nil)) (pa_cons (pe_tup (pa_cons pe_str pa_nil)) pa_nil))))))))))))
    (pss_cons (ps_setLc (i := 3) (own := [("_law_k", 4)]) rfl sc__law_made_right.nd rfl rfl (sw_true rfl rfl rfl (by decide +kernel)) (pi_range1 (by rfl) T.n_range (pa_cons (pe_callD d_take (hr.mono (by decide)) (pa_cons (pv 0) (pa_cons pe_int pa_nil))) pa_nil)) (blkOk_by (N := N__law_made_right) (sc := defScope s__law_made_right) (by decide +kernel)) (fun _ _ _ _ _ => pg_name (i := 4) sc__law_made_right.nd rfl (Or.inl rfl)) (fun _ _ _ _ _ => pts_nil) (fun _ _ _ _ _ => (pe_callD d_pick (hr.mono (by decide)) (pa_cons (pv 0) (pa_cons (pe_op op_cat (pv 1) (pe_lst (pa_cons (pe_callD d_pick (hr.mono (by decide)) (pa_cons (pv 0) (pa_cons (pv 2) pa_nil))) pa_nil))) pa_nil)))))
    (pss_cons (ps_setLc (i := 5) (own := [("_law_value", 6)]) rfl sc__law_made_right.nd rfl rfl (sw_true rfl rfl rfl (by decide +kernel)) (pi_list (pv 3)) (blkOk_by (N := N__law_made_right) (sc := defScope s__law_made_right) (by decide +kernel)) (fun _ _ _ _ _ => pg_name (i := 6) sc__law_made_right.nd rfl (Or.inl rfl)) (fun _ _ _ _ _ => (pts_one (pt_cmpR (show OpR _ (compareOp .NotIn) (rNotInD K) from op_notInD hu2) (pv 6) (pv 1) (by rfl)))) (fun _ _ _ _ _ => (pv 6)))
    (pss_cons (ps_set (i := 7) sc__law_made_right.nd rfl (Or.inl rfl) (pe_ifExp (pt_cmpR (op_neD hu) (pv 5) (pe_lst pa_nil) (nomark _)) (pe_tup (pa_cons pe_str (pa_cons (pe_ix ix_list (pv 5) pe_int (fun _ _ => rfl)) pa_nil))) (pe_lst (pa_cons (pe_join pe_str (pv 3)) pa_nil))))
    (pss_one (ps_ret (pe_cmpR op_eq (pe_callB (call_reprD gd hu) (by rfl) T.n_repr (by decide +kernel) (pa_cons (pe_callD d_made (hr.mono (by decide)) (pa_cons (pv 3) pa_nil)) pa_nil)) (pe_callB (call_reprD gd hu) (by rfl) T.n_repr (by decide +kernel) (pa_cons (pv 7) pa_nil)) (nomark _)))))))), ?_⟩
  obtain ⟨b, l, L, rfl, hb, nlb, hl, hL1, hL2, hL, hq⟩ := h
  refine ⟨(by show 1 ≤ sizeLine; decide), fun pl hpl => ⟨(by show 1 ≤ sizeLine; decide), fun pt hpt => ⟨(by show 10 ≤ sizeLine; decide), fun po hpo => ?_⟩⟩⟩
  have npl : pl ≠ pt := ne_of_none (upd_same (H := H) (a := pl) (o := .lst [.str "a"])) hpt
  have S0 : Same H (upd (upd (upd H pl (.lst [.str "a"])) pt (.tup [.str "a"])) po (.lst (oddV pl pt))) := ((same_new hpl).trans (same_new hpt)).trans (same_new hpo)
  have g1 : (upd (upd (upd H pl (.lst [.str "a"])) pt (.tup [.str "a"])) po (.lst (oddV pl pt))) pl = some (.lst [.str "a"]) := (same_new hpo) _ _ ((same_new hpt) _ _ upd_same)
  have g2 : (upd (upd (upd H pl (.lst [.str "a"])) pt (.tup [.str "a"])) po (.lst (oddV pl pt))) pt = some (.tup [.str "a"]) := (same_new hpo) _ _ upd_same
  have g3 : (upd (upd (upd H pl (.lst [.str "a"])) pt (.tup [.str "a"])) po (.lst (oddV pl pt))) po = some (.lst (oddV pl pt)) := upd_same
  generalize hG : (upd (upd (upd H pl (.lst [.str "a"])) pt (.tup [.str "a"])) po (.lst (oddV pl pt))) = G at S0 g1 g2 g3
  have hbG := hb.same S0
  have hlG := S0 _ _ hl
  have nplb : pl ≠ b := hb.ne hpl
  have nptb : pt ≠ b := (hb.same (same_new hpl)).ne hpt
  have npob : po ≠ b := (hb.same ((same_new hpl).trans (same_new hpt))).ne hpo
  -- the values
  show tSeq _ _ _ _ (upd (upd (upd H pl (.lst [.str "a"])) pt (.tup [.str "a"])) po (.lst (oddV pl pt)))
  rw [hG]
  refine ⟨_, rfl, b, 4, rfl, hbG, by omega, by omega, fun H1 r k1 b1 r0 r1 => ?_⟩
  refine ⟨r, rfl, by omega, by omega, fun D hD => ?_⟩
  refine lc_draw (lo := 0) (Good := fun y => y ∈ L.map V.str ++ oddV pl pt) b1 hD ?_ ?_ ?_
  · exact Nat.lt_of_lt_of_le (show r.toNat < 10 by omega) (by decide)
  · intro j H2 R hj k2 b2 hR
    have k12 := k1.trans k2
    refine ⟨_, rfl, _, rfl, _, rfl, _, rfl, ?_⟩
    refine ⟨b, .ref po, rfl, b2, Or.inl ⟨po, oddV pl pt, rfl, npob, SqL.of (k12 _ _ npob g3), (by show 1 ≤ 10; decide), (by show 10 < 1000000; decide), fun H3 v k3 b3 hv => ?_⟩⟩
    refine ⟨(by show 1 ≤ sizeLine; decide), fun p1 hp1 => ?_⟩
    have hl3 := (k12.trans k3) _ _ nlb hlG
    refine ⟨l, p1, _, _, rfl, rfl, same_new hp1 _ _ hl3, upd_same, ?_, fun pc hpc => ?_⟩
    · rw [List.length_map]; exact Nat.le_trans (show L.length + 1 ≤ 2000 by omega) (by decide)
    have b4 := (b3.same (same_new hp1)).same (same_new (o := .lst (L.map V.str ++ [v])) hpc)
    refine ⟨b, .ref pc, rfl, b4, Or.inl ⟨pc, L.map V.str ++ [v], rfl, (b3.same (same_new hp1)).ne hpc, SqL.of upd_same, by simp, by rw [List.length_append, List.length_map, List.length_singleton]; omega, fun H4 y k4 b5 hy => ?_⟩⟩
    refine hR y H4 (k3.trans ((Same.keep (same_new hp1)).trans ((Same.keep (same_new hpc)).trans k4))) b5 ?_
    rcases List.mem_append.mp hy with q | q
    · exact List.mem_append_left _ q
    · rw [List.mem_singleton.mp q]; exact List.mem_append_right _ hv
  intro H2 acc k2 b2 hD2 hlen hg
  have K2' := k1.trans k2
  have m1 := K2' _ _ nplb g1
  have m2 := K2' _ _ nptb g2
  have m3 := K2' _ _ nlb hlG
  have hacc : acc.length ≤ 3 := by omega
  have ntl : pt ≠ pl := Ne.symm npl
  have dpv : ∀ H', Same H2 H' → ∀ v ∈ L.map V.str ++ oddV pl pt, Dp K H' v (dOf pl v) := by
    intro H' sm v hv
    rcases List.mem_append.mp hv with q | q
    · obtain ⟨y, _, rfl⟩ := List.mem_map.mp q
      exact .str y
    · exact dp_odd (sm _ _ m1) (sm _ _ m2) v q
  have shv : ∀ v ∈ L.map V.str ++ oddV pl pt, SeqAt.shaped (dOf pl v) = true := by
    intro v hv
    rcases List.mem_append.mp hv with q | q
    · obtain ⟨y, hy, rfl⟩ := List.mem_map.mp q
      show SeqAt.shaped (.str y) = true
      unfold SeqAt.shaped
      have e0 : (PyData.str y).depth = 0 := by simp [PyData.depth]
      rw [PyData.canLay0, isNm_ok (hL y hy), e0]
      rfl
    · exact (odd_rok _ (dOf_odd ntl v q)).2
  have hLok : ∀ s ∈ L, PyData.strOk s = true := fun s hs => isNm_ok (hL s hs)
  -- the wrong ones
  refine ⟨_, rfl, D, rfl, ⟨_, SqL.of hD2⟩, fun D2 hD2' => ?_⟩
  refine lc_filt (xs := acc) (fun v => !nmV v) (fun v => v) hD2' (SqL.of hD2) (Nat.lt_of_lt_of_le (show acc.length < 10 by omega) (by decide)) ?_ ?_ ?_
  · intro v H3 R hv sm hR
    refine ⟨_, rfl, _, rfl, dOf pl v, L.map .str, dpv H3 sm v (hg v hv), .lst (SqL.of (sm _ _ m3)) (dp_strs L), shv v (hg v hv), shaped_strs hLok, _, rfl, ?_⟩
    rw [any_in hL (hg v hv)]
    exact hR H3 (Same.refl H3)
  · intro v H3 R hv _ sm hR
    exact ⟨_, rfl, hR H3 (Same.refl H3)⟩
  intro H3 s3 hD3
  rw [List.map_id'] at hD3
  have hwm : ∀ v ∈ acc.filter (fun v => !nmV v), v ∈ acc ∧ nmV v = false := fun v hv => by
    have := List.mem_filter.mp hv
    exact ⟨this.1, by simpa using this.2⟩
  refine ⟨_, rfl, Nat.zero_le _, fun pe hpe => ?_⟩
  have s3e := s3.trans (same_new (o := .lst []) hpe)
  have shw : SeqAt.shaped (.list ((acc.filter fun v => !nmV v).map (dOf pl))) = true := by
    have hsub : ∀ vs : List V, (∀ v ∈ vs, v ∈ L.map V.str ++ oddV pl pt) → PyData.canLayAll0 (vs.map (dOf pl)) = true ∧ PyData.depthAll (vs.map (dOf pl)) ≤ 1 := by
      intro vs
      induction vs with
      | nil => exact fun _ => ⟨by simp [PyData.canLayAll0], by simp [PyData.depthAll]⟩
      | cons v vs ih =>
        intro h
        obtain ⟨i1, i2⟩ := ih fun u hu => h u (List.mem_cons_of_mem _ hu)
        have hv := shv v (h v List.mem_cons_self)
        have hd : (dOf pl v).depth ≤ 1 := by
          rcases List.mem_append.mp (h v List.mem_cons_self) with q | q
          · obtain ⟨y, _, rfl⟩ := List.mem_map.mp q
            show (PyData.str y).depth ≤ 1
            simp [PyData.depth]
          · have hm := dOf_odd ntl v q
            have all : ∀ d ∈ oddD, d.depth ≤ 1 := by decide +kernel
            exact all _ hm
        refine ⟨?_, ?_⟩
        · rw [List.map_cons, PyData.canLayAll0, i1, SeqAt.canLay_of_shaped hv]; rfl
        · rw [List.map_cons, PyData.depthAll]; omega
    obtain ⟨c1, c2⟩ := hsub _ fun v hv => hg v (hwm v hv).1
    unfold SeqAt.shaped
    rw [PyData.canLay0, c1, Bool.true_and]
    exact decide_eq_true (by rw [PyData.depth]; omega)
  refine ⟨.list ((acc.filter fun v => !nmV v).map (dOf pl)), .list [], .lst (SqL.of (same_new hpe _ _ hD3)) (dp_list fun v hv => dpv _ s3e v (hg v (hwm v hv).1)), .lst (SqL.of upd_same) .nil, shw, by decide +kernel, _, rfl, ?_⟩
  have hvok : ∀ H', Same H2 H' → ∀ v ∈ acc, ValOk H' v := by
    intro H' sm v hv
    rcases List.mem_append.mp (hg v hv) with q | q
    · obtain ⟨y, hy, rfl⟩ := List.mem_map.mp q
      exact Or.inl ⟨y, rfl, by have := (isNm_len (hL y hy)).2; omega⟩
    · exact odd_ok (sm _ _ m1) (sm _ _ m2) v q
  have kfin : ∀ H', Same H2 H' → Q (.bl true) H' := fun H' sm => hq H' ((Same.keep S0).trans (K2'.trans (Same.keep sm))) (b2.same sm)
  cases hw : acc.filter (fun v => !nmV v) with
  | nil =>
    rw [hw] at hD3
    have hall : acc.all nmV = true := by
      rw [List.all_eq_true]
      intro v hv
      cases hn : nmV v with
      | true => rfl
      | false =>
        have : v ∈ acc.filter (fun v => !nmV v) := List.mem_filter.mpr ⟨hv, by simp [hn]⟩
        rw [hw] at this
        cases this
    obtain ⟨ss, rfl, hs⟩ := all_strs hall
    rw [List.length_map] at hacc
    refine iteF ?_
    have h1 := sum_le (ss := ss) (n := 8) fun s hm => (isNm_len (hs s hm)).2
    have h2 : c_sl.length = 1 := by decide +kernel
    refine ⟨⟨_, rfl⟩, _, rfl, c_sl, D, ss, rfl, rfl, Or.inl (SqL.of (s3e _ _ hD2)), by rw [h2]; omega, (by show 1 ≤ sizeLine; decide), fun pd hpd => ?_⟩
    have s4 := s3e.trans (same_new (o := .lst [.str (PySem.Txt.join c_sl ss)]) hpd)
    refine ⟨_, rfl, D, _, rfl, s4 _ _ hD2, by rw [List.length_map]; exact hacc, hvok _ s4, fun _ H5 ss' p5 s5 e5 hp5 => ?_, fun w' hw' => ?_⟩
    · have ess : ss = ss' := by
        have := congrArg (List.map fun v => match v with | V.str z => z | _ => "") e5
        simpa [List.map_map, Function.comp_def] using this
      subst ess
      have hj := join_len_le hs
      have rk := rok_list (l := [PySem.Txt.join c_sl ss]) (n := 100) (fun s hs' => by rw [List.mem_singleton.mp hs']; exact strOk_join hs) (fun s hs' => by rw [List.mem_singleton.mp hs']; omega) (by show 101 * 1 ≤ 1000000; decide)
      refine ⟨_, _, rfl, .lst (SqL.of hp5) (.cons (.str _) .nil), rk.sh, rk.nd, rk.dp, rk.ln, ?_⟩
      refine ⟨_, rfl, _, _, rfl, .lst (SqL.of (s5 _ _ upd_same)) (.cons (.str _) .nil), rk.sh, rk.nd, rk.dp, rk.ln, rfl, ?_⟩
      rw [decide_eq_true rfl]
      exact kfin H5 (s4.trans s5)
    · rw [hw] at hw'
      cases hw'
  | cons w' rest =>
    have hwmem : w' ∈ acc ∧ nmV w' = false := hwm w' (by rw [hw]; exact List.mem_cons_self)
    have hodd : w' ∈ oddV pl pt := by
      rcases List.mem_append.mp (hg w' hwmem.1) with q | q
      · obtain ⟨y, hy, rfl⟩ := List.mem_map.mp q
        have h3 : nmV (.str y) = true := hL y hy
        rw [h3] at hwmem
        cases hwmem.2
      · exact q
    have rk := (odd_rok _ (dOf_odd ntl w' hodd)).1
    rw [hw] at hD3
    refine iteT ?_
    refine ⟨_, rfl, D2, _, _, w', rfl, rfl, SqL.of (same_new hpe _ _ hD3), atI_nat (j := 0) rfl, (by show 2 ≤ sizeLine; decide), fun pd hpd => ?_⟩
    have s4 := s3e.trans (same_new (o := .tup [.str "BadName", w']) hpd)
    refine ⟨_, rfl, D, _, rfl, s4 _ _ hD2, hacc, hvok _ s4, fun hall H5 ss' p5 s5 e5 hp5 => ?_, fun w2 hw2 H5 p5 s5 hp5 => ?_⟩
    · have := List.all_eq_true.mp hall w' hwmem.1
      rw [hwmem.2] at this
      cases this
    · rw [hw] at hw2
      have e2 : w' = w2 := Option.some.inj hw2
      subst e2
      have dpw := dpv H5 (s4.trans s5) w' (List.mem_append_right _ hodd)
      refine ⟨_, .tuple [.str "BadName", dOf pl w'], rfl, .tup (SqT.of hp5) (.cons (.str _) (.cons dpw .nil)), rk.sh, rk.nd, rk.dp, rk.ln, ?_⟩
      refine ⟨_, rfl, _, .tuple [.str "BadName", dOf pl w'], rfl, .tup (SqT.of (s5 _ _ upd_same)) (.cons (.str _) (.cons dpw .nil)), rk.sh, rk.nd, rk.dp, rk.ln, rfl, ?_⟩
      rw [decide_eq_true rfl]
      exact kfin H5 (s4.trans s5)
end
end K2

set_option Elab.async false
set_option linter.all false
set_option maxRecDepth 100000
set_option maxHeartbeats 4000000
namespace LF
open PySem PySem.Spec PyProof.Rows L2
structure DefG (P : Program) (w : World) (K : PySem.W.Frag) (mg : Str → Option Value) (base : Heap) (x : Str) (k : Nat) (f : Addr) (fd : FuncData) (ps : List Str) (sp : Sp) : Prop where
  F : FnG P w K mg base CX0 k f fd ps sp
  g : mg x = some (.ref f)
  kp : PySem.W.keepIn K (.ref f) = true
  b : Binds K fd ps []
theorem pe_callDG {X : Cx} {x : Str} {k : Nat} {f : Addr} {fd : FuncData} {ps : List Str} {sp : Sp} {p pos : Pos} {e : Expr} {es : List Expr} {t : TA}
    (D : DefG X.prog X.w X.K X.mg X.base x k f fd ps sp) (gd : X.A.guards = some []) (hr : Room k X.A) (ha : PA X (e :: es) t) (hg : Gl X x := by rfl)
    (hdb : (x == ("__debug__" : Str)) = false := by decide)
    (he : starEach (e :: es) X.env = (false, eval e X.env) :: starEach es X.env := by rfl) (hpl : (backTo pos (starEach es X.env)).any (·.1) = false := by rfl) :
    PE X (.Call (.Name x p) (e :: es) [] pos) (fun σ H Q => t σ H fun vs H1 => sp vs H1 Q E0) := pe_callG D.F gd hr hg D.g D.kp D.b pass0 ha hdb he hpl
theorem seq_keep_new {K : PySem.W.Frag} {H H' : Hp} {a b : Addr} {xs : List V} (h : SqL K H a xs) (hb : H b = none) (k : Keep b H H') : SqL K H' a xs := by
  rcases h with (h | ⟨o, h⟩) | h
  · exact Or.inl (Or.inl (k _ _ (ne_of_none h hb) h))
  · exact Or.inl (Or.inr ⟨o, k _ _ (ne_of_none h hb) h⟩)
  · exact Or.inr h
def spLaw (K : PySem.W.Frag) : Sp := fun vs H Q _ => ∃ (a : Addr) (ns : List Int), vs = [.ref a] ∧ SqL K H a (ns.map V.int) ∧ ns.length ≤ 63 ∧ ∀ H', Q (.bl true) H'
end LF
namespace K2
open PySem PySem.Spec PyProof.Rows L2 LF
abbrev s_law : Stmt := topS 26
theorem sc_law : FnScope ["_law_script", "_law_at", "_law_bag_here", "_law_letters", "_law_turn"] ["_law_script"] (defScope s_law) := ⟨rfl, rfl, rfl, by decide +kernel, rfl, by decide +kernel, by decide +kernel⟩
theorem cut_zz {r : Int} (h0 : 0 ≤ r) (h1 : r < 3) : ∃ zs : List Str, cutV [.str "z", .str "zz"] none (some r) = zs.map V.str ∧ (∀ s ∈ zs, isNm s = true) ∧ zs.length ≤ 2 := by
  have h : r = 0 ∨ r = 1 ∨ r = 2 := by omega
  have z1 : isNm "z" = true := by decide +kernel
  have z2 : isNm "zz" = true := by decide +kernel
  rcases h with rfl | rfl | rfl
  · exact ⟨[], rfl, fun _ h => (nomatch h), by decide⟩
  · exact ⟨["z"], rfl, fun s h => by rw [List.mem_singleton.mp h]; exact z1, by show 1 ≤ 2; decide⟩
  · exact ⟨["z", "zz"], rfl, fun s h => by
      rcases List.mem_cons.mp h with rfl | h
      · exact z1
      · rw [List.mem_singleton.mp h]; exact z2, by show 2 ≤ 2; decide⟩
section
variable {P : Program} {w : World} {K : PySem.W.Frag} {mg : Str → Option Value} {base : Heap} {tk1 tk2 : Tok}
theorem ok_law {f f1 f2 f3 f4 f5 f6 f7 : Addr} {fd fd1 fd2 fd3 fd4 fd5 fd6 fd7 : FuncData} (F : Fun K "law" "law" s_law f fd) (T : Txt K mg tk1 tk2)
    (d_bag : DefAt P w K mg base "_law_bag" 1 f1 fd1 ["_law_script", "_law_at"] (spBag K)) (d_take : DefAt P w K mg base "_law_take" 1 f2 fd2 ["_law_bag_here", "_law_many"] spTake)
    (d_words : DefAt P w K mg base "_law_words" 3 f3 fd3 ["_law_bag_here", "_law_many"] spWords)
    (d_lpath : DefAt P w K mg base "_law_path" 3 f4 fd4 ["_law_bag_here", "_law_letters", "_law_most"] spLPath)
    (d_made_right : DefG P w K mg base "_law_made_right" 7 f5 fd5 ["_law_bag_here", "_law_letters"] spRight)
    (d_path_right : DefG P w K mg base "_law_path_right" 5 f6 fd6 ["_law_path_here"] spPR)
    (d_order_right : DefAt P w K mg base "_law_order_right" 6 f7 fd7 ["_law_bag_here", "_law_letters"] spRight) : FnG P w K mg base CX0 8 f fd ["_law_script"] (spLaw K) := by
  refine fnG_of F sc_law (fun vs H Q E h => ?_) (fun cdv A outer s H vs Q E gd hr h => ?_)
  · obtain ⟨a, ns, rfl, _⟩ := h
    rfl
  refine ⟨_, (pss_cons (ps_for (passes_of rfl) rfl (pi_range1 (by rfl) T.n_range (pa_cons (pe_callB (call_max2 rfl) (by rfl) T.n_max (by decide +kernel) (pa_cons pe_int (pa_cons (pe_callB (call_min2 rfl) (by rfl) T.n_min (by decide +kernel) (pa_cons pe_int (pa_cons (pe_callB call_len_seq (by rfl) T.n_len (by decide +kernel) (pa_cons (pv 0) pa_nil)) pa_nil))) pa_nil))) pa_nil)) (pg_name (i := 1) sc_law.nd rfl (Or.inl rfl)) (pss_cons (ps_set (i := 2) sc_law.nd rfl (Or.inl rfl) (pe_callD d_bag (hr.mono (by decide)) (pa_cons (pv 0) (pa_cons (pv 1) pa_nil))))
    (pss_cons (ps_set (i := 3) sc_law.nd rfl (Or.inl rfl) (pe_op op_cat (pe_callD d_words (hr.mono (by decide)) (pa_cons (pv 2) (pa_cons pe_int pa_nil))) (pe_slice sl_list (pe_lst (pa_cons pe_str (pa_cons pe_str pa_nil))) po_none (po_some (pe_callD d_take (hr.mono (by decide)) (pa_cons (pv 2) (pa_cons pe_int pa_nil)))))))
    (pss_one (ps_for (passes_of rfl) rfl (pi_range1 (by rfl) T.n_range (pa_cons pe_int pa_nil)) (pg_name (i := 4) sc_law.nd rfl (Or.inl rfl)) (pss_cons (ps_if (PW.pt (pw_or (pt_not (pt_val (pe_callDG d_made_right gd (hr.mono (by decide)) (pa_cons (pv 2) (pa_cons (pv 3) pa_nil))))) (pw_or1 (pt_not (pt_val (pe_callDG d_path_right gd (hr.mono (by decide)) (pa_cons (pe_callD d_lpath (hr.mono (by decide)) (pa_cons (pv 2) (pa_cons (pv 3) (pa_cons pe_int pa_nil)))) pa_nil))))))) (pss_one (ps_ret pe_bl)) pss_nil)
    (pss_one (ps_if (pt_not (pt_val (pe_callD d_order_right (hr.mono (by decide)) (pa_cons (pv 2) (pa_cons (pv 3) pa_nil))))) (pss_one (ps_ret pe_bl)) pss_nil))))))))
    (pss_one (ps_ret pe_bl))), ?_⟩
  obtain ⟨a, ns, rfl, hS, hlen, hq⟩ := h
  refine ⟨_, rfl, a, _, rfl, Or.inl hS, _, _, rfl, _, _, rfl, ?_⟩
  rw [List.length_map]
  have hm : ∃ m : Int, (if (if (ns.length : Int) < 5 then (ns.length : Int) else 5) > 2 then (if (ns.length : Int) < 5 then (ns.length : Int) else 5) else 2) = m ∧ 0 ≤ m ∧ m ≤ 5 := by
    refine ⟨_, rfl, ?_⟩
    split <;> split <;> omega
  obtain ⟨m, em, m0, m5⟩ := hm
  refine ⟨m, by rw [← em], by omega, by omega, for_range (lo := 0) (fun i σ H' => ∃ v1 v2 v3 v4, σ = [some (.ref a), v1, v2, v3, v4] ∧ SqL K H' a (ns.map V.int)) ⟨_, _, _, _, rfl, hS⟩ ?_ ?_⟩
  · rintro i σ H1 hi ⟨v1, v2, v3, v4, rfl, hS1⟩
    refine ⟨_, rfl, _, rfl, a, _, ns, rfl, hS1, by omega, fun H2 b s2 hbn hb => ?_⟩
    -- the letters
    refine ⟨_, rfl, b, 4, rfl, hb, by omega, by omega, fun H3 l1 ss k3 b3 nl1 hl1 hss hsn => ?_⟩
    refine ⟨(by show 2 ≤ sizeLine; decide), fun l2 hl2 => ?_⟩
    refine ⟨_, rfl, b, 3, rfl, b3.same (same_new hl2), by omega, by omega, fun H4 r k4 b4 r0 r1 => ?_⟩
    have nl2b : l2 ≠ b := b3.ne hl2
    refine ⟨r, rfl, l2, _, rfl, SqL.of (k4 _ _ nl2b upd_same), fun l3 hl3 => ?_⟩
    obtain ⟨zs, ez, hzs, hz2⟩ := cut_zz r0 r1
    rw [ez]
    have nl1b : l1 ≠ b := hb.ne nl1
    have hl1' : H4 l1 = some (.lst (ss.map V.str)) := k4 _ _ nl1b (same_new hl2 _ _ hl1)
    refine ⟨l1, l3, _, _, rfl, rfl, same_new hl3 _ _ hl1', upd_same, ?_, fun l hl => ?_⟩
    · rw [List.length_map, List.length_map]
      exact Nat.le_trans (show ss.length + zs.length ≤ 100 by omega) (by decide)
    have b5 := (b4.same (same_new (o := .lst (zs.map V.str)) hl3))
    have nlb : l ≠ b := b5.ne hl
    rw [← List.map_append]
    have hLn : ∀ s ∈ ss ++ zs, isNm s = true := fun s hs => (List.mem_append.mp hs).elim (hsn s) (hzs s)
    have hLl : 1 ≤ (ss ++ zs).length ∧ (ss ++ zs).length ≤ 1000 := by rw [List.length_append]; omega
    have kk : Keep b H2 (upd (upd H4 l3 (.lst (zs.map V.str))) l (.lst ((ss ++ zs).map V.str))) :=
      (((k3.trans (Same.keep (same_new hl2))).trans k4).trans (Same.keep (same_new hl3))).trans (Same.keep (same_new hl))
    have b6 := b5.same (same_new (o := .lst ((ss ++ zs).map V.str)) hl)
    have hl6 : (upd (upd H4 l3 (.lst (zs.map V.str))) l (.lst ((ss ++ zs).map V.str))) l = some (.lst ((ss ++ zs).map V.str)) := upd_same
    generalize (upd (upd H4 l3 (.lst (zs.map V.str))) l (.lst ((ss ++ zs).map V.str))) = H5 at kk b6 hl6
    -- the turns
    refine ⟨6, rfl, by decide, by decide, for_range (lo := 0) (fun j σ H' => ∃ v, σ = [some (.ref a), some (.int (0 + (i : Int))), some (.ref b), some (.ref l), v] ∧ Keep b H5 H' ∧ BagAt H' b) ⟨_, rfl, Keep.refl b H5, b6⟩ ?_ ?_⟩
    · rintro j σ H6 hj ⟨v, rfl, k6, b7⟩
      refine ⟨_, rfl, _, rfl, b, l, ss ++ zs, rfl, b7, nlb, k6 _ _ nlb hl6, hLl.1, hLl.2, hLn, fun H7 k7 b8 => ?_⟩
      refine ⟨_, rfl, iteF ?_⟩
      refine ⟨_, rfl, _, rfl, b, l, ss ++ zs, 6, rfl, b8, nlb, (k6.trans k7) _ _ nlb hl6, hLl.1, hLl.2, hLn, by omega, by omega, fun H8 ns' k8 b9 hns' hn6 => ?_⟩
      refine ⟨_, rfl, ⟨ns', hns', by omega, rfl⟩, fun H9 s9 => ?_⟩
      refine ⟨_, rfl, iteF ?_⟩
      have b10 := b9.same s9
      have k9 : Keep b H5 H9 := ((k6.trans k7).trans k8).trans (Same.keep s9)
      refine ⟨_, rfl, _, rfl, b, l, ss ++ zs, rfl, b10, nlb, k9 _ _ nlb hl6, hLl.1, hLl.2, hLn, fun H10 k10 b11 => ?_⟩
      exact ⟨_, rfl, iteF ⟨_, rfl, k9.trans k10, b11⟩⟩
    · rintro σ H6 ⟨v, rfl, k6, b7⟩
      refine ⟨_, _, _, _, rfl, ?_⟩
      exact seq_keep_new hS1 hbn ((Same.keep s2).trans (kk.trans k6))
  · rintro σ H1 ⟨v1, v2, v3, v4, rfl, _⟩
    exact hq H1
end
end K2

set_option Elab.async false
set_option linter.all false
set_option maxRecDepth 100000
set_option maxHeartbeats 4000000
namespace LF
open PySem PySem.Spec PyProof.Rows L2
/-- the heap at the law's entry: what a promise that is asked where no repr is under way gives -/
theorem lawG_call {P : Program} {w : World} {K : PySem.W.Frag} {mg mb : Str → Option Value} {k : Nat} {fa a : Addr} {fd : FuncData} {x : Str} {sp : Sp} {s1 : Shared} {us : List Value} {ns : List Int}
    (KX : K.In s1.heap) (hns : s1.heap.Ns mainGlobals mg) (hbn : s1.heap.Ns builtinsNs mb) (hbb : ∀ y : Str, y ≠ "__name__" → mb y = bootBuiltins y) (hlim : s1.heap.NoLimit) (hgens : s1.gens = #[])
    (ha : s1.heap.get? a = some { cls := .type "list", data := .seq us.toArray }) (hi : IntsAre us ns) (hl : ns.length ≤ sizeLine) (hr : Room k callerA)
    (F : ∀ base : Heap, K.In base → base.Ns mainGlobals mg → FnG P w K mg base CX0 k fa fd [x] sp)
    (hbind : ∀ (s : Shared) (u : Value), BindsTo s fd ⟨[u], []⟩ [(x, u)])
    (hsp : ∀ H : Hp, SqL K H a (ns.map V.int) → sp [.ref a] H (fun v _ => v = .bl true) (fun _ _ _ => False)) :
    codeAny (model P w) callerA (.call (.ref fa) ⟨[.ref a], []⟩)
      (fun r s' => r = .ok (.ret (.bool true)) ∧ OldK s1.heap s'.heap ∧ s'.os = s1.os ∧ AllBare s'.gens) s1 := by
  have hlv := hi.length
  -- from any abstract heap that tracks at most the script
  have main : ∀ H : Hp, (∀ b, H b = none ∨ ∃ o xs, H b = some (.frz o (.lst xs))) → SqL K H a (ns.map V.int) → HOk P w H s1.heap → (∀ b, H b ≠ none → b = a) → (H a ≠ none → K.lookup a = none) →
      codeAny (model P w) callerA (.call (.ref fa) ⟨[.ref a], []⟩)
        (fun r s' => r = .ok (.ret (.bool true)) ∧ OldK s1.heap s'.heap ∧ s'.os = s1.os ∧ AllBare s'.gens) s1 := by
    intro H only hS hok onlyA notK
    have dictFree : ∀ {b : Addr} {o : Obj} {es : Array DictEntry} {ep : Nat}, s1.heap.get? b = some o → o.data = .dict es ep → H b = none := by
      intro b o es ep e d
      cases q : H b with
      | none => rfl
      | some u =>
        have hb := onlyA b (by rw [q]; simp)
        rw [hb, ha] at e
        have e' := Option.some.inj e
        rw [← e'] at d
        cases d
    have nsH : ∀ {b : Addr} {m : Str → Option Value}, s1.heap.Ns b m → (hidT s1.heap H).Ns b m := by
      rintro b m ⟨o, es, ep, e, d, rest⟩
      exact ⟨o, es, ep, hidT_get e (dictFree e d), d, rest⟩
    have KH : K.In (hidT s1.heap H) := by
      intro b o e
      refine hidT_get (KX b o e) ?_
      cases q : H b with
      | none => rfl
      | some u =>
        have hb := onlyA b (by rw [q]; simp)
        subst hb
        have := notK (by rw [q]; simp)
        rw [this] at e
        cases e
    have lim2 : (hidT s1.heap H).NoLimit := by
      obtain ⟨mc, h1, h2⟩ := hlim
      exact ⟨mc, nsH h1, h2⟩
    have hM : Mod K mg (hidT s1.heap H) := ⟨KH, nsH hns, ⟨mb, nsH hbn, hbb⟩, lim2⟩
    have nof : ∀ b : Addr, b ∈ frs ([] : List Env) → False := fun b hb => nomatch (show b ∈ ([] : List Addr) from hb)
    have e0 : Env0 P w K mg (hidT s1.heap H) callerA [] s1 H :=
      ⟨rfl, hM, fun b o e => of_hidT e, Nat.le_of_eq (hidT_size _ _), trivial, fun b hb => (nof b hb).elim, hok, .of_eq hgens⟩
    have run := (F _ KH (nsH hns)).go callerA [] s1 H ⟨[.ref a], []⟩ [.ref a] [.ref a] _ _ rfl hr e0 (hbind s1 (.ref a)) (.cons rfl .nil) (hsp H hS)
    refine codeAny_mono run ?_
    intro r s' h
    cases r with
    | error e => exact h.elim
    | ok fl =>
      cases fl with
      | next => exact h.elim
      | brk => exact h.elim
      | cont => exact h.elim
      | ret u =>
        obtain ⟨v, H', hos, hbare, un, hok', hv, hq⟩ := h
        have hq' : v = V.bl true := hq
        subst hq'
        have hu : u = Value.bool true := hv
        subst hu
        refine ⟨rfl, OldK.of_keep ?_, hos, hbare⟩
        intro b o e
        rcases only b with q | ⟨ob, xs, q⟩
        · exact un.keep b o e q (fun z => nof b z) (fun z => nomatch z)
        · have g1 := (hok b _ q).1
          have g2 := (hok' b _ (un.frzs b ob _ q)).1
          rw [e] at g1
          rw [Option.some.inj g1]
          exact g2
  have rv := vals_ints hi
  cases hk : K.lookup a with
  | some o =>
    have e := KX a o hk
    rw [ha] at e
    have e' := Option.some.inj e
    subst e'
    refine main (fun _ => none) (fun _ => Or.inl rfl) (Or.inr ⟨_, us.toArray, _, hk, rfl, rfl, rfl, ?_, ?_⟩) (fun b u z => nomatch (show (none : Option HO) = some u from z)) (fun b z => absurd rfl z) (fun z => absurd rfl z)
    · rw [List.size_toArray, hlv]; exact hl
    · simpa using rv
  | none =>
    let O : Obj := { cls := .type "list", data := .seq us.toArray }
    have at1 : ∀ b : Addr, b = a → (fun c : Addr => if c = a then some (HO.frz O (.lst (ns.map V.int))) else none) b = some (HO.frz O (.lst (ns.map V.int))) := fun b hb => if_pos hb
    have at0 : ∀ b : Addr, b ≠ a → (fun c : Addr => if c = a then some (HO.frz O (.lst (ns.map V.int))) else none) b = none := fun b hb => if_neg hb
    refine main (fun c => if c = a then some (HO.frz O (.lst (ns.map V.int))) else none) ?_ (Or.inl (Or.inr ⟨O, at1 a rfl⟩)) ?_ ?_ (fun _ => hk)
    · intro b
      by_cases hb : b = a
      · exact Or.inr ⟨O, _, at1 b hb⟩
      · exact Or.inl (at0 b hb)
    · intro b u z
      by_cases hb : b = a
      · have z' := (at1 b hb).symm.trans z
        have z2 := Option.some.inj z'
        subst z2
        subst hb
        exact ⟨ha, by rw [List.length_map]; exact hl, us, _, rv, ha⟩
      · have z' := (at0 b hb).symm.trans z
        cases z'
    · intro b z
      by_cases hb : b = a
      · exact hb
      · exact absurd (at0 b hb) z
theorem walkG {l : PySem.W.OpenLaw} {n k : Nat} {q : Program} {loose : List Str} {XP : (Str → Option Value) → Heap → Prop} {YP : World → Heap → Prop} {d : DefRec} {K : Params → PySem.W.Frag} {sp : PySem.W.Frag → Sp} {x : Str}
    (hn : l.most = some n) (hn2 : n ≤ sizeLine) (hdf : d.params.defaults = []) (hr : Room k callerA) (hY : ∀ (w : World) (h : Heap), YP w h → (K w.params).In h)
    (F : ∀ (w : World) (mg : Str → Option Value) (fa : Addr) (h : Heap), (K w.params).In h → h.Ns mainGlobals mg → mg d.name = some (.ref fa) →
      ∃ fd : FuncData, (∀ (s : Shared) (u : Value), BindsTo s fd ⟨[u], []⟩ [(x, u)]) ∧
        ∀ base : Heap, (K w.params).In base → base.Ns mainGlobals mg → FnG l.prog w (K w.params) mg base CX0 k fa fd [x] (sp (K w.params)))
    (hsp : ∀ (K : PySem.W.Frag) (H : Hp) (a : Addr) (ns : List Int), ns.length ≤ n → SqL K H a (ns.map V.int) → sp K [.ref a] H (fun v _ => v = .bl true) (fun _ _ _ => False)) :
    PySem.W.WalkO q loose XP YP l.row.toRowW d [] (fun f vs => PySem.call f vs) := by
  refine Att.attach_call hn hdf ?_
  intro w s₀ s₁ mg mb fa o pm cd doc a us ns G Y ho hd hcd hmg hobj hints hlen hgens
  have KX := hY w _ Y
  obtain ⟨fd, hb, hF⟩ := F w mg fa _ KX G.T.g hmg
  exact lawG_call KX G.T.g G.T.b G.T.builtins G.T.nolimit hgens hobj hints (Nat.le_trans hlen hn2) hr hF hb (fun H hS => hsp _ H a ns hlen hS)
end LF

set_option Elab.async false
set_option linter.all false
set_option maxRecDepth 100000
set_option maxHeartbeats 4000000
namespace K2
open PySem PySem.Spec PyProof.Rows L2 LF
theorem exm_self {K : PySem.W.Frag} {S : Addr} (h1 : PySem.W.subIn K (.ref S) (.type "BaseException") = some true) (h2 : PySem.W.isClsIn K S = true) (h3 : PySem.W.typeIn K (.ref S) = some (.type "type")) (h4 : PySem.W.subIn K (.ref S) (.ref S) = some true) :
    PySem.W.exmOne K (.ref S) (.ref S) = some true := by
  have e1 : (PySem.W.subIn K (.ref S) (.type "BaseException") == some true) = true := by rw [h1] <;> rfl
  have e2 : ((PySem.W.clsIn K S).isSome && PySem.W.typeIn K (.ref S) == some (.type "type")) = true := by
    have h2' : (PySem.W.clsIn K S).isSome = true := h2
    rw [h2', h3] <;> rfl
  show (if (PySem.W.subIn K (.ref S) (.type "BaseException") == some true) = true then (if ((PySem.W.clsIn K S).isSome && PySem.W.typeIn K (.ref S) == some (.type "type")) = true then PySem.W.subIn K (.ref S) (.ref S) else none) else none) = some true
  rw [if_pos e1, if_pos e2]
  exact h4
theorem all_mk {P : Program} {w : World} {K : PySem.W.Frag} {h : Heap} {mg : Str → Option Value} {fa CN CP CE f0 f1 f2 f3 f4 f5 f6 f7 f8 f9 f10 f11 f12 f13 f14 f15 f16 f17 f18 f19 f20 : Addr} (X : K.In h) (G : h.Ns mainGlobals mg) (hfa : mg "law" = some (.ref fa))
    {nm q : Str} {N : Addr} {bs : List Value} {sn : List Str} {sub : List Value} {ab : Bool} {col : Option Bool} {dd : Option Addr} {m0 m1 m2 m3 m5 : Option Value} {tk2 : Tok}
    {od0 an0 od1 an1 od2 an2 od3 an3 od4 an4 od5 an5 od6 an6 od7 an7 od8 an8 od9 an9 od10 an10 od11 an11 od12 an12 od13 an13 od14 an14 od15 an15 od16 an16 od17 an17 od18 an18 od19 an19 od20 an20 : Option Addr} {sl0 sl1 sl2 sl3 sl4 sl5 sl6 sl7 sl8 sl9 sl10 sl11 sl12 sl13 sl14 sl15 sl16 sl17 sl18 sl19 sl20 : Array (Option Value)} {oc0 dc0 pm0 cd0 ct0 oc1 kV1 dc1 pm1 cd1 ct1 oc2 kV2 dc2 pm2 cd2 ct2 oc3 kV3 dc3 pm3 cd3 ct3 oc4 kV4 dc4 pm4 cd4 ct4 oc5 kV5 dc5 pm5 cd5 ct5 oc6 kV6 dc6 pm6 cd6 ct6 oc7 kV7 dc7 pm7 cd7 ct7 oc8 kV8 dc8 pm8 cd8 ct8 oc9 kV9 dc9 pm9 cd9 ct9 oc10 kV10 dc10 pm10 cd10 ct10 oc11 kV11 dc11 pm11 cd11 ct11 oc12 kV12 dc12 pm12 cd12 ct12 oc13 kV13 dc13 pm13 cd13 ct13 oc14 kV14 dc14 pm14 cd14 ct14 oc15 kV15 dc15 pm15 cd15 ct15 oc16 kV16 dc16 pm16 cd16 ct16 oc17 kV17 dc17 pm17 cd17 ct17 oc18 kV18 dc18 pm18 cd18 ct18 oc19 kV19 dc19 pm19 cd19 ct19 oc20 kV20 dc20 pm20 cd20 ct20 : Value}
    (aN : PySem.W.nsIn K mainGlobals "BadName" = some (some (.ref CN)))
    (aP : PySem.W.nsIn K mainGlobals "BadPath" = some (some (.ref CP)))
    (aE : PySem.W.nsIn K mainGlobals "BadEntry" = some (some (.ref CE)))
    (xN : K.lookup CN = some (excClassObj nm q CN N bs [.type "ValueError", .type "Exception", .type "BaseException", .type "object"] true sn sub ab col dd m0 m1 m2 m3 m5 "ValueError.__new__"))
    (sa : PySem.W.findIn K (.ref CN) "__setattr__" = some (some (.builtin "object.__setattr__")))
    (ga : PySem.W.findIn K (.ref CN) "__getattribute__" = some (some (.builtin "BaseException.__getattribute__")))
    (gg : PySem.W.findIn K (.ref CN) "__getattr__" = some none)
    (nb : PySem.W.findIn K (.ref CN) "name" = some none)
    (a0 : PySem.W.findIn K (.ref CN) "__init__" = some (some (.ref f0)))
    (t0 : PySem.W.typeIn K (.ref f0) = some (.type "function"))
    (l0 : K.lookup f0 = some ⟨oc0, od0, .func (PySem.W.fnOf "__init__" "BadName.__init__" (PySem.BadNameX.iA ⟨8, 17, 8, 21⟩ ⟨8, 23, 8, 27⟩) (PySem.BadNameX.iB ⟨9, 8, 9, 12⟩ ⟨9, 8, 9, 17⟩ ⟨9, 20, 9, 24⟩ ⟨9, 8, 9, 24⟩) PySem.BadNameX.iS .none .none dc0 pm0 an0 cd0 ct0), sl0⟩)
    (c0 : PySem.W.codeIn K cd0 "BadName.__init__" = true)
    (kN : PySem.W.keepIn K (.ref CN) = true)
    (eN : PySem.W.subIn K (.ref CN) (.type "BaseException") = some true)
    (tN : PySem.W.typeIn K (.ref CN) = some (.type "type"))
    (hN : PySem.W.hasDictIn K CN = true)
    (iN : PySem.W.isClsIn K CN = true)
    (sN : PySem.W.subIn K (.ref CN) (.ref CN) = some true)
    (haN : PySem.W.findIn K (.ref CN) "__class__" = some (some (.builtin "object.__class__")))
    (hnN : PySem.W.specialIn K (.builtin "object.__class__") "__get__" = some (some (.builtin "getset_descriptor.__get__")))
    (htN : PySem.W.takesIn K (.builtin "object.__class__") = some true)
    (hmN : PySem.W.mroIn K CN (.type "object") = some true)
    (kVE : PySem.W.kitOne K (.ref CN) (.type "ValueError") = some true)
    (kPE : PySem.W.kitAny K (.ref CN) [.ref CP, .ref CE] = some false)
    (zVE : PySem.W.nsIn K mainGlobals "ValueError" = some none)
    (zLon : PySem.W.nsIn K mainGlobals "LONGEST_NAME" = some (some (.int 8 tk2)))
    (z_isinstance : PySem.W.nsIn K mainGlobals "isinstance" = some none)
    (z_str : PySem.W.nsIn K mainGlobals "str" = some none)
    (z_len : PySem.W.nsIn K mainGlobals "len" = some none)
    (z_all : PySem.W.nsIn K mainGlobals "all" = some none)
    (z_tuple : PySem.W.nsIn K mainGlobals "tuple" = some none)
    (z_list : PySem.W.nsIn K mainGlobals "list" = some none)
    (z_sorted : PySem.W.nsIn K mainGlobals "sorted" = some none)
    (z_range : PySem.W.nsIn K mainGlobals "range" = some none)
    (z_abs : PySem.W.nsIn K mainGlobals "abs" = some none)
    (z_int : PySem.W.nsIn K mainGlobals "int" = some none)
    (z_repr : PySem.W.nsIn K mainGlobals "repr" = some none)
    (z_max : PySem.W.nsIn K mainGlobals "max" = some none)
    (z_min : PySem.W.nsIn K mainGlobals "min" = some none)
    (a1 : PySem.W.nsIn K mainGlobals "is_name" = some (some (.ref f1)))
    (l1 : K.lookup f1 = some ⟨oc1, od1, .func (PySem.W.fnOf "is_name" "is_name" (defArgs s_is_name) (defBody s_is_name) (defScope s_is_name) .none kV1 dc1 pm1 an1 cd1 ct1), sl1⟩)
    (c1 : PySem.W.codeIn K cd1 "is_name" = true)
    (k1 : PySem.W.keepIn K (.ref f1) = true)
    (a2 : PySem.W.nsIn K mainGlobals "is_path" = some (some (.ref f2)))
    (l2 : K.lookup f2 = some ⟨oc2, od2, .func (PySem.W.fnOf "is_path" "is_path" (defArgs s_is_path) (defBody s_is_path) (defScope s_is_path) .none kV2 dc2 pm2 an2 cd2 ct2), sl2⟩)
    (c2 : PySem.W.codeIn K cd2 "is_path" = true)
    (k2 : PySem.W.keepIn K (.ref f2) = true)
    (a3 : PySem.W.nsIn K mainGlobals "check_path" = some (some (.ref f3)))
    (l3 : K.lookup f3 = some ⟨oc3, od3, .func (PySem.W.fnOf "check_path" "check_path" (defArgs s_check_path) (defBody s_check_path) (defScope s_check_path) .none kV3 dc3 pm3 an3 cd3 ct3), sl3⟩)
    (c3 : PySem.W.codeIn K cd3 "check_path" = true)
    (k3 : PySem.W.keepIn K (.ref f3) = true)
    (a4 : PySem.W.nsIn K mainGlobals "names_of" = some (some (.ref f4)))
    (l4 : K.lookup f4 = some ⟨oc4, od4, .func (PySem.W.fnOf "names_of" "names_of" (defArgs s_names_of) (defBody s_names_of) (defScope s_names_of) .none kV4 dc4 pm4 an4 cd4 ct4), sl4⟩)
    (c4 : PySem.W.codeIn K cd4 "names_of" = true)
    (k4 : PySem.W.keepIn K (.ref f4) = true)
    (a5 : PySem.W.nsIn K mainGlobals "path_of" = some (some (.ref f5)))
    (l5 : K.lookup f5 = some ⟨oc5, od5, .func (PySem.W.fnOf "path_of" "path_of" (defArgs s_path_of) (defBody s_path_of) (defScope s_path_of) .none kV5 dc5 pm5 an5 cd5 ct5), sl5⟩)
    (c5 : PySem.W.codeIn K cd5 "path_of" = true)
    (k5 : PySem.W.keepIn K (.ref f5) = true)
    (a6 : PySem.W.nsIn K mainGlobals "parent" = some (some (.ref f6)))
    (l6 : K.lookup f6 = some ⟨oc6, od6, .func (PySem.W.fnOf "parent" "parent" (defArgs s_parent) (defBody s_parent) (defScope s_parent) .none kV6 dc6 pm6 an6 cd6 ct6), sl6⟩)
    (c6 : PySem.W.codeIn K cd6 "parent" = true)
    (k6 : PySem.W.keepIn K (.ref f6) = true)
    (a7 : PySem.W.nsIn K mainGlobals "in_order" = some (some (.ref f7)))
    (l7 : K.lookup f7 = some ⟨oc7, od7, .func (PySem.W.fnOf "in_order" "in_order" (defArgs s_in_order) (defBody s_in_order) (defScope s_in_order) .none kV7 dc7 pm7 an7 cd7 ct7), sl7⟩)
    (c7 : PySem.W.codeIn K cd7 "in_order" = true)
    (k7 : PySem.W.keepIn K (.ref f7) = true)
    (a8 : PySem.W.nsIn K mainGlobals "split_path" = some (some (.ref f8)))
    (l8 : K.lookup f8 = some ⟨oc8, od8, .func (PySem.W.fnOf "split_path" "split_path" (defArgs s_split_path) (defBody s_split_path) (defScope s_split_path) .none kV8 dc8 pm8 an8 cd8 ct8), sl8⟩)
    (c8 : PySem.W.codeIn K cd8 "split_path" = true)
    (k8 : PySem.W.keepIn K (.ref f8) = true)
    (a9 : PySem.W.nsIn K mainGlobals "order_key" = some (some (.ref f9)))
    (l9 : K.lookup f9 = some ⟨oc9, od9, .func (PySem.W.fnOf "order_key" "order_key" (defArgs s_order_key) (defBody s_order_key) (defScope s_order_key) .none kV9 dc9 pm9 an9 cd9 ct9), sl9⟩)
    (c9 : PySem.W.codeIn K cd9 "order_key" = true)
    (k9 : PySem.W.keepIn K (.ref f9) = true)
    (a10 : PySem.W.nsIn K mainGlobals "_law_bag" = some (some (.ref f10)))
    (l10 : K.lookup f10 = some ⟨oc10, od10, .func (PySem.W.fnOf "_law_bag" "_law_bag" (defArgs s_bag) (defBody s_bag) (defScope s_bag) .none kV10 dc10 pm10 an10 cd10 ct10), sl10⟩)
    (c10 : PySem.W.codeIn K cd10 "_law_bag" = true)
    (k10 : PySem.W.keepIn K (.ref f10) = true)
    (a11 : PySem.W.nsIn K mainGlobals "_law_take" = some (some (.ref f11)))
    (l11 : K.lookup f11 = some ⟨oc11, od11, .func (PySem.W.fnOf "_law_take" "_law_take" (defArgs s_take) (defBody s_take) (defScope s_take) .none kV11 dc11 pm11 an11 cd11 ct11), sl11⟩)
    (c11 : PySem.W.codeIn K cd11 "_law_take" = true)
    (k11 : PySem.W.keepIn K (.ref f11) = true)
    (a12 : PySem.W.nsIn K mainGlobals "_law_pick" = some (some (.ref f12)))
    (l12 : K.lookup f12 = some ⟨oc12, od12, .func (PySem.W.fnOf "_law_pick" "_law_pick" (defArgs s_pick) (defBody s_pick) (defScope s_pick) .none kV12 dc12 pm12 an12 cd12 ct12), sl12⟩)
    (c12 : PySem.W.codeIn K cd12 "_law_pick" = true)
    (k12 : PySem.W.keepIn K (.ref f12) = true)
    (a13 : PySem.W.nsIn K mainGlobals "_law_words" = some (some (.ref f13)))
    (l13 : K.lookup f13 = some ⟨oc13, od13, .func (PySem.W.fnOf "_law_words" "_law_words" (defArgs s__law_words) (defBody s__law_words) (defScope s__law_words) .none kV13 dc13 pm13 an13 cd13 ct13), sl13⟩)
    (c13 : PySem.W.codeIn K cd13 "_law_words" = true)
    (k13 : PySem.W.keepIn K (.ref f13) = true)
    (a14 : PySem.W.nsIn K mainGlobals "_law_path" = some (some (.ref f14)))
    (l14 : K.lookup f14 = some ⟨oc14, od14, .func (PySem.W.fnOf "_law_path" "_law_path" (defArgs s_lpath) (defBody s_lpath) (defScope s_lpath) .none kV14 dc14 pm14 an14 cd14 ct14), sl14⟩)
    (c14 : PySem.W.codeIn K cd14 "_law_path" = true)
    (k14 : PySem.W.keepIn K (.ref f14) = true)
    (a15 : PySem.W.nsIn K mainGlobals "_law_made" = some (some (.ref f15)))
    (l15 : K.lookup f15 = some ⟨oc15, od15, .func (PySem.W.fnOf "_law_made" "_law_made" (defArgs s_made) (defBody s_made) (defScope s_made) .none kV15 dc15 pm15 an15 cd15 ct15), sl15⟩)
    (c15 : PySem.W.codeIn K cd15 "_law_made" = true)
    (k15 : PySem.W.keepIn K (.ref f15) = true)
    (a16 : PySem.W.nsIn K mainGlobals "_law_made_right" = some (some (.ref f16)))
    (l16 : K.lookup f16 = some ⟨oc16, od16, .func (PySem.W.fnOf "_law_made_right" "_law_made_right" (defArgs s__law_made_right) (defBody s__law_made_right) (defScope s__law_made_right) .none kV16 dc16 pm16 an16 cd16 ct16), sl16⟩)
    (c16 : PySem.W.codeIn K cd16 "_law_made_right" = true)
    (k16 : PySem.W.keepIn K (.ref f16) = true)
    (a17 : PySem.W.nsIn K mainGlobals "_law_path_right" = some (some (.ref f17)))
    (l17 : K.lookup f17 = some ⟨oc17, od17, .func (PySem.W.fnOf "_law_path_right" "_law_path_right" (defArgs s__law_path_right) (defBody s__law_path_right) (defScope s__law_path_right) .none kV17 dc17 pm17 an17 cd17 ct17), sl17⟩)
    (c17 : PySem.W.codeIn K cd17 "_law_path_right" = true)
    (k17 : PySem.W.keepIn K (.ref f17) = true)
    (a18 : PySem.W.nsIn K mainGlobals "_law_before" = some (some (.ref f18)))
    (l18 : K.lookup f18 = some ⟨oc18, od18, .func (PySem.W.fnOf "_law_before" "_law_before" (defArgs s__law_before) (defBody s__law_before) (defScope s__law_before) .none kV18 dc18 pm18 an18 cd18 ct18), sl18⟩)
    (c18 : PySem.W.codeIn K cd18 "_law_before" = true)
    (k18 : PySem.W.keepIn K (.ref f18) = true)
    (a19 : PySem.W.nsIn K mainGlobals "_law_order_right" = some (some (.ref f19)))
    (l19 : K.lookup f19 = some ⟨oc19, od19, .func (PySem.W.fnOf "_law_order_right" "_law_order_right" (defArgs s__law_order_right) (defBody s__law_order_right) (defScope s__law_order_right) .none kV19 dc19 pm19 an19 cd19 ct19), sl19⟩)
    (c19 : PySem.W.codeIn K cd19 "_law_order_right" = true)
    (k19 : PySem.W.keepIn K (.ref f19) = true)
    (a20 : PySem.W.nsIn K mainGlobals "law" = some (some (.ref f20)))
    (l20 : K.lookup f20 = some ⟨oc20, od20, .func (PySem.W.fnOf "law" "law" (defArgs s_law) (defBody s_law) (defScope s_law) .none kV20 dc20 pm20 an20 cd20 ct20), sl20⟩)
    (c20 : PySem.W.codeIn K cd20 "law" = true)
    (k20 : PySem.W.keepIn K (.ref f20) = true) :
    ∃ fd : FuncData, (∀ (s : Shared) (u : Value), BindsTo s fd ⟨[u], []⟩ [("_law_script", u)]) ∧ ∀ base : Heap, K.In base → base.Ns mainGlobals mg → FnG P w K mg base CX0 8 fa fd ["_law_script"] (spLaw K) := by
  have e := hfa.symm.trans (PySem.W.mg_of X G a20)
  cases e
  have low : PySem.BadNameX.NameTxt K mg CN f0 :=
    { gC := PySem.W.mg_of X G aN, cls := ⟨nm, q, N, bs, _, sn, sub, ab, col, dd, m0, m1, m2, m3, m5, xN, by decide +kernel⟩, sa := sa, ga := ga, gg := gg, noN := nb, iC := a0, tC := t0, kC := kN, exC := eN, tyC := tN, hdC := hN, te := exm_self eN iN tN sN,
      fn := ⟨_, _, _, _, _, _, _, _, _, _, _, _, _, _, l0, c0⟩ }
  have R : ErrTxt K mg CN f0 CP CE := ⟨low, ⟨ga, gg, eN, hN, haN, hnN, htN, hmN⟩, PySem.W.mg_of X G aP, PySem.W.mg_of X G aE, PySem.W.mg_none_of X G zVE, kVE, kPE⟩
  have T : Txt K mg tk2 tk2 := ⟨PySem.W.mg_of X G zLon, PySem.W.mg_none_of X G z_isinstance, PySem.W.mg_none_of X G z_str, PySem.W.mg_none_of X G z_len, PySem.W.mg_none_of X G z_all, PySem.W.mg_none_of X G z_tuple, PySem.W.mg_none_of X G z_list, PySem.W.mg_none_of X G z_sorted, PySem.W.mg_none_of X G z_range, PySem.W.mg_none_of X G z_abs, PySem.W.mg_none_of X G z_int, PySem.W.mg_none_of X G z_repr, PySem.W.mg_none_of X G z_max, PySem.W.mg_none_of X G z_min⟩
  have F1 := fun_mk (st := s_is_name) l1 c1 k1
  have b1 := F1.binds (ps := ["thing"]) fun _ _ _ _ _ _ us hl => match us, hl with | [_], _ => rfl
  have F2 := fun_mk (st := s_is_path) l2 c2 k2
  have b2 := F2.binds (ps := ["thing"]) fun _ _ _ _ _ _ us hl => match us, hl with | [_], _ => rfl
  have F3 := fun_mk (st := s_check_path) l3 c3 k3
  have b3 := F3.binds (ps := ["path"]) fun _ _ _ _ _ _ us hl => match us, hl with | [_], _ => rfl
  have F4 := fun_mk (st := s_names_of) l4 c4 k4
  have b4 := F4.binds (ps := ["path"]) fun _ _ _ _ _ _ us hl => match us, hl with | [_], _ => rfl
  have F5 := fun_mk (st := s_path_of) l5 c5 k5
  have F6 := fun_mk (st := s_parent) l6 c6 k6
  have b6 := F6.binds (ps := ["path"]) fun _ _ _ _ _ _ us hl => match us, hl with | [_], _ => rfl
  have F7 := fun_mk (st := s_in_order) l7 c7 k7
  have b7 := F7.binds (ps := ["paths"]) fun _ _ _ _ _ _ us hl => match us, hl with | [_], _ => rfl
  have F8 := fun_mk (st := s_split_path) l8 c8 k8
  have b8 := F8.binds (ps := ["path"]) fun _ _ _ _ _ _ us hl => match us, hl with | [_], _ => rfl
  have F9 := fun_mk (st := s_order_key) l9 c9 k9
  have b9 := F9.binds (ps := ["path"]) fun _ _ _ _ _ _ us hl => match us, hl with | [_], _ => rfl
  have F10 := fun_mk (st := s_bag) l10 c10 k10
  have b10 := F10.binds (ps := ["_law_script", "_law_at"]) fun _ _ _ _ _ _ us hl => match us, hl with | [_, _], _ => rfl
  have F11 := fun_mk (st := s_take) l11 c11 k11
  have b11 := F11.binds (ps := ["_law_bag_here", "_law_many"]) fun _ _ _ _ _ _ us hl => match us, hl with | [_, _], _ => rfl
  have F12 := fun_mk (st := s_pick) l12 c12 k12
  have b12 := F12.binds (ps := ["_law_bag_here", "_law_some"]) fun _ _ _ _ _ _ us hl => match us, hl with | [_, _], _ => rfl
  have F13 := fun_mk (st := s__law_words) l13 c13 k13
  have b13 := F13.binds (ps := ["_law_bag_here", "_law_many"]) fun _ _ _ _ _ _ us hl => match us, hl with | [_, _], _ => rfl
  have F14 := fun_mk (st := s_lpath) l14 c14 k14
  have b14 := F14.binds (ps := ["_law_bag_here", "_law_letters", "_law_most"]) fun _ _ _ _ _ _ us hl => match us, hl with | [_, _, _], _ => rfl
  have F15 := fun_mk (st := s_made) l15 c15 k15
  have b15 := F15.binds (ps := ["_law_values"]) fun _ _ _ _ _ _ us hl => match us, hl with | [_], _ => rfl
  have F16 := fun_mk (st := s__law_made_right) l16 c16 k16
  have b16 := F16.binds (ps := ["_law_bag_here", "_law_letters"]) fun _ _ _ _ _ _ us hl => match us, hl with | [_, _], _ => rfl
  have F17 := fun_mk (st := s__law_path_right) l17 c17 k17
  have b17 := F17.binds (ps := ["_law_path_here"]) fun _ _ _ _ _ _ us hl => match us, hl with | [_], _ => rfl
  have F18 := fun_mk (st := s__law_before) l18 c18 k18
  have b18 := F18.binds (ps := ["_law_one", "_law_other"]) fun _ _ _ _ _ _ us hl => match us, hl with | [_, _], _ => rfl
  have F19 := fun_mk (st := s__law_order_right) l19 c19 k19
  have b19 := F19.binds (ps := ["_law_bag_here", "_law_letters"]) fun _ _ _ _ _ _ us hl => match us, hl with | [_, _], _ => rfl
  have F20 := fun_mk (st := s_law) l20 c20 k20
  have b20 := F20.binds (ps := ["_law_script"]) fun _ _ _ _ _ _ us hl => match us, hl with | [_], _ => rfl
  refine ⟨_, fun s u => .of_eq (fd := PySem.W.fnOf "law" "law" (defArgs s_law) (defBody s_law) (defScope s_law) .none kV20 dc20 pm20 an20 cd20 ct20) rfl, fun base _ _ => ?_⟩
  have d1 : DefAt P w K mg base "is_name" _ f1 _ _ _ := ⟨ok_is_name F1 T, PySem.W.mg_of X G a1, k1, b1⟩
  have d2 : DefAt P w K mg base "is_path" _ f2 _ _ _ := ⟨ok_is_path F2 T d1, PySem.W.mg_of X G a2, k2, b2⟩
  have d3 : DefAt P w K mg base "check_path" _ f3 _ _ _ := ⟨ok_check_path F3 d2, PySem.W.mg_of X G a3, k3, b3⟩
  have d8 : DefAt P w K mg base "split_path" _ f8 _ _ _ := ⟨ok_split_path F8, PySem.W.mg_of X G a8, k8, b8⟩
  have d4 : DefAt P w K mg base "names_of" _ f4 _ _ _ := ⟨ok_names_of F4 T d3 d8, PySem.W.mg_of X G a4, k4, b4⟩
  have d6 : DefAt P w K mg base "parent" _ f6 _ _ _ := ⟨ok_parent F6 d3, PySem.W.mg_of X G a6, k6, b6⟩
  have d9 : DefAt P w K mg base "order_key" _ f9 _ _ _ := ⟨ok_order_key F9 T d8, PySem.W.mg_of X G a9, k9, b9⟩
  have d7 : DefAt P w K mg base "in_order" _ f7 _ _ _ := ⟨ok_in_order F7 T d9, PySem.W.mg_of X G a7, k7, b7⟩
  have FO := ok_path_of (P := P) (w := w) (base := base) F5 low d1
  have d15 : DefAt P w K mg base "_law_made" _ f15 _ _ _ := ⟨ok_made F15 T R FO (PySem.W.mg_of X G a5) k5, PySem.W.mg_of X G a15, k15, b15⟩
  have d10 : DefAt P w K mg base "_law_bag" _ f10 _ _ _ := ⟨ok_bag F10 T, PySem.W.mg_of X G a10, k10, b10⟩
  have d11 : DefAt P w K mg base "_law_take" _ f11 _ _ _ := ⟨ok_take F11 T, PySem.W.mg_of X G a11, k11, b11⟩
  have d12 : DefAt P w K mg base "_law_pick" _ f12 _ _ _ := ⟨ok_pick F12 T d11, PySem.W.mg_of X G a12, k12, b12⟩
  have d13 : DefAt P w K mg base "_law_words" _ f13 _ _ _ := ⟨ok_words F13 T d11 d12, PySem.W.mg_of X G a13, k13, b13⟩
  have d14 : DefAt P w K mg base "_law_path" _ f14 _ _ _ := ⟨ok_lpath F14 T d11 d12, PySem.W.mg_of X G a14, k14, b14⟩
  have d18 : DefAt P w K mg base "_law_before" _ f18 _ _ _ := ⟨ok_before F18 T, PySem.W.mg_of X G a18, k18, b18⟩
  have d19 : DefAt P w K mg base "_law_order_right" _ f19 _ _ _ := ⟨ok_order_right F19 T d11 d14 d7 F7 d18, PySem.W.mg_of X G a19, k19, b19⟩
  have d16 : DefG P w K mg base "_law_made_right" _ f16 _ _ _ := ⟨ok_made_right F16 T d11 d12 d15, PySem.W.mg_of X G a16, k16, b16⟩
  have d17 : DefG P w K mg base "_law_path_right" _ f17 _ _ _ := ⟨ok_path_right F17 T d4 d2 d6, PySem.W.mg_of X G a17, k17, b17⟩
  exact ok_law F20 T d10 d11 d13 d14 d16 d17 d19
theorem walk {l : PySem.W.OpenLaw} {q : Program} {loose : List Str} {XP : (Str → Option Value) → Heap → Prop} {YP : World → Heap → Prop} {d : DefRec} {K : Params → PySem.W.Frag} (hn : l.most = some 63) (hdf : d.params.defaults = [])
    (hY : ∀ (w : World) (h : Heap), YP w h → (K w.params).In h)
    (F : ∀ (w : World) (mg : Str → Option Value) (fa : Addr) (h : Heap), (K w.params).In h → h.Ns mainGlobals mg → mg d.name = some (.ref fa) →
      ∃ fd : FuncData, (∀ (s : Shared) (u : Value), BindsTo s fd ⟨[u], []⟩ [("_law_script", u)]) ∧ ∀ base : Heap, (K w.params).In base → base.Ns mainGlobals mg → FnG l.prog w (K w.params) mg base CX0 8 fa fd ["_law_script"] (spLaw (K w.params))) :
    PySem.W.WalkO q loose XP YP l.row.toRowW d [] (fun f vs => PySem.call f vs) :=
  walkG (n := 63) (k := 8) (x := "_law_script") (sp := spLaw) hn (by decide) hdf ⟨rfl, by decide, by decide⟩ hY F (fun K H a ns hl hS => ⟨a, ns, rfl, hS, hl, fun _ => rfl⟩)
end K2

open PySem PySem.W PyProof.Rows in
set_option maxRecDepth 100000 in
set_option maxHeartbeats 0 in
theorem PySem.Challenge.cw_linkfarms_k02_paths_made_and_ordered_holds : PySem.Challenge.rw_linkfarms_k02_paths_made_and_ordered.Holds := by
  w_on; o_law; k_head; (case hw => w_witness2)
  k_fill
  refine K2.walk (l := PySem.Challenge.rw_linkfarms_k02_paths_made_and_ordered) rfl rfl (fun w h Y => PySem.W.kIn_of Y) ?F
  case F =>
    intro w mg fa h KX G hmg
    refine' K2.all_mk KX G hmg ?aN ?aP ?aE ?xN ?sa ?ga ?gg ?nb ?a0 ?t0 ?l0 ?c0 ?kN ?eN ?tN ?hN ?iN ?sN ?haN ?hnN ?htN ?hmN ?kVE ?kPE ?zVE ?zLon ?z_isinstance ?z_str ?z_len ?z_all ?z_tuple ?z_list ?z_sorted ?z_range ?z_abs ?z_int ?z_repr ?z_max ?z_min ?a1 ?l1 ?c1 ?k1 ?a2 ?l2 ?c2 ?k2 ?a3 ?l3 ?c3 ?k3 ?a4 ?l4 ?c4 ?k4 ?a5 ?l5 ?c5 ?k5 ?a6 ?l6 ?c6 ?k6 ?a7 ?l7 ?c7 ?k7 ?a8 ?l8 ?c8 ?k8 ?a9 ?l9 ?c9 ?k9 ?a10 ?l10 ?c10 ?k10 ?a11 ?l11 ?c11 ?k11 ?a12 ?l12 ?c12 ?k12 ?a13 ?l13 ?c13 ?k13 ?a14 ?l14 ?c14 ?k14 ?a15 ?l15 ?c15 ?k15 ?a16 ?l16 ?c16 ?k16 ?a17 ?l17 ?c17 ?k17 ?a18 ?l18 ?c18 ?k18 ?a19 ?l19 ?c19 ?k19 ?a20 ?l20 ?c20 ?k20
    (case aN => k_is)
    (case aP => k_is)
    (case aE => k_is)
    (case xN => k_is)
    (case sa => k_is)
    (case ga => k_is)
    (case gg => k_is)
    (case nb => k_is)
    (case a0 => k_is)
    (case t0 => k_is)
    (case l0 => k_is)
    (case c0 => k_is)
    (case kN => k_is)
    (case eN => k_is)
    (case tN => k_is)
    (case hN => k_is)
    (case iN => k_is)
    (case sN => first | rfl | k_is)
    (case haN => k_is)
    (case hnN => k_is)
    (case htN => k_is)
    (case hmN => k_is)
    (case kVE => first | rfl | k_is)
    (case kPE => first | rfl | k_is)
    (case zVE => k_is)
    (case zLon => k_is)
    (case z_isinstance => k_is)
    (case z_str => k_is)
    (case z_len => k_is)
    (case z_all => k_is)
    (case z_tuple => k_is)
    (case z_list => k_is)
    (case z_sorted => k_is)
    (case z_range => k_is)
    (case z_abs => k_is)
    (case z_int => k_is)
    (case z_repr => k_is)
    (case z_max => k_is)
    (case z_min => k_is)
    (case a1 => k_is)
    (case l1 => k_is)
    (case c1 => k_is)
    (case k1 => k_is)
    (case a2 => k_is)
    (case l2 => k_is)
    (case c2 => k_is)
    (case k2 => k_is)
    (case a3 => k_is)
    (case l3 => k_is)
    (case c3 => k_is)
    (case k3 => k_is)
    (case a4 => k_is)
    (case l4 => k_is)
    (case c4 => k_is)
    (case k4 => k_is)
    (case a5 => k_is)
    (case l5 => k_is)
    (case c5 => k_is)
    (case k5 => k_is)
    (case a6 => k_is)
    (case l6 => k_is)
    (case c6 => k_is)
    (case k6 => k_is)
    (case a7 => k_is)
    (case l7 => k_is)
    (case c7 => k_is)
    (case k7 => k_is)
    (case a8 => k_is)
    (case l8 => k_is)
    (case c8 => k_is)
    (case k8 => k_is)
    (case a9 => k_is)
    (case l9 => k_is)
    (case c9 => k_is)
    (case k9 => k_is)
    (case a10 => k_is)
    (case l10 => k_is)
    (case c10 => k_is)
    (case k10 => k_is)
    (case a11 => k_is)
    (case l11 => k_is)
    (case c11 => k_is)
    (case k11 => k_is)
    (case a12 => k_is)
    (case l12 => k_is)
    (case c12 => k_is)
    (case k12 => k_is)
    (case a13 => k_is)
    (case l13 => k_is)
    (case c13 => k_is)
    (case k13 => k_is)
    (case a14 => k_is)
    (case l14 => k_is)
    (case c14 => k_is)
    (case k14 => k_is)
    (case a15 => k_is)
    (case l15 => k_is)
    (case c15 => k_is)
    (case k15 => k_is)
    (case a16 => k_is)
    (case l16 => k_is)
    (case c16 => k_is)
    (case k16 => k_is)
    (case a17 => k_is)
    (case l17 => k_is)
    (case c17 => k_is)
    (case k17 => k_is)
    (case a18 => k_is)
    (case l18 => k_is)
    (case c18 => k_is)
    (case k18 => k_is)
    (case a19 => k_is)
    (case l19 => k_is)
    (case c19 => k_is)
    (case k19 => k_is)
    (case a20 => k_is)
    (case l20 => k_is)
    (case c20 => k_is)
    (case k20 => k_is)
#print axioms PySem.Challenge.cw_linkfarms_k02_paths_made_and_ordered_holds

