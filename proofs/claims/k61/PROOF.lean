import PyProof.Rows.All
import Wide.All
import OpenK.AllK
import Wide.FinOn
import HandS.ForMost
import HandS.ForExc
import HandS.Star
import HandS.Deep
import HandS.IsInst
import HandS.SortKw
import KE.SortKeyHeap
import HandS.ExcIs
import HandS.Walk
import HandS.StrMore
import HandS.Evl
import HandS.CallLocal
import HandS.Zip
import HandS.WordsExc
import HandS.TupAny
import HandS.TupSets
import HandS.TupLen
import HandS.Style
import PySem.Challenge.RW_linkfarms_k61_straight_forms
set_option Elab.async false
set_option linter.all false
set_option maxRecDepth 100000
set_option maxHeartbeats 4000000
namespace LF
open PySem PySem.Spec PyProof.Rows L2

/-- a promise that is asked only where no repr is under way -/
structure FnG (P : Program) (w : World) (K : PySem.W.Frag) (mg : Str → Option Value) (base : Heap) (CX : CXT)
    (k : Nat) (f : Addr) (fd : FuncData) (ps : List Str) (sp : Sp) : Prop where
  len : ∀ vs H Q E, sp vs H Q E → vs.length = ps.length
  go : ∀ (A : Around) (fr : List Env) (st : Shared) (H : Hp) (ar : Args) (us : List Value) (vs : List V) (Q : VK) (E : XK),
    A.guards = some [] → Room k A → Env0 P w K mg base A fr st H → BindsTo st fd ar (ps.zip us) → Vals vs us →
    sp vs H Q E → codeAny (model P w) A (.call (.ref f) ar) (CR CX fr P w H st Q E) st

theorem body_end {CX : CXT} {P : Program} {w : World} {K : PySem.W.Frag} {mg : Str → Option Value} {base : Heap} {N : List Str}
    {q : String} {sc : Scope} {f : Addr} {cd : Value} {A : Around} {fr : List Env} {st : Shared} {H : Hp} {E : XK} {Q : VK}
    {v : V} {u : Value} {σ : L2.St} {H' : Hp} {s' : Shared}
    (J : Inv (cxOf CX P w K mg base N q sc f cd A fr st H E) [] σ H' s') (rv : RelV v u) (hq : Q v H') :
    CE fr P w H st Q u s' :=
  ⟨v, H', J.os, J.bare, J.base, J.hok, rv, hq⟩

theorem fnG_of {CX : CXT} {P : Program} {w : World} {K : PySem.W.Frag} {mg : Str → Option Value} {base : Heap} {k : Nat} {f : Addr}
    {x q : String} {st : Stmt} {fd : FuncData} {N ps : List Str} {sp : Sp} (F : Fun K x q st f fd) (S : FnScope N ps (defScope st))
    (len : ∀ vs H Q E, sp vs H Q E → vs.length = ps.length)
    (hb : ∀ (cdv : Value) (A : Around) (fr : List Env) (s : Shared) (H : Hp) (vs : List V) (Q : VK) (E : XK), A.guards = some [] →
      Room k (A.deeper (envOfC q (defScope st) s.heap.objs.size f cdv)) → sp vs H Q E →
      ∃ t, PSs (cxOf CX P w K mg base N q (defScope st) f cdv A fr s H E) (defBody st) t ∧
        t { nx := fun _ H' => Q .non H', rt := Q } (start N vs) H) : FnG P w K mg base CX (k + 1) f fd ps sp := by
  obtain ⟨oc, od, kV, doc, pm, an, cdv, ct, osl, rfl, lk, hcd⟩ := F.ex
  refine ⟨len, ?_⟩
  intro A fr s H ar us vs Q E hgd hr e0 hbi r hsp
  have hl := len _ _ _ _ hsp
  have KX : K.In s.heap := e0.mod.kin.keeps (fun b o e => (e0.bs b o e).1)
  have lim : s.heap.NoLimit := e0.mod.nolimit.keeps (fun b o e => (e0.bs b o e).1)
  have hkd : ∀ y ∈ ps.zip us, (defScope st).names.lookup y.1 = some .local ∨
      ((defScope st).names.lookup y.1 = some .cell ∧ ((cellsFrom (s.heap.objs.size + 1) (defScope st).names []).lookup y.1).isSome = true) := by
    rintro ⟨n, v⟩ hy
    rcases S.par n (List.of_mem_zip hy).1 with z | z
    · exact Or.inl z
    · exact Or.inr ⟨z, PySem.W.cellsFrom_some _ _ _ (Or.inl z)⟩
  refine codeAny_call_function hr.depth (KX _ _ lk) rfl S.co S.gen rfl (PySem.W.codeRec_of KX hcd) (hbi _ _ _ _ ?_)
  refine wpAny_newFunctionEnv_cells S.kind hkd ?_
  intro env he s1 xx
  subst he
  refine ⟨lim.keeps xx.toInCall.keep, codeAny_func ?_⟩
  obtain ⟨t, ht, hq⟩ := hb cdv A fr s H vs Q E hgd (hr.deeper _) hsp
  have I := inv_start (CX := CX) (cd := cdv) (E := E) S hr.hd e0 hl r xx
  refine wpAny_mono (ht.run [] s1 (start N vs) H _ I hq) ?_ (fun e s' hs => hs)
  intro fl s' hs
  cases fl with
  | ret u =>
    obtain ⟨v, σ', H', J, rv, z⟩ := hs
    exact body_end J rv z
  | next =>
    obtain ⟨σ', H', J, z⟩ := hs
    exact body_end (v := V.non) (u := Value.none) J rfl z
  | brk => exact (hs.choose_spec.choose_spec.2).elim
  | cont => exact (hs.choose_spec.choose_spec.2).elim

section
variable {X : Cx} {CX : CXT} {k : Nat} {f : Addr} {fd : FuncData} {ps : List Str} {sp : Sp} {dvs : List V} {ds : List Value} {E : XK}
  {x : Str} {p pos : Pos} {e : Expr} {es : List Expr} {t : TA}

theorem runG {pins : List (Addr × Obj)} {σ : L2.St} {H : Hp} {s : Shared} {Q : VK} {us : List Value} {vs : List V}
    (F : FnG X.prog X.w X.K X.mg X.base CX k f fd ps sp) (gd : X.A.guards = some []) (hr : Room k X.A) (hb : Binds X.K fd ps [])
    (hx : Passes CX X E) (I : Inv X pins σ H s) (r : Vals vs us) (h : sp vs H Q E) :
    wpAny (model X.prog X.w) X.A (call (.ref f) us) (EP X pins σ Q) X.xe s := by
  have hl : us.length = ps.length := by rw [← r.length]; exact F.len _ _ _ _ h
  have hb' := hb s us I.kIn (by rw [List.append_nil]; exact hl)
  rw [List.append_nil] at hb'
  refine wpAny_call (codeAny_mono (F.go X.A X.stack s H ⟨us, []⟩ us vs Q E gd hr I.env0 hb' r h) ?_)
  intro rr s' hq
  cases rr with
  | error e => exact hx pins σ H s e s' I hq
  | ok fl =>
    cases fl with
    | ret u => exact I.after hq
    | next => exact hq.elim
    | brk => exact hq.elim
    | cont => exact hq.elim

theorem pe_callG (F : FnG X.prog X.w X.K X.mg X.base CX k f fd ps sp) (gd : X.A.guards = some []) (hr : Room k X.A) (hg : Gl X x)
    (hm : X.mg x = some (.ref f)) (hk : PySem.W.keepIn X.K (.ref f) = true) (hb : Binds X.K fd ps []) (hx : Passes CX X E)
    (ha : PA X (e :: es) t) (hdb : (x == ("__debug__" : Str)) = false := by decide)
    (he : starEach (e :: es) X.env = (false, eval e X.env) :: starEach es X.env := by rfl)
    (hpl : (backTo pos (starEach es X.env)).any (·.1) = false := by rfl) :
    PE X (.Call (.Name x p) (e :: es) [] pos) (fun σ H Q => t σ H fun vs H1 => sp vs H1 Q E) := by
  constructor
  intro pins s σ H Q I h
  refine wpAny_Call_Name_kw (ld_glob I hg hm ?_ hdb)
  refine PySem.W.callWith_K (h₀ := X.base) I.ok.mod.kin hk (thn (ha.run pos pins s σ H _ I h) ?_) he hpl
  rintro us s1 ⟨vs, H1, I1, r, z⟩
  exact ⟨I1.kIn, runG F gd hr hb hx I1 r z⟩
end

/-- repr of data of any depth, where no repr is under way -/
def rRepr (K : PySem.W.Frag) : List V → Hp → VK → Prop := fun xs H Q =>
  ∃ x d, xs = [x] ∧ Dp K H x d ∧ d.showable = true ∧ d.hasDict = false ∧ d.depth ≤ 60 ∧ d.shown.length ≤ sizeLine ∧ Q (.str d.shown) H
theorem call_reprD {X : Cx} (gd : X.A.guards = some []) (hu : X.A.units + 64 < cLine) : CallR X (.builtin "repr") (rRepr X.K) := by
  intro pins s σ H xs us Q I r h
  obtain ⟨x, d, rfl, hd, hs, hn, hp, hz, q⟩ := h
  obtain ⟨u, rfl, ru⟩ := vals1 r
  obtain ⟨as, rd⟩ := Dp.reads I d x u hd ru
  cases hd with
  | non => cases ru; exact PySem.P.repr_of_none ⟨.str _, H, I.tok _, ⟨_, rfl⟩, q⟩
  | bl b => cases ru; exact PySem.P.repr_of_bool ⟨.str _, H, I.tok _, ⟨_, rfl⟩, q⟩
  | int i =>
    obtain ⟨t, rfl⟩ := ru
    exact PySem.P.repr_of_int (by simpa [PyData.showable] using hs) ⟨.str _, H, I.tok _, ⟨_, rfl⟩, q⟩
  | str z =>
    obtain ⟨t, rfl⟩ := ru
    exact PySem.P.repr_of_str ⟨.str _, H, I.tok _, ⟨_, rfl⟩, q⟩ hz
  | lst a b =>
    cases ru
    exact repr_of_reads' rd hs (PyData.noDict_hsm hn) gd (by omega) (fun _ _ e => e)
      (fun h' u tk hk => ⟨.str _, H, I.kept (t' := tk) hk, ⟨_, rfl⟩, q⟩) hz
  | tup a b =>
    cases ru
    exact repr_of_reads' rd hs (PyData.noDict_hsm hn) gd (by omega) (fun _ _ e => e)
      (fun h' u tk hk => ⟨.str _, H, I.kept (t' := tk) hk, ⟨_, rfl⟩, q⟩) hz
end LF

set_option Elab.async false
set_option linter.all false
set_option maxRecDepth 100000
set_option maxHeartbeats 4000000
namespace LF
open PySem PySem.Spec PyProof.Rows L2
open PySem.W (EachIs dataLe AllAlike Sortable KeepsBut KeyedOut)

theorem sqL_same {K : PySem.W.Frag} {H H' : Hp} {a : Addr} {xs : List V} (e : Same H H') (h : SqL K H a xs) : SqL K H' a xs := e.seq h
theorem sqT_same {K : PySem.W.Frag} {H H' : Hp} {a : Addr} {xs : List V} (e : Same H H') (h : SqT K H a xs) : SqT K H' a xs := by
  rcases h with (h | ⟨o, h⟩) | h
  · exact Or.inl (Or.inl (e _ _ h))
  · exact Or.inl (Or.inr ⟨o, e _ _ h⟩)
  · exact Or.inr h
mutual
theorem dp_same {K : PySem.W.Frag} {H H' : Hp} (e : Same H H') : ∀ (d : PyData) (v : V), Dp K H v d → Dp K H' v d
  | .none, _, h => by cases h; exact .non
  | .bool b, _, h => by cases h; exact .bl b
  | .int i, _, h => by cases h; exact .int i
  | .str x, _, h => by cases h; exact .str x
  | .list ds, _, h => by cases h with | lst a b => exact .lst (sqL_same e a) (dpAll_same e ds _ b)
  | .tuple ds, _, h => by cases h with | tup a b => exact .tup (sqT_same e a) (dpAll_same e ds _ b)
  | .dict _, _, h => by cases h
theorem dpAll_same {K : PySem.W.Frag} {H H' : Hp} (e : Same H H') : ∀ (ds : List PyData) (vs : List V), DpAll K H vs ds → DpAll K H' vs ds
  | [], _, h => by cases h; exact .nil
  | d :: ds, _, h => by cases h with | cons a b => exact .cons (dp_same e d _ a) (dpAll_same e ds _ b)
end

/-- sorted(xs, key=f), xs texts, f a def that hands back data and leaves what is tracked -/
def rSortF (K : PySem.W.Frag) (f : Addr) (kd : Str → PyData) (sp : Sp) : List V → List V → Hp → VK → Prop := fun xs zs H Q =>
  ∃ (a : Addr) (ws : List Str), xs = [.ref a] ∧ zs = [.ref f] ∧ SqL K H a (ws.map V.str) ∧ AllAlike (ws.map kd) ∧ Sortable (ws.map kd) ∧
    (∀ d ∈ ws.map kd, d.depth ≤ 60) ∧
    (∀ x ∈ ws, ∀ H1, Same H H1 → ∀ Q1 : VK, (∀ v H2, Same H1 H2 → Dp K H2 v (kd x) → Q1 v H2) → sp [.str x] H1 Q1 E0) ∧
    ∀ H1 p, Same H H1 → H1 p = none → Q (.ref p) (upd H1 p (.lst ((ws.mergeSort (dataLe false kd)).map V.str)))

theorem each_vals_str : ∀ {ws : List Str} {us : List Value}, Vals (ws.map V.str) us → EachIs (fun (v : Value) (x : Str) => ∃ t, v = Value.str x t) us ws
  | [], _, h => by cases h; exact .nil
  | x :: ws, _, h => by cases h with | cons a b => exact .cons a (each_vals_str b)
theorem vals_each_str : ∀ {ws : List Str} {us : List Value}, EachIs (fun (v : Value) (x : Str) => ∃ t, v = Value.str x t) us ws → Vals (ws.map V.str) us
  | [], _, h => by cases h; exact .nil
  | x :: ws, _, h => by cases h with | cons a b => exact .cons a (vals_each_str b)
theorem each_get {α β : Type} {R : α → β → Prop} : ∀ {as : List α} {bs : List β} {i : Nat} {x : α}, EachIs R as bs → as[i]? = some x → ∃ y, bs[i]? = some y ∧ R x y
  | _, _, 0, x, .cons h _, e => by simp at e; subst e; exact ⟨_, rfl, h⟩
  | _, _, i + 1, x, .cons _ t, e => by simpa using each_get (i := i) t (by simpa using e)
theorem each_reads {X : Cx} {pins : List (Addr × Obj)} {σ : L2.St} {H : Hp} {s : Shared} {kd : Str → PyData} (I : Inv X pins σ H s) :
    ∀ {us : List Value} {ws : List Str}, EachIs (fun v x => ∃ y, RelV y v ∧ Dp X.K H y (kd x)) us ws →
      EachIs (fun v k => ∃ as, Reads s.heap v k as) us (ws.map kd)
  | _, _, .nil => .nil
  | _, _, .cons ⟨y, r, d⟩ t => .cons (Dp.reads I _ _ _ d r) (each_reads I t)

section
variable {X : Cx} {kf : Nat} {f : Addr} {fd : FuncData} {px : Str} {sp : Sp} {kd : Str → PyData}

theorem pin_new {pins : List (Addr × Obj)} {σ : L2.St} {H : Hp} {s : Shared} (I : Inv X pins σ H s) {b : Addr} (hb : s.heap.objs.size ≤ b) :
    H b = none ∧ b ≠ X.env.locals ∧ b ∉ X.fs ∧ (∀ x c, X.env.cells.lookup x = some c → c ≠ b) ∧ ∀ p ∈ X.pn ++ pins, p.1 ≠ b := by
  refine ⟨I.hok.fresh hb, ?_, I.nofs hb, ?_, ?_⟩
  · exact Ne.symm (Nat.ne_of_lt (Nat.lt_of_lt_of_le I.lt hb))
  · intro x c hc
    obtain ⟨v, o, ho, _⟩ := I.cell x c hc
    exact Nat.ne_of_lt (Nat.lt_of_lt_of_le (Heap.lt_size ho) hb)
  · intro p hp
    exact Nat.ne_of_lt (Nat.lt_of_lt_of_le (Heap.lt_size (I.pin p hp).1) hb)

theorem call_sortedF (F : FnOk X.prog X.w X.K X.mg X.base CX0 kf f fd [px] sp) (hr : Room (kf + 2) X.A) (hb : Binds X.K fd [px] []) :
    CallRK X (.builtin "sorted") [Str.ofString "key"] (rSortF X.K f kd sp) := by
  intro pins s σ H xs zs us vz Q I r rz h
  obtain ⟨a, ws, rfl, rfl, hs, hal, hsk, hdep, hkey, hq⟩ := h
  obtain ⟨its, rv, hl, hz⟩ := I.list hs
  rw [Vals.ref1 r]
  rw [Vals.ref1 rz]
  have hwl : ws.length = its.length := by rw [← rv.length, List.length_map]
  have hZ : its.length ≤ sizeLine := by rw [← rv.length]; exact hz
  have hE := each_vals_str rv
  show wpAny _ _ (call (.builtin "sorted") [.ref a] [(Str.ofString "key", .ref f)]) _ _ _
  refine PySem.W.sorted_of_sort (vs := its) hl.isList hZ (ksk_s1 _ _) (fun x => ksk_l1 _ _) ?_
  intro E'
  rw [ksk_t1]
  obtain ⟨hp, g, dr, tk, os⟩ := s
  -- the copy, at D
  generalize hD : hp.objs.size + 1 = D
  have hcp : (PySem.W.copyHeap hp its).get? D = some (seqObj "list" its.toArray 0) := by rw [← hD]; exact PySem.W.copyHeap_at hp its
  have hold : ∀ b o, hp.get? b = some o → (PySem.W.copyHeap hp its).get? b = some o := fun b o e => PySem.W.copyHeap_old e
  have hDsz : D < (PySem.W.copyHeap hp its).objs.size := Heap.lt_size hcp
  have hDnew : hp.objs.size ≤ D := by omega
  obtain ⟨e1, he1⟩ : ∃ e1, ((PySem.W.copyHeap hp its).update D (Obj.mapSeq fun _ => (#[] : Array Value))).get? D = some (seqObj "list" #[] e1) := ⟨_, get?_update_seq hcp fun _ => #[]⟩
  have hS1 : ((PySem.W.copyHeap hp its).update D (Obj.mapSeq fun _ => (#[] : Array Value))).objs.size = (PySem.W.copyHeap hp its).objs.size := by rw [Heap.size_update]
  unfold ksk_tree
  refine wpAny_bind (listItems_at hcp rfl ?_)
  refine wpAny_bind (listUpdate_at hcp rfl ?_ (by rw [List.size_toArray]; exact hZ) (Nat.zero_le _))
  refine wpAny_bind (seqEpoch_at he1 rfl ?_)
  refine wpAny_bind (wpAny_newTuple ?_ (by show its.length ≤ _; exact hZ))
  refine wpAny_bind (wpAny_newList ?_ (Nat.zero_le _))
  refine wpAny_holding ?_
  generalize hT : (((PySem.W.copyHeap hp its).update D (Obj.mapSeq fun _ => (#[] : Array Value))).push ({ cls := .type "tuple", data := .seq its.toArray } : Obj)) = h1
  have hkS : h1.objs.size = (PySem.W.copyHeap hp its).objs.size + 1 := by rw [← hT, size_push', hS1]
  generalize hkk : h1.objs.size = kS
  have hDk : kS ≠ D := by omega
  have hkSnew : hp.objs.size ≤ kS := by omega
  have k1 : ∀ b o, b ≠ D → (PySem.W.copyHeap hp its).get? b = some o → h1.get? b = some o := fun b o hb e => by
    rw [← hT]
    exact Heap.get?_push_of_some _ ((Heap.get?_update_ne _ _ _ _ hb).trans e)
  have k2 : ∀ b o, hp.get? b = some o → (h1.push (seqObj "list" #[] 0)).get? b = some o := fun b o e =>
    Heap.get?_push_of_some _ (k1 b o (Nat.ne_of_lt (Nat.lt_of_lt_of_le (Heap.lt_size e) hDnew)) (hold b o e))
  have g1 : (h1.push (seqObj "list" #[] 0)).get? D = some (seqObj "list" #[] e1) := Heap.get?_push_of_some _ (by rw [← hT]; exact Heap.get?_push_of_some _ he1)
  have g2 : (h1.push (seqObj "list" #[] 0)).get? kS = some (seqObj "list" #[] 0) := by rw [← hkk]; exact Heap.get?_push_size _ rfl
  have nD := pin_new I (b := D) hDnew
  have nK := pin_new I (b := kS) hkSnew
  have I2 : Inv X pins σ H ⟨h1.push (seqObj "list" #[] 0), g, dr, tk, os⟩ := I.kept (t' := tk) k2
  have seqne : ∀ (c : String) (xs : Array Value) (n : Nat) (v : Option Value), (seqObj c xs n).data ≠ .cell v := fun c xs n v z => by cases z
  have I3 : Inv X ((kS, seqObj "list" #[] 0) :: (D, seqObj "list" #[] e1) :: pins) σ H ⟨h1.push (seqObj "list" #[] 0), g, dr, tk, os⟩ := I2.pins_of (by
    intro p hp'
    rcases List.mem_cons.mp hp' with rfl | hp'
    · exact ⟨g2, nK.1, nK.2.1, nK.2.2.1, seqne _ _ _⟩
    rcases List.mem_cons.mp hp' with rfl | hp'
    · exact ⟨g1, nD.1, nD.2.1, nD.2.2.1, seqne _ _ _⟩
    · exact I2.pin p (List.mem_append_right _ hp'))
  show wpAny _ _ (ksk_rest D (.ref f) false its.toArray e1 (.ref kS)) _ _ ⟨h1.push (seqObj "list" #[] 0), g, dr, tk, os⟩
  unfold ksk_rest
  refine wpAny_bind (wpAny_rule ?_)
  rw [List.forIn_toArray]
  refine wpAny_bind (ksk_fold (fun i s' => ∃ kA e H', Same H H' ∧ Inv X ((kS, seqObj "list" kA e) :: (D, seqObj "list" #[] e1) :: pins) σ H' s' ∧
      EachIs (fun v x => ∃ y, RelV y v ∧ Dp X.K H' y (kd x)) kA.toList (ws.take i)) its 0 _
    ⟨#[], 0, H, Same.refl H, I3, by rw [List.take_zero]; exact .nil⟩ ?step ?done)
  case step =>
    rintro j u s' hu ⟨kA, e, H', sm, J, hk⟩
    simp only [Nat.zero_add] at hk ⊢
    obtain ⟨x, hx, t, rfl⟩ := each_get hE hu
    have hxm : x ∈ ws := List.mem_of_getElem? hx
    have hj : j < ws.length := (List.getElem?_eq_some_iff.mp hx).1
    have hklen : kA.size ≤ ws.length := by
      have := hk.length
      rw [Array.length_toList, List.length_take] at this
      omega
    have hsp := hkey x hxm H' sm (fun v H2 => Same H' H2 ∧ Dp X.K H2 v (kd x)) (fun v H2 s2 d2 => ⟨s2, d2⟩)
    have hb' := hb s' [.str x t] J.kIn rfl
    rw [List.append_nil] at hb'
    have run := F.run X.A.in1.in1 X.stack s' H' ⟨[.str x t], []⟩ [.str x t] [.str x] _ E0 (hr.in1.in1) (J.env0.in1.in1) hb' (.cons ⟨t, rfl⟩ .nil) hsp
    have call1 : wpAny (model X.prog X.w) X.A.in1.in1 (call (.ref f) [.str x t]) (CE X.stack X.prog X.w H' s' (fun v H2 => Same H' H2 ∧ Dp X.K H2 v (kd x))) (fun _ _ => False) s' := by
      refine wpAny_call (codeAny_mono run ?_)
      intro rr s2 hq2
      cases rr with
      | error e => exact hq2
      | ok fl =>
        cases fl with
        | ret u => exact hq2
        | next => exact hq2
        | brk => exact hq2
        | cont => exact hq2
    refine wpAny_bind (wpAny_attempt (wpAny_mono call1 ?_ (fun _ _ z => z.elim)))
    intro u s2 hu2
    obtain ⟨y, H2, J2, ry, sm2, dp2⟩ := J.after hu2
    obtain ⟨pk, pnK, pLK, pfK, _⟩ := J2.pin (kS, seqObj "list" kA e) (List.mem_append_right _ List.mem_cons_self)
    obtain ⟨pd, pnD, pLD, pfD, _⟩ := J2.pin (D, seqObj "list" #[] e1) (List.mem_append_right _ (List.mem_cons_of_mem _ List.mem_cons_self))
    have J3 : Inv X ((D, seqObj "list" #[] e1) :: pins) σ H2 s2 := J2.pins_of (by
      intro p hp'
      exact J2.pin p (List.mem_append_right _ (List.mem_cons_of_mem _ hp')))
    obtain ⟨hp2, g2', dr2, tk2, os2⟩ := s2
    refine wpAny_bind (listUpdate_at pk rfl ?_ (Nat.le_trans hklen (by rw [hwl]; exact hZ)) (by rw [Array.size_push]; exact Nat.succ_le_succ (Nat.le_trans hklen (by rw [hwl]; exact hZ))))
    have sb := Heap.SameBut.update hp2 kS (Obj.mapSeq (·.push u))
    obtain ⟨c2, hc2⟩ : ∃ c2, (hp2.update kS (Obj.mapSeq (·.push u))).get? kS = some (seqObj "list" (kA.push u) c2) := ⟨_, get?_update_seq pk (·.push u)⟩
    have pne : ∀ p ∈ X.pn ++ ((D, seqObj "list" #[] e1) :: pins), p.1 ≠ kS := by
      intro p hp'
      rcases List.mem_append.mp hp' with q | q
      · exact nK.2.2.2.2 p (List.mem_append_left _ q)
      rcases List.mem_cons.mp q with rfl | q
      · exact Ne.symm hDk
      · exact nK.2.2.2.2 p (List.mem_append_right _ q)
    have s0k : X.s_0.heap.objs.size ≤ kS := Nat.le_trans I.sz hkSnew
    have J4 := J3.turned (t' := tk2) (it := kS) (h' := hp2.update kS (Obj.mapSeq (·.push u))) (fun b o hb e => (sb.2 b hb).trans e) pnK pLK (Or.inr s0k) nK.2.2.2.1 pne
    have J5 : Inv X ((kS, seqObj "list" (kA.push u) c2) :: (D, seqObj "list" #[] e1) :: pins) σ H2 ⟨hp2.update kS (Obj.mapSeq (·.push u)), g2', dr2, tk2, os2⟩ := J4.pins_of (by
      intro p hp'
      rcases List.mem_cons.mp hp' with rfl | hp'
      · exact ⟨hc2, pnK, pLK, pfK, seqne _ _ _⟩
      · exact J4.pin p (List.mem_append_right _ hp'))
    refine wpAny_pure ⟨rfl, kA.push u, c2, H2, sm.trans sm2, J5, ?_⟩
    have ek : ws.take (j + 1) = ws.take j ++ [x] := by rw [List.take_add_one, hx]; rfl
    rw [ek, Array.toList_push]
    exact PySem.W.each_snoc ⟨y, ry, dp2⟩ (hk.mono fun v z ⟨y', r', d'⟩ => ⟨y', r', dp_same sm2 _ _ d'⟩)
  case done =>
    rintro s' ⟨kA, e, H', sm, J, hk⟩
    rw [List.take_of_length_le (by omega)] at hk
    obtain ⟨pk, pnK, pLK, pfK, _⟩ := J.pin (kS, seqObj "list" kA e) (List.mem_append_right _ List.mem_cons_self)
    obtain ⟨pd, pnD, pLD, pfD, _⟩ := J.pin (D, seqObj "list" #[] e1) (List.mem_append_right _ (List.mem_cons_of_mem _ List.mem_cons_self))
    have J1 : Inv X pins σ H' s' := J.pins_of (by
      intro p hp'
      exact J.pin p (List.mem_append_right _ (List.mem_cons_of_mem _ (List.mem_cons_of_mem _ hp'))))
    have hr' := each_reads J hk
    have hksz : kA.size = its.length := by
      have := hk.length
      rw [Array.length_toList] at this
      omega
    refine wpAny_bind (listItems_at pk rfl ?_)
    have kb : KeepsBut D (PySem.W.hideAll s'.heap [kS]) s'.heap := fun b o hb e => PySem.W.of_hideAll [kS] e
    have hu : ∀ d ∈ ws.map kd, X.A.in1.in1.units + d.depth < cLine := by
      intro d hd
      have h1 := hdep d hd
      have h2 := hr.un
      show X.A.units + 1 + 1 + d.depth < cLine
      omega
    refine PySem.W.keyH_end (κ := PySem.W.dataKind s'.heap (ws.map kd)) kb (PySem.W.hideAll_none [kS] List.mem_cons_self) pk pd hDk (PySem.W.SortsAt.data (s := s') hr' hal hsk hu) hksz hZ ?_
    intro h' tk' c kp hD'
    refine ⟨rfl, ?_⟩
    have hout : EachIs (fun (v : Value) (x : Str) => ∃ t, v = Value.str x t) (PySem.W.sortVals (PySem.W.dataKind s'.heap (ws.map kd)) false kA.toList its) (ws.mergeSort (dataLe false kd)) :=
      PySem.W.keyedOut_each (rev := false) kd ⟨s'.heap, kA.toList, hal, rfl, hr'⟩ hE
    have hv := vals_each_str hout
    have keep : ∀ b o, b ≠ D → b ≠ kS → s'.heap.get? b = some o → h'.get? b = some o := fun b o n1 n2 e =>
      kp b o n1 (PySem.W.hideAll_get [kS] e (by simpa using n2))
    have hn : H' D = none := pnD
    have hlen : ((ws.mergeSort (dataLe false kd)).map V.str).length ≤ sizeLine := by
      rw [List.length_map, List.length_mergeSort, hwl]; exact hZ
    refine ⟨.ref D, upd H' D (.lst ((ws.mergeSort (dataLe false kd)).map V.str)), ?_, rfl, hq H' D sm hn⟩
    have hne : ∀ b u, H' b = some u → b ≠ D ∧ b ≠ kS := fun b u q => ⟨ne_of_none q hn, ne_of_none q pnK⟩
    refine J1.step (ch := [D, kS]) (g' := s'.gens) (d' := s'.drawn) (t' := tk') ?_ ?_ ?_ ?_ ?_ ?_ ?_ ?_ ?_ ?_ J1.bare
    · intro b hb
      rcases List.mem_cons.mp hb with rfl | hb
      · exact ⟨Or.inr (Nat.le_trans I.sz hDnew), pLD, nD.2.2.2.1, nD.2.2.2.2⟩
      · rw [List.mem_singleton.mp hb]
        exact ⟨Or.inr (Nat.le_trans I.sz hkSnew), pLK, nK.2.2.2.1, nK.2.2.2.2⟩
    · intro b o _ _ hc e _
      exact keep b o (fun z => hc (by simp [z])) (fun z => hc (by simp [z])) e
    · intro b o _ _ hc e _
      exact ⟨o.slots, keep b o (fun z => hc (by simp [z])) (fun z => hc (by simp [z])) e⟩
    · intro b o hc e n
      rw [upd_ne (fun z => hc (by simp [z]))]
      exact n
    · intro b o hc e
      exact ⟨o, keep b o (fun z => hc (by simp [z])) (fun z => hc (by simp [z])) e⟩
    · intro b xs e
      rw [upd_ne (hne b _ e).1]; exact e
    · intro b o u e
      rw [upd_ne (hne b _ e).1]; exact e
    · intro b ps e
      exact ⟨#[], by rw [upd_ne (hne b _ e).1, e]; simp⟩
    · rintro m ⟨o, es, ep, ho, rest⟩
      exact ⟨o, es, ep, keep _ o (Ne.symm pLD) (Ne.symm pLK) ho, rest⟩
    · intro b u e
      by_cases hb : b = D
      · subst hb
        rw [upd_same] at e
        cases e
        exact ⟨hlen, _, c, hv, hD'⟩
      · rw [upd_ne hb] at e
        refine (J1.hok b u e).stay (fun z w' hz q => keep z w' ?_ ?_ q) (fun z q => ?_) (fun z xs q => ?_)
        · rcases hz with rfl | hz
          · exact hb
          · exact (hne z _ hz).1
        · rcases hz with rfl | hz
          · exact (hne z _ e).2
          · exact (hne z _ hz).2
        · rw [upd_ne (hne z _ q).1]; exact q
        · rw [upd_ne (hne z _ q).1]; exact q
end
end LF

set_option Elab.async false
set_option linter.all false
set_option maxRecDepth 100000
set_option maxHeartbeats 4000000
namespace LF
open PySem PySem.Spec PySem.Calls PyProof.Rows
open PySem.W (Looks InstAt findIn specialIn takesIn subIn mroIn hasDictIn clsIn findObj looks_findIn looks_find looks_subIn any_some)

section
variable {prog : Program} {w : World} {A : Around} {E : Value → Shared → Prop} {s : Shared} {K : PySem.W.Frag} {x D : Addr} {ox : Obj} {od : Option Obj}

/-- an error's class asked of the error itself, whether it has a dict or none -/
theorem errClass (C : L2.ExcC K D) {Q : Option Value → Shared → Prop} (X : K.In s.heap) (I : InstAt s.heap x ox D od)
    (h : Q (some (.ref D)) { s with toks := s.toks + 1 }) : wpAny (model prog w) A (getAttr? (.ref x) "__class__") Q E s := by
  have hf : findObj K D od "__class__" = some (.bind (.builtin "getset_descriptor.__get__") (.builtin "object.__class__")) := by
    obtain ⟨cd, e, _⟩ := any_some C.hd
    simp only [findObj, e, C.ha, C.hn, C.ht, Option.bind_some]
  obtain ⟨hh, gg, dd, tt, oo⟩ := s
  have lt := I.type (M := model prog w)
  have lg := looks_findIn (M := model prog w) X C.hg
  have lk := looks_findIn (M := model prog w) X C.hk
  have lf := looks_find (M := model prog w) X I hf
  have ls : Looks (model prog w) hh (isInstance (.ref x) (.type "BaseException")) true := lt.andThen (looks_subIn X C.hs)
  have z0 : (Value.builtin "BaseException.__getattribute__" == Value.builtin "object.__getattribute__") = false := by decide +kernel
  have z1 : (onTheHeap (Value.ref D) && Value.builtin "BaseException.__getattribute__" == Value.builtin "object.__getattribute__") = false := by
    rw [z0]; rfl
  have z2 : (false && onTheHeap (Value.builtin "BaseException.__getattribute__")) = false := rfl
  unfold getAttr? getAttrBy? getAttrBy
  refine wpAny_bind (wpAny_mkText (wpAny_bind (wpAny_attempt (wpAny_holding (wpAny_bind (lt.at (wpAny_bind (lg.at ?_))))))))
  show wpAny _ _ (if (onTheHeap (Value.ref D) && Value.builtin "BaseException.__getattribute__" == Value.builtin "object.__getattribute__") = true
    then _ else _) _ _ _
  rw [z1, if_neg Bool.false_ne_true]
  unfold getAttrByItsOwn hookBefore
  apply wpAny_bind
  rw [if_pos (show onTheHeap (Value.ref D) = true from rfl)]
  apply lk.at
  refine wpAny_bind (wpAny_attempt (wpAny_holding ?_))
  unfold callGetattribute
  rw [z2, if_neg Bool.false_ne_true]
  unfold boundAndCalled
  rw [PySem.F.excAttr_ValueError.ga.bind (.ref x)]
  apply wpAny_bind
  apply wpAny_pure
  show wpAny _ _ (call (.builtin "BaseException.__getattribute__") [.ref x, .str "__class__" tt]) _ _ _
  refine wpAny_call (codeAny_call_builtin PySem.F.excAttr_ValueError.ga.plain PySem.F.entry_bexc_ga ?_)
  refine @PySem.W.check_slot (model prog w) _ _ ⟨hh, gg, dd, tt + 1, oo⟩ "BaseException.__getattribute__" "BaseException" "__getattribute__"
    (.ref x) [.str "__class__" tt] [] _ (by decide +kernel) (by decide +kernel) ls (PySem.F.args_bexc_ga (.ref x) (.str "__class__" tt)) ?_
  unfold Builtin.«object.__getattribute__»
  refine wpAny_bind (wpAny_of_eq (a := ((Value.ref x : Value), [Value.str "__class__" tt])) (by
    first
      | rfl
      | (simp only [slotArgs]; rfl)) ?_)
  refine wpAny_bind (wpAny_pure (wpAny_bind (lt.at (wpAny_bind (lf.at ?_)))))
  show wpAny _ _ (holding [Value.builtin "object.__class__"]
    (call (.builtin "getset_descriptor.__get__") [.builtin "object.__class__", .ref x, .ref D]) >>= ret) _ _ _
  refine wpAny_bind (wpAny_holding (wpAny_call (PySem.W.class_get (s := ⟨hh, gg, dd, tt + 1, oo⟩) X I C.hm ?_)))
  apply wpAny_pure
  show wpAny _ _ (handedOut (.ref D)) _ _ _
  rw [PySem.W.handedOut_of (v := .ref D) rfl]
  first
    | exact wpAny_pure (wpAny_pure h)
    | exact wpAny_pure h
    | exact wpAny_pure (wpAny_bind (wpAny_pure (wpAny_pure h)))

theorem errKit (C : L2.ExcC K D) : PySem.W.KitX K (.ref x) (.ref D) (fun h => ∃ ox od, InstAt h x ox D od) := by
  have cls : ∃ c d cd sl, K.lookup D = some ⟨c, d, .cls cd, sl⟩ := by
    obtain ⟨cd, e, _⟩ := any_some C.hd
    unfold clsIn at e
    split at e
    · rename_i c d cd' sl e'
      exact ⟨c, d, cd', sl, e'⟩
    · exact nomatch e
  obtain ⟨c, d, cd, sl, hl⟩ := cls
  refine ⟨fun M h X q => ?_, fun M h X q => ?_, fun h tp ddd its n sl' X ht => ?_, fun X q k => ?_⟩
  · obtain ⟨_, _, I⟩ := q
    exact I.type
  · intro A' Q' E' s' k q'
    unfold isType loadHead
    exact wpAny_bind (wpAny_loadPart (k _ _ (X _ _ hl)) (wpAny_pure q'))
  · cases hq : (Value.ref D == .ref tp) with
    | false => rfl
    | true =>
      have e : D = tp := Value.ref.inj (beq_iff_eq.mp hq)
      subst e
      exact nomatch (X _ _ hl).symm.trans ht
  · obtain ⟨_, _, I⟩ := q
    exact errClass C X I k
end
end LF

namespace LF
open PySem PySem.Spec PyProof.Rows L2
/-- isinstance(e, c) and isinstance(e, (c, ..)) of the error that the suite holds, with its own dict -/
def rIsErr (K : PySem.W.Frag) (D a : Addr) : List V → Hp → VK → Prop := fun xs H Q =>
  (∃ (c : V) (cv : Value) (b : Bool), xs = [.ref a, c] ∧ (∀ u, RelV c u → u = cv) ∧ PySem.W.kitOne K (.ref D) cv = some b ∧ Q (.bl b) H) ∨
  (∃ (tp : Addr) (cs : List V) (us : List Value) (b : Bool), xs = [.ref a, .ref tp] ∧ H tp = some (.tup cs) ∧ Paired ClsV cs us ∧
    PySem.W.kitAny K (.ref D) us = some b ∧ Q (.bl b) H)

theorem call_isErr {X : Cx} {a D : Addr} {oe : Obj} {cls : Value} {d : Option Addr} {pn : List (Addr × Obj)} (C : ExcC X.K D) (hz : Zc cls d oe)
    (hf : ∃ vs, oe.data = .fields vs) :
    CallR (X.suite a ((a, oe) :: pn)) (.builtin "isinstance")
      (fun xs H Q => cls = .ref D ∧ (∀ e, d = some e → ∃ fs, H e = some (.xd fs)) ∧ rIsErr X.K D a xs H Q) := by
  intro pins s σ H xs us Q I r h
  obtain ⟨ec0, hde, h⟩ := h
  subst ec0
  obtain ⟨hget, _⟩ := I.pin (a, oe) (List.mem_append.mpr (.inl List.mem_cons_self))
  obtain ⟨vs, hv⟩ := hf
  have J : ∃ ox od, PySem.W.InstAt s.heap a ox D od := by
    obtain ⟨oc, odd, oda, osl⟩ := oe
    obtain ⟨h1, h2⟩ := hz
    dsimp only at h1 h2 hv
    subst h1 h2 hv
    cases odd with
    | none => exact ⟨_, none, hget, rfl, rfl, trivial⟩
    | some e =>
      obtain ⟨fs, he⟩ := hde e rfl
      obtain ⟨mA, hns, _⟩ := (show ObjOk X.prog X.w H s.heap e (.xd fs) from I.hok e _ he)
      obtain ⟨od, ho, _⟩ := L2.lookIn_ns hns
      exact ⟨_, some od, hget, rfl, rfl, ho⟩
  rcases h with ⟨c, cv, b, rfl, hcv, e, q⟩ | ⟨tp, cs, ws, b, rfl, hT, k, e, q⟩
  · obtain ⟨u1, u2, rfl, r1, r2⟩ := vals2 r
    cases (show u1 = Value.ref a from r1)
    have ec := hcv _ r2
    subst ec
    exact PySem.W.kia_one (errKit C) I.kIn J e (fun z => nomatch z) fun tk => ⟨.bl b, H, I.tok tk, rfl, q⟩
  · obtain ⟨u1, u2, rfl, r1, r2⟩ := vals2 r
    cases (show u1 = Value.ref a from r1)
    cases (show u2 = Value.ref tp from r2)
    obtain ⟨_, its, rv, o, h1, h2, n, h3⟩ := (show ObjOk X.prog X.w H s.heap tp (.tup cs) from I.hok tp _ hT)
    have e3 := ClsV.all k rv
    subst e3
    obtain ⟨oc, od, dt, sl⟩ := o
    simp only at h2 h3
    subst h2 h3
    exact PySem.W.kia_tup (errKit C) I.kIn J h1 e (fun z => nomatch z) fun tk => ⟨.bl b, H, I.tok tk, rfl, q⟩
end LF

set_option Elab.async false
set_option linter.all false
set_option maxRecDepth 100000
set_option maxHeartbeats 4000000
namespace LF
open PySem PySem.Spec PyProof.Rows L2
def lettersN : Str := "abcdefghijklmnopqrstuvwxyz"
theorem low_code : ∀ c : Fin 128, (Unicode.isAlpha c.1 && !(Unicode.isUpper c.1 || Unicode.isTitle c.1)) = decide (c.1 ∈ lettersN.cps.toList) := by decide +kernel
theorem low_lower : ∀ c : Fin 128, c.1 ∈ lettersN.cps.toList → Unicode.isLower c.1 = true ∧ Unicode.isAlpha c.1 = true := by decide +kernel
theorem low_lt : ∀ c ∈ lettersN.cps.toList, c < 128 := by decide +kernel
theorem arr_all (a : Array Nat) (p : Nat → Bool) : a.all p = a.toList.all p := by rw [Array.all_toList]
theorem arr_any (a : Array Nat) (p : Nat → Bool) : a.any p = a.toList.any p := by rw [Array.any_toList]
/-- ASCII letters without capitals are a to z -/
theorem isLow {z : Str} (hz : 1 ≤ z.length) : (Txt.isascii z && (Txt.isalpha z && Txt.islower z)) = z.cps.toList.all fun c => decide (c ∈ lettersN.cps.toList) := by
  unfold Txt.isascii Txt.isalpha Txt.islower
  rw [arr_all, arr_all, arr_any, arr_any]
  have hl : z.cps.toList.length = z.length := by simp [Str.length]
  have hp : decide (z.length > 0) = true := decide_eq_true (by omega)
  rw [hp, Bool.true_and]
  generalize z.cps.toList = l at hl
  rw [Bool.eq_iff_iff]
  simp only [Bool.and_eq_true, List.all_eq_true, List.any_eq_true, Bool.not_eq_true', List.any_eq_false, decide_eq_true_eq, Bool.or_eq_true, not_or, Bool.not_eq_true]
  constructor
  · rintro ⟨h1, h2, ⟨_, _⟩, h4⟩ c hc
    have := low_code ⟨c, h1 c hc⟩
    simp only [h2 c hc, Bool.true_and] at this
    obtain ⟨h5, h6⟩ := h4 c hc
    rw [h5, h6] at this
    exact of_decide_eq_true this.symm
  · intro h
    have f := fun c hc => low_lower ⟨c, low_lt c (h c hc)⟩ (h c hc)
    refine ⟨fun c hc => low_lt c (h c hc), fun c hc => (f c hc).2, ?_, fun c hc => ?_⟩
    · cases l with
      | nil => simp at hl; omega
      | cons a l => exact ⟨a, List.mem_cons_self, (f a List.mem_cons_self).1⟩
    · have := low_code ⟨c, low_lt c (h c hc)⟩
      rw [(f c hc).2, Bool.true_and, decide_eq_true (h c hc)] at this
      simpa using this
/-- z.isascii() and its like -/
theorem pe_isascii {X : Cx} {o : Expr} {to : TE} {apos pos : Pos} (ho : PE X o to)
    (hbase : attributeBase o "isascii" X.env (eval o X.env) = eval o X.env := by rfl) (hline : (apos.endLine == pos.line) = true := by rfl) :
    PE X (.Call (.Attribute o "isascii" apos) [] [] pos) (tM0 (fun x xs H Q => ∃ a, x = .str a ∧ xs = [] ∧ True ∧ Q (.bl (Txt.isascii a)) H) to) :=
  pe_m0 F.slot_str_isascii F.type_str_isascii mt_isascii ho hbase hline
theorem pe_isalpha {X : Cx} {o : Expr} {to : TE} {apos pos : Pos} (ho : PE X o to)
    (hbase : attributeBase o "isalpha" X.env (eval o X.env) = eval o X.env := by rfl) (hline : (apos.endLine == pos.line) = true := by rfl) :
    PE X (.Call (.Attribute o "isalpha" apos) [] [] pos) (tM0 (fun x xs H Q => ∃ a, x = .str a ∧ xs = [] ∧ True ∧ Q (.bl (Txt.isalpha a)) H) to) :=
  pe_m0 F.slot_str_isalpha F.type_str_isalpha mt_isalpha ho hbase hline
theorem pe_islower {X : Cx} {o : Expr} {to : TE} {apos pos : Pos} (ho : PE X o to)
    (hbase : attributeBase o "islower" X.env (eval o X.env) = eval o X.env := by rfl) (hline : (apos.endLine == pos.line) = true := by rfl) :
    PE X (.Call (.Attribute o "islower" apos) [] [] pos) (tM0 (fun x xs H Q => ∃ a, x = .str a ∧ xs = [] ∧ True ∧ Q (.bl (Txt.islower a)) H) to) :=
  pe_m0 F.slot_str_islower F.type_str_islower mt_islower ho hbase hline
end LF

set_option Elab.async false
set_option linter.all false
set_option maxRecDepth 100000
set_option maxHeartbeats 4000000
namespace LF
open PySem PySem.Spec PyProof.Rows L2
/-- a def of the text: its promise, its place, how it is bound -/
structure DefAt (P : Program) (w : World) (K : PySem.W.Frag) (mg : Str → Option Value) (base : Heap) (x : Str) (k : Nat) (f : Addr) (fd : FuncData) (ps : List Str) (sp : Sp) : Prop where
  F : FnOk P w K mg base CX0 k f fd ps sp
  g : mg x = some (.ref f)
  kp : PySem.W.keepIn K (.ref f) = true
  b : Binds K fd ps []
theorem pe_callD {X : Cx} {x : Str} {k : Nat} {f : Addr} {fd : FuncData} {ps : List Str} {sp : Sp} {p pos : Pos} {e : Expr} {es : List Expr} {t : TA}
    (D : DefAt X.prog X.w X.K X.mg X.base x k f fd ps sp) (hr : Room k X.A) (ha : PA X (e :: es) t) (hg : Gl X x := by rfl)
    (hdb : (x == ("__debug__" : Str)) = false := by decide)
    (he : starEach (e :: es) X.env = (false, eval e X.env) :: starEach es X.env := by rfl) (hpl : (backTo pos (starEach es X.env)).any (·.1) = false := by rfl) :
    PE X (.Call (.Name x p) (e :: es) [] pos) (tCall sp [] E0 t) := pe_call D.F hr hg D.g D.kp D.b .nil pass0 ha hdb he hpl

/-- x.rpartition(sep) -/
theorem mt_rpartition {X : Cx} : MtR X "str.rpartition" (fun x xs H Q => ∃ a b, x = .str a ∧ xs = [.str b] ∧ (b.length == 0) = false ∧ a.length ≤ sizeLine ∧
    ∀ p, H p = none → Q (.ref p) (upd H p (.tup [.str (Txt.rpartition a b).1, .str (Txt.rpartition a b).2.1, .str (Txt.rpartition a b).2.2]))) := by
  rintro pins s σ H x xs v us Q I rx rs ⟨a, b, rfl, rfl, hb, hz, h⟩
  obtain ⟨t, rfl⟩ := rx
  obtain ⟨u, rfl, t2, rfl⟩ := vals1 rs
  refine call_meets F.slot_str_rpartition (typeIs_str _ _ _) F.entry_str_rpartition (F.args_str_rpartition_2 _ _) (meets_str_rpartition a b t t2 hb hz) ?_
  unfold Txt.rpartition at h
  revert h
  cases Builtin.Str.lastOccurrence a b 0 a.length with
  | none => exact fun h => laid_parts I h
  | some i => exact fun h => laid_parts I h
theorem pe_rpartition {X : Cx} {o e : Expr} {to te : TE} {apos pos : Pos} (ho : PE X o to) (he : PE X e te) (hs : starEach [e] X.env = [(false, eval e X.env)] := by rfl)
    (hbase : attributeBase o "rpartition" X.env (eval o X.env) = eval o X.env := by rfl) (hline : (apos.endLine == pos.line) = true := by rfl) :
    PE X (.Call (.Attribute o "rpartition" apos) [e] [] pos) (tM1 (fun x xs H Q => ∃ a b, x = .str a ∧ xs = [.str b] ∧ (b.length == 0) = false ∧ a.length ≤ sizeLine ∧
      ∀ p, H p = none → Q (.ref p) (upd H p (.tup [.str (Txt.rpartition a b).1, .str (Txt.rpartition a b).2.1, .str (Txt.rpartition a b).2.2]))) to te) :=
  pe_m1 F.slot_str_rpartition F.type_str_rpartition mt_rpartition ho he hs hbase hline
end LF

namespace LF
theorem ifD {p : Prop} [Decidable p] {A B : Prop} (h1 : p → A) (h2 : ¬ p → B) : if decide p = true then A else B := by
  by_cases h : p
  · rw [if_pos (decide_eq_true h)]; exact h1 h
  · rw [if_neg (by rw [decide_eq_false h]; exact Bool.false_ne_true)]; exact h2 h
theorem ifN {p : Prop} [Decidable p] {A B : Prop} (h1 : p → B) (h2 : ¬ p → A) : if (!decide p) = true then A else B := by
  by_cases h : p
  · rw [if_neg (by rw [decide_eq_true h]; exact Bool.false_ne_true)]; exact h1 h
  · rw [if_pos (by rw [decide_eq_false h]; rfl)]; exact h2 h
end LF
namespace KA
open PySem PySem.Spec PyProof.Rows L2 LF
def topS (i : Nat) : Stmt := PySem.Challenge.pw_linkfarms_k61_straight_forms.main.body.getD i (.Pass ⟨0, 0, 0, 0⟩)
def letters : Str := "abcdefghijklmnopqrstuvwxyz"
def isNm (z : Str) : Bool := decide (1 ≤ z.length ∧ z.length ≤ 8) && z.cps.toList.all fun c => decide (c ∈ letters.cps.toList)
/-- what the top has written, but the defs -/
structure Txt (K : PySem.W.Frag) (mg : Str → Option Value) (tk1 tk2 : Tok) : Prop where
  g_LONGEST_NAME : mg "LONGEST_NAME" = some (.int 8 tk2)
  n_isinstance : mg "isinstance" = none
  n_str : mg "str" = none
  n_len : mg "len" = none
  n_all : mg "all" = none
  n_any : mg "any" = none
  n_tuple : mg "tuple" = none
  n_list : mg "list" = none
  n_dict : mg "dict" = none
  n_sorted : mg "sorted" = none
  n_range : mg "range" = none
  n_zip : mg "zip" = none
  n_enumerate : mg "enumerate" = none
  n_set : mg "set" = none
  n_abs : mg "abs" = none
  n_int : mg "int" = none
  n_bool : mg "bool" = none
  n_repr : mg "repr" = none
  n_max : mg "max" = none
  n_min : mg "min" = none
  n_ValueError : mg "ValueError" = none

def notStr : List String := ["NoneType", "int", "bool", "list", "tuple", "dict"]
def spName (K : PySem.W.Frag) : Sp := fun vs H Q _ => ∃ x, vs = [x] ∧
  ((∃ z : Str, x = .str z ∧ z.length ≤ 1000000 ∧ ∀ H', Same H H' → Q (.bl (isNm z)) H') ∨
   (∃ t, TyX K H x t ∧ PySem.W.kitOne K t (.type "str") = some false ∧ ∀ H', Same H H' → Q (.bl false) H'))

abbrev s_is_name : Stmt := topS 2
abbrev N_is_name : List Str := ["thing"]
theorem sc_is_name : FnScope ["thing"] ["thing"] (defScope s_is_name) := ⟨rfl, rfl, rfl, by decide +kernel, rfl, by decide +kernel, by decide +kernel⟩

theorem kit_no {K : PySem.W.Frag} {t : String} (h : t ∈ notStr) : PySem.W.kitOne K (.type t) (.type "str") = some false := by
  simp only [notStr, List.mem_cons, List.not_mem_nil, or_false] at h
  rcases h with rfl | rfl | rfl | rfl | rfl | rfl <;> exact kit_ty (by decide +kernel)
theorem kit_str {K : PySem.W.Frag} : PySem.W.kitOne K (.type "str") (.type "str") = some true := kit_ty (by decide +kernel)
section
variable {P : Program} {w : World} {K : PySem.W.Frag} {mg : Str → Option Value} {base : Heap} {tk1 tk2 : Tok}
theorem ok_is_name {f : Addr} {fd : FuncData} (F : Fun K "is_name" "is_name" s_is_name f fd) (T : Txt K mg tk1 tk2) : FnOk P w K mg base CX0 1 f fd ["thing"] (spName K) := by
  refine F.ok sc_is_name (fun vs H Q E h => ?_) (fun cdv A outer s H vs Q E hr h => ?_)
  · obtain ⟨x, rfl, _⟩ := h
    rfl
  refine ⟨_, (pss_one (ps_ret (pe_and (pe_callB call_isi (by rfl) T.n_isinstance (by decide +kernel) (pa_cons (pv 0) (pa_cons (pe_bltn (v := .ty "str") (by rfl) T.n_str (by decide +kernel) rfl) pa_nil))) (pe_and (pe_chain op_le op_le pe_int (pe_callB call_len_str (by rfl) T.n_len (by decide +kernel) (pa_cons (pv 0) pa_nil)) (pe_glob (v := .int 8) rfl T.g_LONGEST_NAME ⟨_, rfl⟩)) (pe_and (pe_isascii (pv 0)) (pe_and (pe_isalpha (pv 0)) (pe_one (pe_islower (pv 0))))))))), ?_⟩
  obtain ⟨x, rfl, h⟩ := h
  rcases h with ⟨z, rfl, hz, hq⟩ | ⟨t, ht, ty, hq⟩
  · refine ⟨_, rfl, _, .ty "str", _, _, true, rfl, .ty _, .base (.str _), kit_str, ?_⟩
    refine ⟨_, rfl, iteT ?_⟩
    have hl : z.length ≤ sizeLine := Nat.le_trans hz (by decide)
    have q0 := hq H (Same.refl H)
    have fin : isNm z = (decide (1 ≤ z.length ∧ z.length ≤ 8) && (PySem.Txt.isascii z && (PySem.Txt.isalpha z && PySem.Txt.islower z))) := by
      unfold isNm
      by_cases h1 : 1 ≤ z.length
      · rw [isLow h1]; rfl
      · rw [decide_eq_false (by omega)]; rfl
    rw [fin] at q0
    refine ⟨_, rfl, z, rfl, hl, _, _, rfl, rfl, _, rfl, ?_⟩
    refine ifD (fun h1 => ?_) (fun h1 => ?_)
    · refine ⟨_, _, rfl, rfl, _, rfl, ?_⟩
      refine ifD (fun h2 => ?_) (fun h2 => ?_)
      · rw [decide_eq_true (show 1 ≤ z.length ∧ z.length ≤ 8 by omega), Bool.true_and] at q0
        refine ⟨_, rfl, ⟨_, rfl⟩, z, rfl, rfl, trivial, _, rfl, ?_⟩
        cases e1 : PySem.Txt.isascii z with
        | false => rw [e1] at q0; exact iteF q0
        | true =>
          rw [e1, Bool.true_and] at q0
          refine iteT ⟨_, rfl, ⟨_, rfl⟩, z, rfl, rfl, trivial, _, rfl, ?_⟩
          cases e2 : PySem.Txt.isalpha z with
          | false => rw [e2] at q0; exact iteF q0
          | true =>
            rw [e2, Bool.true_and] at q0
            exact iteT ⟨_, rfl, ⟨_, rfl⟩, z, rfl, rfl, trivial, q0⟩
      · rw [decide_eq_false (by omega), Bool.false_and] at q0
        exact q0
    · rw [decide_eq_false (by omega), Bool.false_and] at q0
      refine ⟨_, rfl, ?_⟩
      exact q0
  · have q0 := hq H (Same.refl H)
    refine ⟨_, rfl, _, .ty "str", _, _, false, rfl, .ty _, ht, ty, ?_⟩
    exact ⟨_, rfl, iteF q0⟩
end
end KA

set_option Elab.async false
set_option linter.all false
set_option maxRecDepth 100000
set_option maxHeartbeats 4000000
namespace LF
open PySem PySem.Spec PyProof.Rows L2
/-- all that was tracked but b is as it was -/
def Keep (b : Addr) (H H' : Hp) : Prop := ∀ a o, a ≠ b → H a = some o → H' a = some o
theorem Keep.refl (b : Addr) (H : Hp) : Keep b H H := fun _ _ _ e => e
theorem Keep.trans {b : Addr} {H H1 H2 : Hp} (x : Keep b H H1) (y : Keep b H1 H2) : Keep b H H2 := fun a o n e => y a o n (x a o n e)
theorem Same.keep {b : Addr} {H H' : Hp} (s : Same H H') : Keep b H H' := fun a o _ e => s a o e
theorem same_upd {H H' : Hp} {D : Addr} {o : HO} (hD : H D = none) (s : Same H H') : Same H (upd H' D o) := fun b u e => by
  rw [upd_ne (ne_of_none e hD)]; exact s b u e
theorem same_new {H : Hp} {D : Addr} {o : HO} (hD : H D = none) : Same H (upd H D o) := same_upd hD (Same.refl H)
theorem keep_upd {b : Addr} {H H' : Hp} {D : Addr} {o : HO} (hD : H D = none) (s : Keep b H H') : Keep b H (upd H' D o) := fun a u n e => by
  rw [upd_ne (ne_of_none e hD)]; exact s a u n e
theorem keep_put {b : Addr} {H H' : Hp} {o : HO} (s : Keep b H H') : Keep b H (upd H' b o) := fun a u n e => by
  rw [upd_ne n]; exact s a u n e
theorem Keep.free {b : Addr} {H H' : Hp} (s : Keep b H H') {D : Addr} (n : D ≠ b) (h : H' D = none) : H D = none := by
  cases q : H D with
  | none => rfl
  | some o => rw [s D o n q] at h; cases h
theorem keep_seq {b a : Addr} {H H' : Hp} {K : PySem.W.Frag} {xs : List V} (s : Keep b H H') (n : a ≠ b) (h : SqL K H a xs) : SqL K H' a xs := by
  rcases h with (h | ⟨o, h⟩) | h
  · exact Or.inl (Or.inl (s _ _ n h))
  · exact Or.inl (Or.inr ⟨o, s _ _ n h⟩)
  · exact Or.inr h

/-- the law's bag of draws -/
def BagAt (H : Hp) (b : Addr) : Prop := ∃ d x n : Int, H b = some (.lst [.int d, .int x, .int n]) ∧ 0 ≤ d ∧ 0 ≤ x ∧ x < 2147483647
theorem BagAt.keep {H H' : Hp} {b a : Addr} (h : BagAt H b) (s : Keep a H H') (n : b ≠ a) : BagAt H' b := by
  obtain ⟨d, x, m, e, r⟩ := h
  exact ⟨d, x, m, s _ _ n e, r⟩
theorem BagAt.same {H H' : Hp} {b : Addr} (h : BagAt H b) (s : Same H H') : BagAt H' b := by
  obtain ⟨d, x, m, e, r⟩ := h
  exact ⟨d, x, m, s _ _ e, r⟩
theorem BagAt.ne {H : Hp} {b D : Addr} (h : BagAt H b) (hD : H D = none) : D ≠ b := by
  obtain ⟨d, x, m, e, r⟩ := h
  exact Ne.symm (ne_of_none e hD)

section
variable {K : PySem.W.Frag} {a D b : Addr} {xs : List V} {tt : TT} {te : TE} {j : Nat} {σ : L2.St} {H : Hp} {Qd : Hp → Prop}
/-- a comprehension over a list, nothing tracked is changed: filter and map -/
theorem lc_filt (p : V → Bool) (f : V → V) (hD : H D = none) (hS : SqL K H a xs) (hlen : xs.length < sizeLine)
    (ht : ∀ x H1 (R : Bool → Hp → Prop), x ∈ xs → Same H H1 → (∀ H3, Same H1 H3 → R (p x) H3) → tt ((wipe σ [j]).set j (some x)) H1 R)
    (he : ∀ x H1 (R : V → Hp → Prop), x ∈ xs → p x = true → Same H H1 → (∀ H3, Same H1 H3 → R (f x) H3) → te ((wipe σ [j]).set j (some x)) H1 R)
    (hd : ∀ H', Same H H' → H' D = some (.lst ((xs.filter p).map f)) → Qd H') :
    ∃ W : Nat → Nat → Hp → Prop, (∃ m, W 0 m (upd H D (.lst []))) ∧ ∀ i m H, W i m H →
      ((Itl K a).stop i H ∧ Qd H) ∨ ((Itl K a).go i H ∧ ∃ Nx : Hp → Prop, (∀ H', Nx H' → ∃ m', m' < m ∧ W (i + 1) m' H') ∧ ∀ x H', (Itl K a).yld i H x H' → gName j x (wipe σ [j]) H' fun σ2 H2 => wipe σ2 [j] = wipe σ [j] ∧ tt σ2 H2 fun b H3 =>
        if b = true then te σ2 H3 fun y H4 => ∃ acc, H4 D = some (.lst acc) ∧ acc.length < sizeLine ∧ Nx (upd H4 D (.lst (acc ++ [y]))) else Nx H3) := by
  refine lc_list (Pv := fun i H' => Same H H' ∧ H' D = some (.lst (((xs.take i).filter p).map f))) ⟨same_new hD, upd_same⟩ (fun i H' _ h => sqL_same h.1 hS) ?_ ?_
  · rintro i x H1 hx ⟨sm, hd1⟩
    have hm := List.mem_of_getElem? hx
    have et : xs.take (i + 1) = xs.take i ++ [x] := by rw [List.take_add_one, hx]; rfl
    have hl : (((xs.take i).filter p).map f).length < sizeLine := by
      rw [List.length_map]
      have h1 : ((xs.take i).filter p).length ≤ (xs.take i).length := List.length_filter_le _ _
      have h2 : (xs.take i).length ≤ xs.length := by rw [List.length_take]; exact Nat.min_le_right _ _
      omega
    refine ⟨?_, ht x H1 _ hm sm fun H3 s3 => ?_⟩
    · show (wipe ((wipe σ [j]).set j (some x)) [j]) = wipe σ [j]
      show (((σ.set j none).set j (some x)).set j none) = σ.set j none
      simp
    · cases hp : p x with
      | true =>
        refine iteT (he x H3 _ hm hp (sm.trans s3) fun H4 s4 => ?_)
        refine ⟨_, s4 _ _ (s3 _ _ hd1), hl, same_upd hD ((sm.trans s3).trans s4), ?_⟩
        rw [upd_same, et, List.filter_append, List.map_append]
        simp [hp]
      | false =>
        refine iteF ⟨sm.trans s3, ?_⟩
        rw [s3 _ _ hd1, et, List.filter_append, List.map_append]
        simp [hp]
  · rintro H1 ⟨sm, hd1⟩
    rw [List.take_length] at hd1
    exact hd H1 sm hd1
/-- a comprehension over range(n) whose element draws from the bag at b -/
theorem lc_draw {lo : Int} {n : Nat} (Good : V → Prop) (hb : BagAt H b) (hD : H D = none) (hlen : n < sizeLine)
    (he : ∀ i H1 (R : V → Hp → Prop), i < n → Keep b H H1 → BagAt H1 b → (∀ y H3, Keep b H1 H3 → BagAt H3 b → Good y → R y H3) → te ((wipe σ [j]).set j (some (.int (lo + i)))) H1 R)
    (hd : ∀ H' acc, Keep b H H' → BagAt H' b → H' D = some (.lst acc) → acc.length = n → (∀ y ∈ acc, Good y) → Qd H') :
    ∃ W : Nat → Nat → Hp → Prop, (∃ m, W 0 m (upd H D (.lst []))) ∧ ∀ i m H, W i m H →
      ((Itr lo n).stop i H ∧ Qd H) ∨ ((Itr lo n).go i H ∧ ∃ Nx : Hp → Prop, (∀ H', Nx H' → ∃ m', m' < m ∧ W (i + 1) m' H') ∧ ∀ x H', (Itr lo n).yld i H x H' → gName j x (wipe σ [j]) H' fun σ2 H2 => wipe σ2 [j] = wipe σ [j] ∧ tYes σ2 H2 fun b H3 =>
        if b = true then te σ2 H3 fun y H4 => ∃ acc, H4 D = some (.lst acc) ∧ acc.length < sizeLine ∧ Nx (upd H4 D (.lst (acc ++ [y]))) else Nx H3) := by
  have nDb := hb.ne hD
  refine lc_range (Pv := fun i H' => Keep b H H' ∧ BagAt H' b ∧ ∃ acc, H' D = some (.lst acc) ∧ acc.length = i ∧ ∀ y ∈ acc, Good y)
    ⟨keep_upd hD (Keep.refl b H), hb.same (same_new hD), [], upd_same, rfl, fun _ h => nomatch h⟩ ?_ ?_
  · rintro i H1 hi ⟨kp, bg, acc, hacc, hl, hg⟩
    refine ⟨?_, ?_⟩
    · show (((σ.set j none).set j (some (V.int (lo + i)))).set j none) = σ.set j none
      simp
    · refine he i H1 _ hi kp bg fun y H3 k3 b3 gy => ?_
      have h3 := k3 D _ nDb hacc
      refine ⟨acc, h3, by omega, keep_upd hD (kp.trans k3), ?_, acc ++ [y], upd_same, by simp [hl], ?_⟩
      · obtain ⟨d, x, m, e, r⟩ := b3
        exact ⟨d, x, m, by rw [upd_ne nDb.symm]; exact e, r⟩
      · intro z hz
        rcases List.mem_append.mp hz with q | q
        · exact hg z q
        · rw [List.mem_singleton.mp q]; exact gy
  · rintro H1 ⟨kp, bg, acc, hacc, hl, hg⟩
    exact hd H1 acc kp bg hacc hl hg
end
end LF

set_option Elab.async false
set_option linter.all false
set_option maxRecDepth 100000
set_option maxHeartbeats 4000000
namespace LF
open PySem PySem.Spec PyProof.Rows L2
open Evl (Ev EvL EvU EvT EvA Ex sq_of st_of)
/-! data over what is tracked -/
mutual
inductive Dq (H : Hp) : V → PyData → Prop
  | non : Dq H .non .none
  | bl (b : Bool) : Dq H (.bl b) (.bool b)
  | int (i : Int) : Dq H (.int i) (.int i)
  | str (x : Str) (hl : x.length ≤ 1000) (ho : PyData.strOk x = true) : Dq H (.str x) (.str x)
  | lst {a : Addr} {xs : List V} {ds : List PyData} : H a = some (.lst xs) → DqAll H xs ds → xs.length ≤ 1000 → Dq H (.ref a) (.list ds)
  | tup {a : Addr} {xs : List V} {ds : List PyData} : H a = some (.tup xs) → DqAll H xs ds → xs.length ≤ 1000 → Dq H (.ref a) (.tuple ds)
inductive DqAll (H : Hp) : List V → List PyData → Prop
  | nil : DqAll H [] []
  | cons {v : V} {vs : List V} {d : PyData} {ds : List PyData} : Dq H v d → DqAll H vs ds → DqAll H (v :: vs) (d :: ds)
end
mutual
theorem Dq.same {H H' : Hp} (s : Ex H H') : ∀ (d : PyData) (v : V), Dq H v d → Dq H' v d
  | .none, _, h => by cases h; exact .non
  | .bool _, _, h => by cases h; exact .bl _
  | .int _, _, h => by cases h; exact .int _
  | .str _, _, h => by cases h with | str _ h1 h2 => exact .str _ h1 h2
  | .list ds, _, h => by cases h with | lst h1 h2 h3 => exact .lst (s _ _ h1) (DqAll.same s ds _ h2) h3
  | .tuple ds, _, h => by cases h with | tup h1 h2 h3 => exact .tup (s _ _ h1) (DqAll.same s ds _ h2) h3
  | .dict _, _, h => by cases h
theorem DqAll.same {H H' : Hp} (s : Ex H H') : ∀ (ds : List PyData) (vs : List V), DqAll H vs ds → DqAll H' vs ds
  | [], _, h => by cases h; exact .nil
  | d :: ds, _, h => by cases h with | cons h1 h2 => exact .cons (Dq.same s d _ h1) (DqAll.same s ds _ h2)
end
mutual
theorem Dq.dp {K : PySem.W.Frag} {H : Hp} : ∀ (d : PyData) (v : V), Dq H v d → Dp K H v d
  | .none, _, h => by cases h; exact .non
  | .bool _, _, h => by cases h; exact .bl _
  | .int _, _, h => by cases h; exact .int _
  | .str _, _, h => by cases h; exact .str _
  | .list ds, _, h => by cases h with | lst h1 h2 h3 => exact .lst (SqL.of h1) (DqAll.dp ds _ h2)
  | .tuple ds, _, h => by cases h with | tup h1 h2 h3 => exact .tup (SqT.of h1) (DqAll.dp ds _ h2)
  | .dict _, _, h => by cases h
theorem DqAll.dp {K : PySem.W.Frag} {H : Hp} : ∀ (ds : List PyData) (vs : List V), DqAll H vs ds → DpAll K H vs ds
  | [], _, h => by cases h; exact .nil
  | d :: ds, _, h => by cases h with | cons h1 h2 => exact .cons (Dq.dp d _ h1) (DqAll.dp ds _ h2)
end
mutual
theorem Dq.lay {H : Hp} : ∀ (d : PyData) (v : V), Dq H v d → PyData.canLay0 d = true
  | .none, _, h => by simp [PyData.canLay0]
  | .bool _, _, h => by simp [PyData.canLay0]
  | .int _, _, h => by simp [PyData.canLay0]
  | .str _, _, h => by cases h with | str _ h1 h2 => simpa [PyData.canLay0] using h2
  | .list ds, _, h => by cases h with | lst h1 h2 h3 => simpa [PyData.canLay0] using DqAll.lay ds _ h2
  | .tuple ds, _, h => by cases h with | tup h1 h2 h3 => simpa [PyData.canLay0] using DqAll.lay ds _ h2
  | .dict _, _, h => by cases h
theorem DqAll.lay {H : Hp} : ∀ (ds : List PyData) (vs : List V), DqAll H vs ds → PyData.canLayAll0 ds = true
  | [], _, h => by simp [PyData.canLayAll0]
  | d :: ds, _, h => by cases h with | cons h1 h2 => simp [PyData.canLayAll0, Dq.lay d _ h1, DqAll.lay ds _ h2]
end
theorem DqAll.len {H : Hp} : ∀ {vs : List V} {ds : List PyData}, DqAll H vs ds → vs.length = ds.length
  | _, _, .nil => rfl
  | _, _, .cons _ h => by rw [List.length_cons, List.length_cons, h.len]
theorem DqAll.get {H : Hp} : ∀ {vs : List V} {ds : List PyData} (i : Nat) {x : V}, DqAll H vs ds → vs[i]? = some x → ∃ d, ds[i]? = some d ∧ Dq H x d
  | _, _, i, _, .nil, h => by simp at h
  | _, _, 0, _, .cons h1 _, h => ⟨_, rfl, by cases (show some _ = some _ from h); exact h1⟩
  | _, _, i + 1, _, .cons _ h2, h => DqAll.get (vs := _) (ds := _) i h2 h
theorem DqAll.get' {H : Hp} : ∀ {vs : List V} {ds : List PyData} (i : Nat) {d : PyData}, DqAll H vs ds → ds[i]? = some d → ∃ x, vs[i]? = some x ∧ Dq H x d
  | _, _, i, _, .nil, h => by simp at h
  | _, _, 0, _, .cons h1 _, h => ⟨_, rfl, by cases (show some _ = some _ from h); exact h1⟩
  | _, _, i + 1, _, .cons _ h2, h => DqAll.get' (vs := _) (ds := _) i h2 h
/-! what kind of data -/
def tyN : PyData → String
  | .none => "NoneType" | .bool _ => "bool" | .int _ => "int" | .str _ => "str" | .list _ => "list" | .tuple _ => "tuple" | .dict _ => "dict"
def isStr : PyData → Bool | .str _ => true | _ => false
def isTup : PyData → Bool | .tuple _ => true | _ => false
def isLst : PyData → Bool | .list _ => true | _ => false
def isBol : PyData → Bool | .bool _ => true | _ => false
def isNum : PyData → Bool | .bool _ => true | .int _ => true | _ => false
def items : PyData → List PyData | .tuple ds => ds | .list ds => ds | _ => []
def at' (d : PyData) (i : Nat) : PyData := (items d).getD i .none
def txt : PyData → Str | .str z => z | _ => ""
def num : PyData → Int | .int i => i | .bool b => if b then 1 else 0 | _ => 0
theorem Dq.ty {K : PySem.W.Frag} {H : Hp} {d : PyData} {v : V} (h : Dq H v d) : TyX K H v (.type (tyN d)) := by
  cases h with
  | non => exact .base .non
  | bl b => exact .base (.bl b)
  | int i => exact .base (.int i)
  | str x _ _ => exact .base (.str x)
  | lst e _ _ => exact .base (.lst e)
  | tup e _ _ => exact .base (.tup e)
theorem kit_str' {K : PySem.W.Frag} : ∀ d : PyData, PySem.W.kitOne K (.type (tyN d)) (.type "str") = some (isStr d)
  | .none => (kit_ty (by decide +kernel) : PySem.W.kitOne K (.type "NoneType") (.type "str") = some false)
  | .bool _ => (kit_ty (by decide +kernel) : PySem.W.kitOne K (.type "bool") (.type "str") = some false)
  | .int _ => (kit_ty (by decide +kernel) : PySem.W.kitOne K (.type "int") (.type "str") = some false)
  | .str _ => (kit_ty (by decide +kernel) : PySem.W.kitOne K (.type "str") (.type "str") = some true)
  | .list _ => (kit_ty (by decide +kernel) : PySem.W.kitOne K (.type "list") (.type "str") = some false)
  | .tuple _ => (kit_ty (by decide +kernel) : PySem.W.kitOne K (.type "tuple") (.type "str") = some false)
  | .dict _ => (kit_ty (by decide +kernel) : PySem.W.kitOne K (.type "dict") (.type "str") = some false)
theorem kit_tup' {K : PySem.W.Frag} : ∀ d : PyData, PySem.W.kitOne K (.type (tyN d)) (.type "tuple") = some (isTup d)
  | .none => (kit_ty (by decide +kernel) : PySem.W.kitOne K (.type "NoneType") (.type "tuple") = some false)
  | .bool _ => (kit_ty (by decide +kernel) : PySem.W.kitOne K (.type "bool") (.type "tuple") = some false)
  | .int _ => (kit_ty (by decide +kernel) : PySem.W.kitOne K (.type "int") (.type "tuple") = some false)
  | .str _ => (kit_ty (by decide +kernel) : PySem.W.kitOne K (.type "str") (.type "tuple") = some false)
  | .list _ => (kit_ty (by decide +kernel) : PySem.W.kitOne K (.type "list") (.type "tuple") = some false)
  | .tuple _ => (kit_ty (by decide +kernel) : PySem.W.kitOne K (.type "tuple") (.type "tuple") = some true)
  | .dict _ => (kit_ty (by decide +kernel) : PySem.W.kitOne K (.type "dict") (.type "tuple") = some false)
theorem kit_lst' {K : PySem.W.Frag} : ∀ d : PyData, PySem.W.kitOne K (.type (tyN d)) (.type "list") = some (isLst d)
  | .none => (kit_ty (by decide +kernel) : PySem.W.kitOne K (.type "NoneType") (.type "list") = some false)
  | .bool _ => (kit_ty (by decide +kernel) : PySem.W.kitOne K (.type "bool") (.type "list") = some false)
  | .int _ => (kit_ty (by decide +kernel) : PySem.W.kitOne K (.type "int") (.type "list") = some false)
  | .str _ => (kit_ty (by decide +kernel) : PySem.W.kitOne K (.type "str") (.type "list") = some false)
  | .list _ => (kit_ty (by decide +kernel) : PySem.W.kitOne K (.type "list") (.type "list") = some true)
  | .tuple _ => (kit_ty (by decide +kernel) : PySem.W.kitOne K (.type "tuple") (.type "list") = some false)
  | .dict _ => (kit_ty (by decide +kernel) : PySem.W.kitOne K (.type "dict") (.type "list") = some false)
theorem kit_bol' {K : PySem.W.Frag} : ∀ d : PyData, PySem.W.kitOne K (.type (tyN d)) (.type "bool") = some (isBol d)
  | .none => (kit_ty (by decide +kernel) : PySem.W.kitOne K (.type "NoneType") (.type "bool") = some false)
  | .bool _ => (kit_ty (by decide +kernel) : PySem.W.kitOne K (.type "bool") (.type "bool") = some true)
  | .int _ => (kit_ty (by decide +kernel) : PySem.W.kitOne K (.type "int") (.type "bool") = some false)
  | .str _ => (kit_ty (by decide +kernel) : PySem.W.kitOne K (.type "str") (.type "bool") = some false)
  | .list _ => (kit_ty (by decide +kernel) : PySem.W.kitOne K (.type "list") (.type "bool") = some false)
  | .tuple _ => (kit_ty (by decide +kernel) : PySem.W.kitOne K (.type "tuple") (.type "bool") = some false)
  | .dict _ => (kit_ty (by decide +kernel) : PySem.W.kitOne K (.type "dict") (.type "bool") = some false)
theorem kit_int' {K : PySem.W.Frag} : ∀ d : PyData, PySem.W.kitOne K (.type (tyN d)) (.type "int") = some (isNum d)
  | .none => (kit_ty (by decide +kernel) : PySem.W.kitOne K (.type "NoneType") (.type "int") = some false)
  | .bool _ => (kit_ty (by decide +kernel) : PySem.W.kitOne K (.type "bool") (.type "int") = some true)
  | .int _ => (kit_ty (by decide +kernel) : PySem.W.kitOne K (.type "int") (.type "int") = some true)
  | .str _ => (kit_ty (by decide +kernel) : PySem.W.kitOne K (.type "str") (.type "int") = some false)
  | .list _ => (kit_ty (by decide +kernel) : PySem.W.kitOne K (.type "list") (.type "int") = some false)
  | .tuple _ => (kit_ty (by decide +kernel) : PySem.W.kitOne K (.type "tuple") (.type "int") = some false)
  | .dict _ => (kit_ty (by decide +kernel) : PySem.W.kitOne K (.type "dict") (.type "int") = some false)
/-- what a reading gives, as data -/
def EvD (te : TE) (σ : L2.St) (H : Hp) (d : PyData) : Prop := ∃ x, Ev te σ H x ∧ Dq H x d
def spD (g : PyData → Bool) : Sp := fun vs H Q _ => ∃ x d, vs = [x] ∧ Dq H x d ∧ ∀ H', Ex H H' → Q (.bl (g d)) H'
section
variable {K : PySem.W.Frag} {σ : L2.St} {H H' : Hp} {ta tb te tx : TE} {t u : TT} {x y z v : V} {d e : PyData}
theorem EvD.mono (s : Ex H H') (h : EvD te σ H d) : EvD te σ H' d := by
  obtain ⟨x, h1, h2⟩ := h
  exact ⟨x, h1.mono s, Dq.same s _ _ h2⟩
theorem evd_var {i : Nat} (h : σ[i]? = some (some x)) (hd : Dq H x d) : EvD (tVar i) σ H d := ⟨x, Evl.ev_var h, hd⟩
theorem ev_isi {T : String} {b : Bool} (h : EvD te σ H d) (hk : PySem.W.kitOne K (.type (tyN d)) (.type T) = some b) : Ev (tCB (rIsi K) (tCons te (tCons (tC (.ty T)) tNil))) σ H (.bl b) := by
  obtain ⟨x, h1, h2⟩ := h
  refine Evl.ev_cb (vs := [x, .ty T]) (Evl.ea_cons h1 (Evl.ea_cons Evl.ev_c Evl.ea_nil)) fun H1 e Q q => ?_
  exact ⟨x, .ty T, _, _, b, rfl, .ty T, (Dq.same e _ _ h2).ty, hk, q H1 (Ex.refl H1)⟩
theorem Dq.tupE (h : Dq H x d) (ht : isTup d = true) : ∃ a xs, x = .ref a ∧ H a = some (.tup xs) ∧ DqAll H xs (items d) ∧ xs.length ≤ 1000 ∧ xs.length = (items d).length := by
  cases h with
  | tup h1 h2 h3 => exact ⟨_, _, rfl, h1, h2, h3, h2.len⟩
  | _ => cases ht
theorem Dq.lstE (h : Dq H x d) (ht : isLst d = true) : ∃ a xs, x = .ref a ∧ H a = some (.lst xs) ∧ DqAll H xs (items d) ∧ xs.length ≤ 1000 ∧ xs.length = (items d).length := by
  cases h with
  | lst h1 h2 h3 => exact ⟨_, _, rfl, h1, h2, h3, h2.len⟩
  | _ => cases ht
theorem Dq.strE (h : Dq H x d) (ht : isStr d = true) : x = .str (txt d) ∧ (txt d).length ≤ 1000 ∧ PyData.strOk (txt d) = true ∧ d = .str (txt d) := by
  cases h with
  | str z h1 h2 => exact ⟨rfl, h1, h2, rfl⟩
  | _ => cases ht
theorem Dq.intE (h : Dq H x d) (ht : isNum d = true) (hb : isBol d = false) : x = .int (num d) ∧ d = .int (num d) := by
  cases h with
  | int i => exact ⟨rfl, rfl⟩
  | bl b => cases hb
  | _ => cases ht
theorem ev_lenD (h : EvD te σ H d) (ht : isTup d = true ∨ isLst d = true) : Ev (tCB (Evl.rLenS K) (tCons te tNil)) σ H (.int ((items d).length : Int)) := by
  obtain ⟨x, h1, h2⟩ := h
  refine Evl.ev_cb (vs := [x]) (Evl.ea_cons h1 Evl.ea_nil) fun H1 e Q q => ?_
  rcases ht with ht | ht
  · obtain ⟨a, xs, rfl, ha, _, _, hl⟩ := h2.tupE ht
    exact ⟨a, xs, rfl, Or.inr (st_of (e _ _ ha)), by rw [hl]; exact q H1 (Ex.refl H1)⟩
  · obtain ⟨a, xs, rfl, ha, _, _, hl⟩ := h2.lstE ht
    exact ⟨a, xs, rfl, Or.inl (sq_of (e _ _ ha)), by rw [hl]; exact q H1 (Ex.refl H1)⟩
theorem atI_nat' {xs : List V} {i : Nat} {y : V} (h : xs[i]? = some y) : atI xs (i : Int) = some y := atI_nat h
theorem evd_atT {i : Nat} (h : EvD te σ H d) (ht : isTup d = true) (hi : i < (items d).length) (hb : Ev tb σ H (.int (i : Int))) : EvD (tOp (rIxT K) te tb) σ H (at' d i) := by
  obtain ⟨x, h1, h2⟩ := h
  obtain ⟨a, xs, rfl, ha, hd, _, hl⟩ := h2.tupE ht
  obtain ⟨y, hy, hq⟩ := hd.get' i (List.getElem?_eq_getElem hi)
  refine ⟨y, Evl.ev_op h1 hb (Evl.rv_ixT (st_of ha) (atI_nat' hy)), ?_⟩
  have e : at' d i = (items d)[i] := by unfold at'; rw [List.getD_eq_getElem?_getD, List.getElem?_eq_getElem hi]; rfl
  rw [e]; exact hq
theorem evd_atL {i : Nat} (h : EvD te σ H d) (ht : isLst d = true) (hi : i < (items d).length) (hb : Ev tb σ H (.int (i : Int))) : EvD (tOp (rIxL K) te tb) σ H (at' d i) := by
  obtain ⟨x, h1, h2⟩ := h
  obtain ⟨a, xs, rfl, ha, hd, _, hl⟩ := h2.lstE ht
  obtain ⟨y, hy, hq⟩ := hd.get' i (List.getElem?_eq_getElem hi)
  refine ⟨y, Evl.ev_op h1 hb (Evl.rv_ixL (sq_of ha) (atI_nat' hy)), ?_⟩
  have e : at' d i = (items d)[i] := by unfold at'; rw [List.getD_eq_getElem?_getD, List.getElem?_eq_getElem hi]; rfl
  rw [e]; exact hq
theorem ev_callB1 {g : PyData → Bool} {E : XK} (h : EvD te σ H d) : Ev (tCall (spD g) [] E (tCons te tNil)) σ H (.bl (g d)) := by
  obtain ⟨x, h1, h2⟩ := h
  exact Evl.ev_call (vs := [x]) (Evl.ea_cons h1 Evl.ea_nil) fun H1 e Q q E => ⟨x, d, rfl, Dq.same e _ _ h2, fun H2 e2 => q H2 e2⟩
theorem vint_dec (i j : Int) : decide (V.int i = V.int j) = decide (i = j) := by
  by_cases h : i = j
  · subst h; simp
  · rw [decide_eq_false h, decide_eq_false (fun e => h (V.int.inj e))]
theorem vstr_dec (z y : Str) : decide (V.str z = V.str y) = decide (z = y) := by
  by_cases h : z = y
  · subst h; simp
  · rw [decide_eq_false h, decide_eq_false (fun e => h (V.str.inj e))]
theorem ev_eqI {i j : Int} (ha : Ev ta σ H (.int i)) (hb : Ev tb σ H (.int j)) : Ev (tOp rEq ta tb) σ H (.bl (decide (i = j))) :=
  Evl.ev_is (Evl.ev_op ha hb (Evl.rv_eq rfl)) (by rw [vint_dec])
theorem ev_eqS {z w : Str} (ha : Ev ta σ H (.str z)) (hb : Ev tb σ H (.str w)) : Ev (tOp rEq ta tb) σ H (.bl (decide (z = w))) :=
  Evl.ev_is (Evl.ev_op ha hb (Evl.rv_eq rfl)) (by rw [vstr_dec])
theorem EvD.strE (h : EvD te σ H d) (ht : isStr d = true) : Ev te σ H (.str (txt d)) := by
  obtain ⟨x, h1, h2⟩ := h
  rw [(h2.strE ht).1] at h1
  exact h1
theorem EvD.intE (h : EvD te σ H d) (ht : isNum d = true) (hb : isBol d = false) : Ev te σ H (.int (num d)) := by
  obtain ⟨x, h1, h2⟩ := h
  rw [(h2.intE ht hb).1] at h1
  exact h1
theorem ev_allB {bs : List Bool} (h : EvL te σ H (bs.map V.bl)) : Ev (tCB (rAll K) (tCons te tNil)) σ H (.bl (bs.all id)) := fun H1 e Q q =>
  h H1 e _ fun p H2 _ e2 h2 => ⟨p, bs, rfl, sq_of h2, q H2 e2⟩
/-- a comprehension over a tuple, each item once: what the element gives, item by item -/
theorem el_lcTm {a : Addr} {xs : List V} {tl : TE} {g : TG} {vs : List Nat} (ys : List V) (h : Ev tl σ H (.ref a)) (hx : H a = some (.tup xs)) (hl : ys.length = xs.length) (hz : xs.length ≤ 40000)
    (hs : ∀ (i : Nat) (x y : V) (H1 : Hp) (R : L2.St → Hp → Prop), Ex H H1 → xs[i]? = some x → ys[i]? = some y → (∀ σ2, wipe σ2 vs = wipe σ vs → Ev te σ2 H1 y → R σ2 H1) → g x (wipe σ vs) H1 R) :
    EvL (tLc (iTup K tl) g tYes te vs) σ H ys := fun H0 e Q q => h H0 e _ fun H1 e1 => ⟨a, rfl, ⟨xs, st_of ((e.trans e1) _ _ hx)⟩, fun Dl hD =>
  lc_tup (xs := xs) (fun i H' => Ex H1 H' ∧ H' Dl = some (.lst (ys.take i))) ⟨Ex.new hD, by rw [List.take_zero]; exact upd_same⟩ (fun i H' _ p => st_of (p.1 _ _ ((e.trans e1) _ _ hx))) (fun i x H' hi p => by
    have hi' : i < xs.length := (List.getElem?_eq_some_iff.mp hi).1
    have hy : ys[i]? = some ys[i] := List.getElem?_eq_getElem (by omega)
    refine hs i x _ H' _ ((e.trans e1).trans p.1) hi hy fun σ2 hw hev => ?_
    have key : te σ2 H' (fun y H4 => ∃ acc, H4 Dl = some (.lst acc) ∧ acc.length < sizeLine ∧ (Ex H1 (upd H4 Dl (.lst (acc ++ [y]))) ∧ upd H4 Dl (.lst (acc ++ [y])) Dl = some (.lst (ys.take (i + 1))))) := ?_
    · exact ⟨hw, key⟩
    refine hev H' (Ex.refl H') _ fun H4 e4 => ⟨ys.take i, e4 _ _ p.2, ?_, Ex.mut (p.1.trans e4) hD, ?_⟩
    · rw [List.length_take]; exact Evl.sz_lt (by omega)
    · rw [upd_same, List.take_add_one, hy]; rfl) (fun H' p => q Dl H' (Evl.fresh_back e1 hD) (e1.trans p.1) (by
    have := p.2
    rw [List.take_of_length_le (by omega)] at this
    exact this))⟩
/-- the same over a list -/
theorem el_lcLm {a : Addr} {xs : List V} {tl : TE} {g : TG} {vs : List Nat} (ys : List V) (h : Ev tl σ H (.ref a)) (hx : H a = some (.lst xs)) (hl : ys.length = xs.length) (hz : xs.length ≤ 40000)
    (hs : ∀ (i : Nat) (x y : V) (H1 : Hp) (R : L2.St → Hp → Prop), Ex H H1 → xs[i]? = some x → ys[i]? = some y → (∀ σ2, wipe σ2 vs = wipe σ vs → Ev te σ2 H1 y → R σ2 H1) → g x (wipe σ vs) H1 R) :
    EvL (tLc (iList K tl) g tYes te vs) σ H ys := fun H0 e Q q => h H0 e _ fun H1 e1 => ⟨a, rfl, ⟨xs, sq_of ((e.trans e1) _ _ hx)⟩, fun Dl hD =>
  lc_list (xs := xs) (fun i H' => Ex H1 H' ∧ H' Dl = some (.lst (ys.take i))) ⟨Ex.new hD, by rw [List.take_zero]; exact upd_same⟩ (fun i H' _ p => sq_of (p.1 _ _ ((e.trans e1) _ _ hx))) (fun i x H' hi p => by
    have hi' : i < xs.length := (List.getElem?_eq_some_iff.mp hi).1
    have hy : ys[i]? = some ys[i] := List.getElem?_eq_getElem (by omega)
    refine hs i x _ H' _ ((e.trans e1).trans p.1) hi hy fun σ2 hw hev => ?_
    have key : te σ2 H' (fun y H4 => ∃ acc, H4 Dl = some (.lst acc) ∧ acc.length < sizeLine ∧ (Ex H1 (upd H4 Dl (.lst (acc ++ [y]))) ∧ upd H4 Dl (.lst (acc ++ [y])) Dl = some (.lst (ys.take (i + 1))))) := ?_
    · exact ⟨hw, key⟩
    refine hev H' (Ex.refl H') _ fun H4 e4 => ⟨ys.take i, e4 _ _ p.2, ?_, Ex.mut (p.1.trans e4) hD, ?_⟩
    · rw [List.length_take]; exact Evl.sz_lt (by omega)
    · rw [upd_same, List.take_add_one, hy]; rfl) (fun H' p => q Dl H' (Evl.fresh_back e1 hD) (e1.trans p.1) (by
    have := p.2
    rw [List.take_of_length_le (by omega)] at this
    exact this))⟩
theorem wipe_set {σ : L2.St} {j : Nat} {x : V} : wipe ((wipe σ [j]).set j (some x)) [j] = wipe σ [j] := by
  show ((σ.set j none).set j (some x)).set j none = σ.set j none
  simp
/-- all([f(x) for x in tuple]) by data -/
theorem ev_allT {j : Nat} {tl : TE} (g : PyData → Bool) (h : EvD tl σ H d) (ht : isTup d = true) (hs : ∀ x d' H1, Ex H H1 → Dq H1 x d' → d' ∈ items d → Ev te ((wipe σ [j]).set j (some x)) H1 (.bl (g d'))) :
    Ev (tCB (rAll K) (tCons (tLc (iTup K tl) (gName j) tYes te [j]) tNil)) σ H (.bl ((items d).all g)) := by
  obtain ⟨x, h1, h2⟩ := h
  obtain ⟨a, xs, rfl, ha, hd, hz, hl⟩ := h2.tupE ht
  refine Evl.ev_is (ev_allB (bs := (items d).map g) ?_) (by rw [List.all_map]; rfl)
  refine el_lcTm (K := K) _ h1 ha (by rw [List.length_map, List.length_map, hl]) (by omega) fun i x y H1 R e hx hy k => ?_
  obtain ⟨d', hd', hq⟩ := hd.get i hx
  rw [List.getElem?_map, List.getElem?_map, hd'] at hy
  cases (show some (V.bl (g d')) = some y from hy)
  exact k _ wipe_set (hs x d' H1 e (Dq.same e _ _ hq) (List.mem_of_getElem? hd'))
theorem ev_allL {j : Nat} {tl : TE} (g : PyData → Bool) (h : EvD tl σ H d) (ht : isLst d = true) (hs : ∀ x d' H1, Ex H H1 → Dq H1 x d' → d' ∈ items d → Ev te ((wipe σ [j]).set j (some x)) H1 (.bl (g d'))) :
    Ev (tCB (rAll K) (tCons (tLc (iList K tl) (gName j) tYes te [j]) tNil)) σ H (.bl ((items d).all g)) := by
  obtain ⟨x, h1, h2⟩ := h
  obtain ⟨a, xs, rfl, ha, hd, hz, hl⟩ := h2.lstE ht
  refine Evl.ev_is (ev_allB (bs := (items d).map g) ?_) (by rw [List.all_map]; rfl)
  refine el_lcLm (K := K) _ h1 ha (by rw [List.length_map, List.length_map, hl]) (by omega) fun i x y H1 R e hx hy k => ?_
  obtain ⟨d', hd', hq⟩ := hd.get i hx
  rw [List.getElem?_map, List.getElem?_map, hd'] at hy
  cases (show some (V.bl (g d')) = some y from hy)
  exact k _ wipe_set (hs x d' H1 e (Dq.same e _ _ hq) (List.mem_of_getElem? hd'))
end
end LF

set_option Elab.async false
set_option linter.all false
set_option maxRecDepth 100000
set_option maxHeartbeats 4000000
namespace LF
open PySem PySem.Spec PyProof.Rows L2
open Evl (Ev EvL EvU EvT EvA Ex sq_of st_of)
/-- < of two ints, of two texts -/
def rLtV : R2 := fun x y H Q => (∃ i j, x = .int i ∧ y = .int j ∧ Q (.bl (decide (i < j))) H) ∨ (∃ i j : Str, x = .str i ∧ y = .str j ∧ Q (.bl (decide (i.cps.toList < j.cps.toList))) H)
theorem op_ltV {X : Cx} : OpR X (compareOp .Lt) rLtV := by
  intro pins s σ H x y v u Q I rx ry h
  rcases h with h | h
  · exact op_lt pins s σ H x y v u Q I rx ry h
  · exact op_lt_str pins s σ H x y v u Q I rx ry h
def ltD : PyData → PyData → Bool
  | .int i, .int j => decide (i < j)
  | .str i, .str j => decide (i.cps.toList < j.cps.toList)
  | _, _ => false
def kin (ds : List PyData) : Prop := (∀ d ∈ ds, isNum d = true ∧ isBol d = false) ∨ (∀ d ∈ ds, isStr d = true)
def ascD (ds : List PyData) : Bool := (List.range (ds.length - 1)).all fun i => ltD (ds.getD i .none) (ds.getD (i + 1) .none)
section
variable {K : PySem.W.Frag} {σ : L2.St} {H H' : Hp} {ta tb te tx : TE} {t u : TT} {x y z v : V} {d e : PyData}
theorem ev_ltD (ha : EvD ta σ H d) (hb : EvD tb σ H e) (hk : kin [d, e]) : Ev (tOp rLtV ta tb) σ H (.bl (ltD d e)) := by
  rcases hk with hk | hk
  · obtain ⟨a1, a2⟩ := hk d (by simp)
    obtain ⟨b1, b2⟩ := hk e (by simp)
    obtain ⟨x, h1, h2⟩ := ha
    obtain ⟨y, h3, h4⟩ := hb
    obtain ⟨r1, r2⟩ := h2.intE a1 a2
    obtain ⟨r3, r4⟩ := h4.intE b1 b2
    rw [r1] at h1; rw [r3] at h3
    refine Evl.ev_op h1 h3 fun H1 e1 Q q => Or.inl ⟨_, _, rfl, rfl, ?_⟩
    rw [r2, r4] at q
    exact q H1 (Ex.refl H1)
  · have a1 := hk d (by simp)
    have b1 := hk e (by simp)
    obtain ⟨x, h1, h2⟩ := ha
    obtain ⟨y, h3, h4⟩ := hb
    obtain ⟨r1, _, _, r2⟩ := h2.strE a1
    obtain ⟨r3, _, _, r4⟩ := h4.strE b1
    rw [r1] at h1; rw [r3] at h3
    refine Evl.ev_op h1 h3 fun H1 e1 Q q => Or.inr ⟨_, _, rfl, rfl, ?_⟩
    rw [r2, r4] at q
    exact q H1 (Ex.refl H1)
def isSeq (d : PyData) : Bool := isTup d || isLst d
theorem ev_lenQ (h : EvD te σ H d) (ht : isSeq d = true) : Ev (tCB (Evl.rLenS K) (tCons te tNil)) σ H (.int ((items d).length : Int)) :=
  ev_lenD h (by unfold isSeq at ht; rcases Bool.or_eq_true _ _ ▸ ht with h | h; exact Or.inl h; exact Or.inr h)
theorem at_of {ds : List PyData} {i : Nat} (hd : items d = ds) (hi : i < ds.length) : at' d i = ds[i] := by
  unfold at'; rw [hd, List.getD_eq_getElem?_getD, List.getElem?_eq_getElem hi]; rfl
theorem evd_atQ {i : Nat} (h : EvD te σ H d) (ht : isSeq d = true) (hi : i < (items d).length) (hb : Ev tb σ H (.int (i : Int))) : EvD (tOp (rIx K) te tb) σ H (at' d i) := by
  obtain ⟨x, h1, h2⟩ := h
  cases h3 : isTup d with
  | true =>
    obtain ⟨a, xs, rfl, ha, hd, _, hl⟩ := h2.tupE h3
    obtain ⟨y, hy, hq⟩ := hd.get' i (List.getElem?_eq_getElem hi)
    refine ⟨y, Evl.ev_op h1 hb (fun H2 e2 Q q => Or.inr (Or.inl ⟨a, xs, _, y, rfl, rfl, st_of (e2 _ _ ha), atI_nat' hy, q H2 (Ex.refl H2)⟩)), ?_⟩
    rw [at_of rfl hi]; exact hq
  | false =>
    have h4 : isLst d = true := by unfold isSeq at ht; rw [h3] at ht; exact ht
    obtain ⟨a, xs, rfl, ha, hd, _, hl⟩ := h2.lstE h4
    obtain ⟨y, hy, hq⟩ := hd.get' i (List.getElem?_eq_getElem hi)
    refine ⟨y, Evl.ev_op h1 hb (fun H2 e2 Q q => Or.inl ⟨a, xs, _, y, rfl, rfl, sq_of (e2 _ _ ha), atI_nat' hy, q H2 (Ex.refl H2)⟩), ?_⟩
    rw [at_of rfl hi]; exact hq
/-- all([.. for at in range(n)]), n at least -1 -/
theorem ev_allR {ta : TA} {j : Nat} {n : Int} (g : Nat → Bool) (h : EvA ta σ H [.int n]) (hn : -1 ≤ n ∧ n ≤ 40000)
    (he : ∀ (i : Nat) H1, Ex H H1 → (i : Int) < n → Ev te ((wipe σ [j]).set j (some (.int (i : Int)))) H1 (.bl (g i))) :
    Ev (tCB (rAll K) (tCons (tLc (iRng1 ta) (gName j) tYes te [j]) tNil)) σ H (.bl ((List.range n.toNat).all g)) := by
  refine Evl.ev_is (ev_allB (bs := (List.range n.toNat).map g) ?_) (by rw [List.all_map]; rfl)
  have el : EvL (tLc (iRng1 ta) (gName j) tYes te [j]) σ H (Evl.given n.toNat (fun _ => true) fun i => .bl (g i)) := by
    by_cases hn0 : 0 ≤ n
    · exact Evl.el_lcR1 _ _ h ⟨hn0, hn.2⟩ (fun x => wipe_set) (fun i H1 e hi => fun H2 e2 Q q => q H2 (Ex.refl H2)) (fun i H1 e hi _ => he i H1 e hi)
    · have e1 : n = -1 := by omega
      subst e1
      refine fun H0 e Q q => h H0 e _ fun H1 e1 => ⟨-1, rfl, by omega, by omega, fun Dl hD => ?_⟩
      exact lc_range (lo := 0) (n := 0) (fun i H' => Ex H1 H' ∧ H' Dl = some (.lst [])) ⟨Ex.new hD, upd_same⟩ (fun i H' hi p => absurd hi (by omega)) (fun H' p => q Dl H' (Evl.fresh_back e1 hD) (e1.trans p.1) p.2)
  have e2 : Evl.given n.toNat (fun _ => true) (fun i => V.bl (g i)) = ((List.range n.toNat).map g).map V.bl := by
    unfold Evl.given
    rw [List.filter_eq_self.mpr (fun _ _ => rfl), List.map_map]; rfl
  rw [← e2]; exact el
theorem ev_subI {i j : Int} (ha : Ev ta σ H (.int i)) (hb : Ev tb σ H (.int j)) : Ev (tOp (rI0 fun i j => .int (i - j)) ta tb) σ H (.int (i - j)) := Evl.ev_op ha hb Evl.rv_I0
end
end LF
namespace KA
open PySem PySem.Spec PyProof.Rows L2 LF
open Evl (Ev EvL EvU EvT EvA Ex sq_of st_of)
def nmD (d : PyData) : Bool := isStr d && isNm (txt d)
def c_sl : Str := "/"
def isPt (z : Str) : Bool := decide (z = "") || (PySem.Txt.split z c_sl).all isNm
def ptD (d : PyData) : Bool := isStr d && isPt (txt d)
def intD (d : PyData) : Bool := isNum d && !isBol d
def jtD (d : PyData) : Bool := intD d && decide (0 ≤ num d)
def plD (d : PyData) : Bool := isTup d && (decide (((items d).length : Int) = 2) && (nmD (at' d 0) && ptD (at' d 1)))
def tgD (d : PyData) : Bool := jtD d || plD d
def spAsc : Sp := fun vs H Q _ => ∃ x d, vs = [x] ∧ Dq H x d ∧ isSeq d = true ∧ kin (items d) ∧ ∀ H', Ex H H' → Q (.bl (ascD (items d))) H'
theorem sl_ne : (c_sl.length == 0) = false := by decide +kernel
theorem sizeLine_big : 1000010 < sizeLine := by decide
theorem intD_iff {d : PyData} (h : intD d = true) : isNum d = true ∧ isBol d = false := by
  unfold intD at h; rw [Bool.and_eq_true] at h; exact ⟨h.1, by simpa using h.2⟩
abbrev s_is_path : Stmt := topS 3
abbrev N_is_path : List Str := ["thing", "part"]
theorem sc_is_path : FnScope ["thing", "part"] ["thing"] (defScope s_is_path) := ⟨rfl, rfl, rfl, by decide +kernel, rfl, by decide +kernel, by decide +kernel⟩
abbrev s_is_integer : Stmt := topS 7
abbrev N_is_integer : List Str := ["thing"]
theorem sc_is_integer : FnScope ["thing"] ["thing"] (defScope s_is_integer) := ⟨rfl, rfl, rfl, by decide +kernel, rfl, by decide +kernel, by decide +kernel⟩
abbrev s_is_joint : Stmt := topS 8
abbrev N_is_joint : List Str := ["thing"]
theorem sc_is_joint : FnScope ["thing"] ["thing"] (defScope s_is_joint) := ⟨rfl, rfl, rfl, by decide +kernel, rfl, by decide +kernel, by decide +kernel⟩
abbrev s_is_place_in_package : Stmt := topS 9
abbrev N_is_place_in_package : List Str := ["thing"]
theorem sc_is_place_in_package : FnScope ["thing"] ["thing"] (defScope s_is_place_in_package) := ⟨rfl, rfl, rfl, by decide +kernel, rfl, by decide +kernel, by decide +kernel⟩
abbrev s_is_ascending : Stmt := topS 10
abbrev N_is_ascending : List Str := ["things", "at"]
theorem sc_is_ascending : FnScope ["things", "at"] ["things"] (defScope s_is_ascending) := ⟨rfl, rfl, rfl, by decide +kernel, rfl, by decide +kernel, by decide +kernel⟩
abbrev s_is_target : Stmt := topS 12
abbrev N_is_target : List Str := ["thing"]
theorem sc_is_target : FnScope ["thing"] ["thing"] (defScope s_is_target) := ⟨rfl, rfl, rfl, by decide +kernel, rfl, by decide +kernel, by decide +kernel⟩
section
variable {P : Program} {w : World} {K : PySem.W.Frag} {mg : Str → Option Value} {base : Heap} {tk1 tk2 : Tok}
theorem ok_is_nameD {f : Addr} {fd : FuncData} (F : Fun K "is_name" "is_name" s_is_name f fd) (T : Txt K mg tk1 tk2) : FnOk P w K mg base CX0 1 f fd ["thing"] (spD nmD) := by
  refine (ok_is_name F T).imp fun vs H Q E h => ?_
  obtain ⟨x, d, rfl, hd, hq⟩ := h
  refine ⟨x, rfl, ?_⟩
  cases h1 : isStr d with
  | true =>
    obtain ⟨e1, e2, e3, e4⟩ := hd.strE h1
    refine Or.inl ⟨txt d, e1, by omega, fun H' s => ?_⟩
    have := hq H' s
    unfold nmD at this
    rw [h1, Bool.true_and] at this
    exact this
  | false =>
    refine Or.inr ⟨_, hd.ty, (by rw [kit_str', h1]), fun H' s => ?_⟩
    have := hq H' s
    unfold nmD at this
    rw [h1, Bool.false_and] at this
    exact this
theorem ok_is_integer {f : Addr} {fd : FuncData} (F : Fun K "is_integer" "is_integer" s_is_integer f fd) (T : Txt K mg tk1 tk2)  :
    FnOk P w K mg base CX0 1 f fd ["thing"] (spD intD) := by
  refine F.ok sc_is_integer (fun vs H Q E h => ?_) (fun cdv A outer s H vs Q E hr h => ?_)
  · obtain ⟨x, d, rfl, _⟩ := h
    rfl
  refine ⟨_, (pss_one (ps_ret (pe_and (pe_callB call_isi (by rfl) T.n_isinstance (by decide +kernel) (pa_cons (pv 0) (pa_cons (pe_bltn (v := .ty "int") (by rfl) T.n_int (by decide +kernel) rfl) pa_nil))) (pe_one (pe_not (pe_callB call_isi (by rfl) T.n_isinstance (by decide +kernel) (pa_cons (pv 0) (pa_cons (pe_bltn (v := .ty "bool") (by rfl) T.n_bool (by decide +kernel) rfl) pa_nil)))))))), ?_⟩
  obtain ⟨x, d, rfl, hd, hq⟩ := h
  have v0 : EvD (tVar 0) [some x] H d := evd_var rfl hd
  exact Evl.s_ret (Evl.ev_andV (ev_isi v0 (kit_int' d)) fun _ => Evl.ev_notV (ev_isi v0 (kit_bol' d))) hq
theorem ok_is_joint {f : Addr} {fd : FuncData} {f_is_integer : Addr} {fd_is_integer : FuncData} (F : Fun K "is_joint" "is_joint" s_is_joint f fd) (T : Txt K mg tk1 tk2) (d_is_integer : DefAt P w K mg base "is_integer" 1 f_is_integer fd_is_integer ["thing"] (spD intD)) :
    FnOk P w K mg base CX0 2 f fd ["thing"] (spD jtD) := by
  refine F.ok sc_is_joint (fun vs H Q E h => ?_) (fun cdv A outer s H vs Q E hr h => ?_)
  · obtain ⟨x, d, rfl, _⟩ := h
    rfl
  refine ⟨_, (pss_one (ps_ret (pe_and (pe_callD d_is_integer (hr.mono (by decide)) (pa_cons (pv 0) pa_nil)) (pe_one (pe_cmpR op_ge (pv 0) pe_int (nomark _)))))), ?_⟩
  obtain ⟨x, d, rfl, hd, hq⟩ := h
  have v0 : EvD (tVar 0) [some x] H d := evd_var rfl hd
  exact Evl.s_ret (Evl.ev_andV (ev_callB1 v0) fun h1 => Evl.ev_op (v0.intE (intD_iff h1).1 (intD_iff h1).2) Evl.ev_c Evl.rv_I0) hq
theorem ok_is_place_in_package {f : Addr} {fd : FuncData} {f_is_name f_is_path : Addr} {fd_is_name fd_is_path : FuncData} (F : Fun K "is_place_in_package" "is_place_in_package" s_is_place_in_package f fd) (T : Txt K mg tk1 tk2) (d_is_name : DefAt P w K mg base "is_name" 1 f_is_name fd_is_name ["thing"] (spD nmD)) (d_is_path : DefAt P w K mg base "is_path" 2 f_is_path fd_is_path ["thing"] (spD ptD)) :
    FnOk P w K mg base CX0 3 f fd ["thing"] (spD plD) := by
  refine F.ok sc_is_place_in_package (fun vs H Q E h => ?_) (fun cdv A outer s H vs Q E hr h => ?_)
  · obtain ⟨x, d, rfl, _⟩ := h
    rfl
  refine ⟨_, (pss_one (ps_ret (pe_and (pe_callB call_isi (by rfl) T.n_isinstance (by decide +kernel) (pa_cons (pv 0) (pa_cons (pe_bltn (v := .ty "tuple") (by rfl) T.n_tuple (by decide +kernel) rfl) pa_nil))) (pe_and (pe_cmpR op_eq (pe_callB call_len_seq (by rfl) T.n_len (by decide +kernel) (pa_cons (pv 0) pa_nil)) pe_int (nomark _)) (pe_and (pe_callD d_is_name (hr.mono (by decide)) (pa_cons (pe_ix ix_tup (pv 0) pe_int (fun _ _ => rfl)) pa_nil)) (pe_one (pe_callD d_is_path (hr.mono (by decide)) (pa_cons (pe_ix ix_tup (pv 0) pe_int (fun _ _ => rfl)) pa_nil)))))))), ?_⟩
  obtain ⟨x, d, rfl, hd, hq⟩ := h
  have v0 : EvD (tVar 0) [some x] H d := evd_var rfl hd
  refine Evl.s_ret (Evl.ev_andV (ev_isi v0 (kit_tup' d)) fun h1 => Evl.ev_andV (ev_eqI (ev_lenD v0 (Or.inl h1)) Evl.ev_c) fun h2 => ?_) hq
  have hl : (items d).length = 2 := by have := of_decide_eq_true h2; omega
  exact Evl.ev_andV (ev_callB1 (evd_atT (i := 0) v0 h1 (by omega) Evl.ev_c)) fun _ => ev_callB1 (evd_atT (i := 1) v0 h1 (by omega) Evl.ev_c)
theorem ok_is_target {f : Addr} {fd : FuncData} {f_is_joint f_is_place_in_package : Addr} {fd_is_joint fd_is_place_in_package : FuncData} (F : Fun K "is_target" "is_target" s_is_target f fd) (T : Txt K mg tk1 tk2) (d_is_joint : DefAt P w K mg base "is_joint" 2 f_is_joint fd_is_joint ["thing"] (spD jtD)) (d_is_place_in_package : DefAt P w K mg base "is_place_in_package" 3 f_is_place_in_package fd_is_place_in_package ["thing"] (spD plD)) :
    FnOk P w K mg base CX0 4 f fd ["thing"] (spD tgD) := by
  refine F.ok sc_is_target (fun vs H Q E h => ?_) (fun cdv A outer s H vs Q E hr h => ?_)
  · obtain ⟨x, d, rfl, _⟩ := h
    rfl
  refine ⟨_, (pss_one (ps_ret (pe_or (pe_callD d_is_joint (hr.mono (by decide)) (pa_cons (pv 0) pa_nil)) (pe_one (pe_callD d_is_place_in_package (hr.mono (by decide)) (pa_cons (pv 0) pa_nil)))))), ?_⟩
  obtain ⟨x, d, rfl, hd, hq⟩ := h
  have v0 : EvD (tVar 0) [some x] H d := evd_var rfl hd
  exact Evl.s_ret (Evl.ev_orV (ev_callB1 v0) fun _ => ev_callB1 v0) hq
theorem ok_is_path {f : Addr} {fd : FuncData} {f_is_name : Addr} {fd_is_name : FuncData} (F : Fun K "is_path" "is_path" s_is_path f fd) (T : Txt K mg tk1 tk2) (d_is_name : DefAt P w K mg base "is_name" 1 f_is_name fd_is_name ["thing"] (spName K)) :
    FnOk P w K mg base CX0 2 f fd ["thing"] (spD ptD) := by
  refine F.ok sc_is_path (fun vs H Q E h => ?_) (fun cdv A outer s H vs Q E hr h => ?_)
  · obtain ⟨x, d, rfl, _⟩ := h
    rfl
  refine ⟨_, (pss_cons (ps_if (pt_not (pt_val (pe_callB call_isi (by rfl) T.n_isinstance (by decide +kernel) (pa_cons (pv 0) (pa_cons (pe_bltn (v := .ty "str") (by rfl) T.n_str (by decide +kernel) rfl) pa_nil))))) (pss_one (ps_ret pe_bl)) pss_nil)
    (pss_one (ps_ret (pe_or (pe_cmpR op_eq (pv 0) pe_str (nomark _)) (pe_one (pe_callB (cr_all rfl) (by rfl) T.n_all (by decide +kernel) (pa_cons (pe_lc (own := [("part", 1)]) rfl sc_is_path.nd (pi_list (pe_split (pv 0) pe_str)) (blkOk_by (N := N_is_path) (sc := defScope s_is_path) (by decide +kernel)) (fun _ _ _ _ _ => pg_name (i := 1) sc_is_path.nd rfl (Or.inl rfl)) (fun _ _ _ _ _ => pts_nil) (fun _ _ _ _ _ => (pe_callD d_is_name (hr.mono (by decide)) (pa_cons (pv 1) pa_nil)))) pa_nil))))))), ?_⟩
  obtain ⟨x, d, rfl, hd, hq⟩ := h
  have v0 : EvD (tVar 0) [some x, none] H d := evd_var rfl hd
  refine Evl.q_when (Evl.et_not (Evl.et_B (ev_isi v0 (kit_str' d)))) (fun h1 H1 e1 => ?_) (fun h1 H1 e1 => ?_)
  · have h2 : isStr d = false := by simpa using h1
    refine Evl.s_ret Evl.ev_c fun H2 e2 => ?_
    have := hq H2 (e1.trans e2)
    unfold ptD at this
    rw [h2] at this; exact this
  · have h2 : isStr d = true := by simpa using h1
    obtain ⟨e3, e4, e5, e6⟩ := hd.strE h2
    have hbig := sizeLine_big
    refine Evl.s_ret (v := .bl (ptD d)) ?_ fun H2 e2 => hq H2 (e1.trans e2)
    have v1 : Ev (tVar 0) [some x, none] H1 (.str (txt d)) := (v0.mono e1).strE h2
    have : ptD d = (decide (txt d = "") || (PySem.Txt.split (txt d) c_sl).all isNm) := by unfold ptD isPt; rw [h2]; rfl
    rw [this]
    refine Evl.ev_orV (ev_eqS v1 Evl.ev_c) fun _ => ?_
    refine Evl.ev_is (ev_allB (bs := (PySem.Txt.split (txt d) c_sl).map isNm) ?_) (by rw [List.all_map]; rfl)
    have es : EvL (tM1 (fun x xs H Q => ∃ a b, x = .str a ∧ xs = [.str b] ∧ (b.length == 0) = false ∧ a.length + 2 ≤ sizeLine ∧ rNewStrs (PySem.Txt.split a b) H Q) (tVar 0) (tC (.str "/"))) [some x, none] H1 ((PySem.Txt.split (txt d) c_sl).map V.str) := fun H2 e Q q =>
      v1 H2 e _ fun H3 e3 => ⟨⟨_, rfl⟩, txt d, c_sl, rfl, rfl, sl_ne, by omega, fun p hp => q p _ (Evl.fresh_back e3 hp) (e3.trans (Ex.new hp)) upd_same⟩
    have hlen := split_le (txt d) c_sl
    have e8 : Evl.given ((PySem.Txt.split (txt d) c_sl).map V.str).length (fun _ => true) (fun i => V.bl (isNm ((PySem.Txt.split (txt d) c_sl).getD i ""))) = ((PySem.Txt.split (txt d) c_sl).map isNm).map V.bl := by
      unfold Evl.given
      rw [List.filter_eq_self.mpr (fun _ _ => rfl), List.length_map]
      refine List.ext_getElem (by simp) fun i h1 h2 => ?_
      simp only [List.length_map, List.length_range] at h1
      simp [List.getD_eq_getElem?_getD, List.getElem?_eq_getElem h1]
    rw [← e8]
    refine Evl.el_lcNL (K := K) (fun _ => true) _ es (by rw [List.length_map]; omega) (fun x => wipe_set) (fun i y H2 e2 hy => fun H3 e3 Q q => q H3 (Ex.refl H3)) (fun i y H2 e2 hy _ => ?_)
    rw [List.getElem?_map] at hy
    obtain ⟨z, hz, rfl⟩ := Option.map_eq_some_iff.mp hy
    have hm := List.mem_of_getElem? hz
    have eg : (PySem.Txt.split (txt d) c_sl).getD i "" = z := by rw [List.getD_eq_getElem?_getD, hz]; rfl
    rw [eg]
    refine Evl.ev_call (vs := [.str z]) (Evl.ea_cons (Evl.ev_var rfl) Evl.ea_nil) fun H3 e3 Q q E' => ?_
    exact ⟨.str z, rfl, Or.inl ⟨z, rfl, by have := part_short hm; omega, fun H4 e4 => q H4 e4⟩⟩
theorem ok_is_ascending {f : Addr} {fd : FuncData} (F : Fun K "is_ascending" "is_ascending" s_is_ascending f fd) (T : Txt K mg tk1 tk2)  :
    FnOk P w K mg base CX0 1 f fd ["things"] spAsc := by
  refine F.ok sc_is_ascending (fun vs H Q E h => ?_) (fun cdv A outer s H vs Q E hr h => ?_)
  · obtain ⟨x, d, rfl, _⟩ := h
    rfl
  refine ⟨_, (pss_one (ps_ret (pe_callB (cr_all rfl) (by rfl) T.n_all (by decide +kernel) (pa_cons (pe_lc (own := [("at", 1)]) rfl sc_is_ascending.nd (pi_range1 (by rfl) T.n_range (pa_cons (pe_op op_sub (pe_callB call_len_seq (by rfl) T.n_len (by decide +kernel) (pa_cons (pv 0) pa_nil)) pe_int) pa_nil)) (blkOk_by (N := N_is_ascending) (sc := defScope s_is_ascending) (by decide +kernel)) (fun _ _ _ _ _ => pg_name (i := 1) sc_is_ascending.nd rfl (Or.inl rfl)) (fun _ _ _ _ _ => pts_nil) (fun _ _ _ _ _ => (pe_cmpR op_ltV (pe_ix (show IxR _ (rIx K) from ix_seq) (pv 0) (pv 1) (fun _ _ => rfl)) (pe_ix (show IxR _ (rIx K) from ix_seq) (pv 0) (pe_op op_add (pv 1) pe_int) (fun _ _ => rfl)) (nomark _)))) pa_nil)))), ?_⟩
  obtain ⟨x, d, rfl, hd, hs, hk, hq⟩ := h
  have v0 : EvD (tVar 0) [some x, none] H d := evd_var rfl hd
  have hlen : (items d).length ≤ 1000 := by
    unfold isSeq at hs
    rcases Bool.or_eq_true _ _ ▸ hs with h | h
    · obtain ⟨_, _, _, _, _, h1, h2⟩ := hd.tupE h; omega
    · obtain ⟨_, _, _, _, _, h1, h2⟩ := hd.lstE h; omega
  have e0 : (((items d).length : Int) - 1).toNat = (items d).length - 1 := by omega
  refine Evl.s_ret (Evl.ev_is (ev_allR (fun i => ltD (at' d i) (at' d (i + 1))) (Evl.ea_cons (ev_subI (ev_lenQ v0 hs) Evl.ev_c) Evl.ea_nil) (by omega) fun i H1 e1 hi => ?_) (by rw [e0]; rfl)) hq
  have w0 : EvD (tVar 0) [some x, some (.int (i : Int))] H1 d := evd_var rfl (Dq.same e1 _ _ hd)
  have w1 : Ev (tVar 1) [some x, some (.int (i : Int))] H1 (.int (i : Int)) := Evl.ev_var rfl
  refine ev_ltD (evd_atQ w0 hs (by omega) w1) (evd_atQ (i := i + 1) w0 hs (by omega) ?_) ?_
  · exact Evl.ev_op w1 Evl.ev_c Evl.rv_I0
  · have m1 : at' d i ∈ items d := by rw [at_of rfl (show i < (items d).length by omega)]; exact List.getElem_mem _
    have m2 : at' d (i + 1) ∈ items d := by rw [at_of rfl (show i + 1 < (items d).length by omega)]; exact List.getElem_mem _
    rcases hk with hk | hk
    · refine Or.inl fun y hy => ?_
      rcases List.mem_cons.mp hy with rfl | hy
      · exact hk _ m1
      · rw [List.mem_singleton.mp hy]; exact hk _ m2
    · refine Or.inr fun y hy => ?_
      rcases List.mem_cons.mp hy with rfl | hy
      · exact hk _ m1
      · rw [List.mem_singleton.mp hy]; exact hk _ m2
end
end KA

set_option Elab.async false
set_option linter.all false
set_option maxRecDepth 100000
set_option maxHeartbeats 4000000
namespace LF
open PySem PySem.Spec PyProof.Rows L2
open Evl (Ev EvL EvU EvT EvA Ex sq_of st_of)
def one (fk : Addr) (sp : Sp) : Addr → Option Sp := fun f => if f = fk then some sp else none
theorem held_one {P : Program} {w : World} {K : PySem.W.Frag} {mg : Str → Option Value} {base : Heap} {x : Str} {k : Nat} {fk : Addr} {fd : FuncData} {ps : List Str} {sp : Sp} (D : DefAt P w K mg base x k fk fd ps sp) :
    ∀ f sp', one fk sp f = some sp' → Held P w K mg base k f sp' := fun f sp' h => by
  unfold one at h
  split at h
  · rename_i e
    cases h
    subst e
    exact ⟨fd, ps, D.F, D.kp, D.b⟩
  · cases h
def isPair (p : PyData) : Bool := isTup p && decide (((items p).length : Int) = 2)
def isNon : PyData → Bool | .none => true | _ => false
section
variable {K : PySem.W.Frag} {σ : L2.St} {H H' : Hp} {ta tb te tx : TE} {t u : TT} {x y z v : V} {d e : PyData}
theorem ev_callA1 {i : Nat} {fk : Addr} {g : PyData → Bool} (hi : σ[i]? = some (some (.ref fk))) (h : EvD te σ H d) : Ev (tCallA i (one fk (spD g)) (tCons te tNil)) σ H (.bl (g d)) := fun H1 e Q q => by
  obtain ⟨x, h1, h2⟩ := h
  refine ⟨fk, spD g, hi, by unfold one; rw [if_pos rfl], ?_⟩
  refine h1 H1 e _ fun H2 e2 => ?_
  exact ⟨x, d, rfl, Dq.same (e.trans e2) _ _ h2, fun H3 e3 => q H3 (e2.trans e3)⟩
theorem ev_isN (h : EvD te σ H d) : Ev (tOp (fun x y H Q => y = .non ∧ Q (.bl (decide (x = .non))) H) te (tC .non)) σ H (.bl (isNon d)) := by
  obtain ⟨x, h1, h2⟩ := h
  refine Evl.ev_op h1 Evl.ev_c fun H1 e Q q => ⟨rfl, ?_⟩
  have : decide (x = V.non) = isNon d := by cases h2 <;> rfl
  rw [this]; exact q H1 (Ex.refl H1)
theorem pairE (h : Dq H x d) (hp : isPair d = true) : ∃ a u v, x = .ref a ∧ H a = some (.tup [u, v]) ∧ Dq H u (at' d 0) ∧ Dq H v (at' d 1) := by
  unfold isPair at hp
  rw [Bool.and_eq_true] at hp
  obtain ⟨a, xs, rfl, ha, hd, _, hl⟩ := h.tupE hp.1
  have h2 : (items d).length = 2 := by have := of_decide_eq_true hp.2; omega
  obtain ⟨u, hu, du⟩ := hd.get' 0 (List.getElem?_eq_getElem (by omega))
  obtain ⟨v, hv, dv⟩ := hd.get' 1 (List.getElem?_eq_getElem (by omega))
  have e : xs = [u, v] := by
    match xs, hl.trans h2, hu, hv with
    | [a, b], _, hu, hv => cases (show some a = some u from hu); cases (show some b = some v from hv); rfl
  refine ⟨a, u, v, rfl, by rw [← e]; exact ha, ?_, ?_⟩
  · rw [at_of rfl (by omega)]; exact du
  · rw [at_of rfl (by omega)]; exact dv
theorem ev_allT2 {j k : Nat} {tl : TE} (g : PyData → Bool) (h : EvD tl σ H d) (ht : isTup d = true) (hp : (items d).all isPair = true)
    (hw : ∀ x y, wipe ((((wipe σ [j, k]).set j (some x)).set k (some y))) [j, k] = wipe σ [j, k])
    (hs : ∀ x y p H1, Ex H H1 → p ∈ items d → Dq H1 x (at' p 0) → Dq H1 y (at' p 1) → Ev te (((wipe σ [j, k]).set j (some x)).set k (some y)) H1 (.bl (g p))) :
    Ev (tCB (rAll K) (tCons (tLc (iTup K tl) (gTup K 2 (gCons (gName j) (gCons (gName k) gNil))) tYes te [j, k]) tNil)) σ H (.bl ((items d).all g)) := by
  obtain ⟨x, h1, h2⟩ := h
  obtain ⟨a, xs, rfl, ha, hd, hz, hl⟩ := h2.tupE ht
  refine Evl.ev_is (ev_allB (bs := (items d).map g) ?_) (by rw [List.all_map]; rfl)
  refine el_lcTm (K := K) _ h1 ha (by rw [List.length_map, List.length_map, hl]) (by omega) fun i x y H1 R e hx hy kk => ?_
  obtain ⟨p, hd', hq⟩ := hd.get i hx
  rw [List.getElem?_map, List.getElem?_map, hd'] at hy
  cases (show some (V.bl (g p)) = some y from hy)
  have hm := List.mem_of_getElem? hd'
  obtain ⟨b, u, v, rfl, hb, du, dv⟩ := pairE (Dq.same e _ _ hq) (List.all_eq_true.mp hp p hm)
  exact ⟨b, [u, v], rfl, st_of hb, rfl, u, [v], rfl, v, [], rfl, rfl, kk _ (hw u v) (hs u v p H1 e hm du dv)⟩
/-- the first items of pairs -/
theorem firsts : ∀ {vs : List V} {ds : List PyData}, DqAll H vs ds → ds.all isPair = true → ∃ ks, DqAll H ks (ds.map (at' · 0)) ∧ ∀ (i : Nat) x y, vs[i]? = some x → ks[i]? = some y → ∃ a w, x = .ref a ∧ H a = some (.tup [y, w])
  | _, _, .nil, _ => ⟨[], .nil, fun i x y h => by simp at h⟩
  | _, _, .cons h1 h2, hp => by
    rw [List.all_cons, Bool.and_eq_true] at hp
    obtain ⟨ks, q1, q2⟩ := firsts h2 hp.2
    obtain ⟨a, u, v, rfl, ha, du, dv⟩ := pairE h1 hp.1
    refine ⟨u :: ks, .cons du q1, fun i x y hx hy => ?_⟩
    cases i with
    | zero => cases (show some _ = some x from hx); cases (show some u = some y from hy); exact ⟨a, v, rfl, ha⟩
    | succ i => exact q2 i x y hx hy
theorem el_firsts {j k : Nat} {tl : TE} (h : EvD tl σ H d) (ht : isTup d = true) (hp : (items d).all isPair = true)
    (hw : ∀ x y, wipe ((((wipe σ [j, k]).set j (some x)).set k (some y))) [j, k] = wipe σ [j, k]) (hj : ∀ x y, (((wipe σ [j, k]).set j (some x)).set k (some y))[j]? = some (some x)) :
    ∃ ks, DqAll H ks ((items d).map (at' · 0)) ∧ EvL (tLc (iTup K tl) (gTup K 2 (gCons (gName j) (gCons (gName k) gNil))) tYes (tVar j) [j, k]) σ H ks := by
  obtain ⟨x, h1, h2⟩ := h
  obtain ⟨a, xs, rfl, ha, hd, hz, hl⟩ := h2.tupE ht
  obtain ⟨ks, q1, q2⟩ := firsts hd hp
  refine ⟨ks, q1, ?_⟩
  have hlk := q1.len
  rw [List.length_map] at hlk
  refine el_lcTm (K := K) ks h1 ha (by omega) (by omega) fun i x y H1 R e hx hy kk => ?_
  obtain ⟨b, w, rfl, hb⟩ := q2 i x y hx hy
  exact ⟨b, [y, w], rfl, st_of (e _ _ hb), rfl, y, [w], rfl, w, [], rfl, rfl, kk _ (hw y w) (Evl.ev_var (hj y w))⟩
theorem ev_callL1 {ks : List V} {ds : List PyData} {sp : Sp} {E : XK} {b : Bool} (h : EvL te σ H ks) (hd : DqAll H ks ds) (hz : ks.length ≤ 1000)
    (hs : ∀ p H1 Q E, Dq H1 (.ref p) (.list ds) → (∀ H2, Ex H1 H2 → Q (.bl b) H2) → sp [.ref p] H1 Q E) : Ev (tCall sp [] E (tCons te tNil)) σ H (.bl b) := fun H1 e Q q =>
  h H1 e _ fun p H2 _ e2 h2 => hs p H2 Q E (.lst h2 (DqAll.same (e.trans e2) _ _ hd) hz) fun H3 e3 => q H3 (e2.trans e3)
end
end LF
namespace KA
open PySem PySem.Spec PyProof.Rows L2 LF
open Evl (Ev EvL EvU EvT EvA Ex sq_of st_of)
def rowD (gk gw : PyData → Bool) (d : PyData) : Bool :=
  if (!isTup d || !(items d).all isPair) = true then false else if (!(items d).all fun p => gk (at' p 0) && gw (at' p 1)) = true then false else ascD ((items d).map (at' · 0))
def spRow (fk fw : Addr) (gk gw : PyData → Bool) : Sp := fun vs H Q _ => ∃ x d, vs = [x, .ref fk, .ref fw] ∧ Dq H x d ∧ ∀ H', Ex H H' → Q (.bl (rowD gk gw d)) H'
def tabD : PyData → Bool := rowD nmD tgD
def dropD (d : PyData) : Bool := if (!isTup d || (decide (((items d).length : Int) = 0) || !(items d).all jtD)) = true then false else ascD (items d)
def topD (d : PyData) : Bool := intD (at' d 1) && (decide (num (at' d 1) = -1) && (isStr (at' d 2) && decide (txt (at' d 2) = "")))
def spTop : Sp := fun vs H Q _ => ∃ x d, vs = [x] ∧ Dq H x d ∧ isTup d = true ∧ 3 ≤ (items d).length ∧ ∀ H', Ex H H' → Q (.bl (topD d)) H'
def c_make : Str := "make"
def deedD (d : PyData) : Bool :=
  if (!isTup d || (decide (((items d).length : Int) < 2) || !isStr (at' d 0))) = true then false else
  if decide (txt (at' d 0) = "make") = true then decide (((items d).length : Int) = 2) && (rowD jtD tabD (at' d 1) && decide ((0 : Int) < ((items (at' d 1)).length : Int))) else
  if decide (txt (at' d 0) = "drop") = true then decide (((items d).length : Int) = 2) && dropD (at' d 1) else
  if (decide (txt (at' d 0) = "turn") && decide (((items d).length : Int) = 4)) = true then
    if topD d = true then jtD (at' d 3) else jtD (at' d 1) && (nmD (at' d 2) && (isNon (at' d 3) || tgD (at' d 3)))
  else false
theorem kin_nm {ds : List PyData} (h : ∀ d ∈ ds, nmD d = true) : kin ds := Or.inr fun d hd => by have := h d hd; unfold nmD at this; rw [Bool.and_eq_true] at this; exact this.1
theorem kin_jt {ds : List PyData} (h : ∀ d ∈ ds, jtD d = true) : kin ds := Or.inl fun d hd => by have := h d hd; unfold jtD at this; rw [Bool.and_eq_true] at this; exact intD_iff this.1
/-- the names at the top -/
structure Tops (mg : Str → Option Value) (tj tn : Tok) : Prop where
  g_TOP_JOINT : mg "TOP_JOINT" = some (.int (-1) tj)
  g_TOP_NAME : mg "TOP_NAME" = some (.str "" tn)
abbrev s_is_deed : Stmt := topS 13
abbrev N_is_deed : List Str := ["thing"]
theorem sc_is_deed : FnScope ["thing"] ["thing"] (defScope s_is_deed) := ⟨rfl, rfl, rfl, by decide +kernel, rfl, by decide +kernel, by decide +kernel⟩
abbrev s_is_top_link : Stmt := topS 14
abbrev N_is_top_link : List Str := ["deed"]
theorem sc_is_top_link : FnScope ["deed"] ["deed"] (defScope s_is_top_link) := ⟨rfl, rfl, rfl, by decide +kernel, rfl, by decide +kernel, by decide +kernel⟩
abbrev s_is_row_of : Stmt := topS 15
abbrev N_is_row_of : List Str := ["thing", "is_key", "is_worth", "part", "key", "worth"]
theorem sc_is_row_of : FnScope ["thing", "is_key", "is_worth", "part", "key", "worth"] ["thing", "is_key", "is_worth"] (defScope s_is_row_of) := ⟨rfl, rfl, rfl, by decide +kernel, rfl, by decide +kernel, by decide +kernel⟩
abbrev s_is_table : Stmt := topS 16
abbrev N_is_table : List Str := ["thing"]
theorem sc_is_table : FnScope ["thing"] ["thing"] (defScope s_is_table) := ⟨rfl, rfl, rfl, by decide +kernel, rfl, by decide +kernel, by decide +kernel⟩
abbrev s_is_drop_list : Stmt := topS 17
abbrev N_is_drop_list : List Str := ["thing", "joint"]
theorem sc_is_drop_list : FnScope ["thing", "joint"] ["thing"] (defScope s_is_drop_list) := ⟨rfl, rfl, rfl, by decide +kernel, rfl, by decide +kernel, by decide +kernel⟩
section
variable {P : Program} {w : World} {K : PySem.W.Frag} {mg : Str → Option Value} {base : Heap} {tk1 tk2 tj tn : Tok}
theorem ok_is_row_of {f f1 fk fw : Addr} {fd fd1 fdk fdw : FuncData} {xk xw : Str} {psk psw : List Str} {k k2 k3 : Nat} {gk gw : PyData → Bool} (F : Fun K "is_row_of" "is_row_of" s_is_row_of f fd) (T : Txt K mg tk1 tk2) (d_is_ascending : DefAt P w K mg base "is_ascending" 1 f1 fd1 ["things"] spAsc)
    (Dk : DefAt P w K mg base xk k2 fk fdk psk (spD gk)) (Dw : DefAt P w K mg base xw k3 fw fdw psw (spD gw)) (h1 : 1 ≤ k) (h2 : k2 ≤ k) (h3 : k3 ≤ k) (hkin : ∀ ds : List PyData, (∀ d ∈ ds, gk d = true) → kin ds) :
    FnOk P w K mg base CX0 (k + 1) f fd ["thing", "is_key", "is_worth"] (spRow fk fw gk gw) := by
  refine F.ok sc_is_row_of (fun vs H Q E h => ?_) (fun cdv A outer s H vs Q E hr h => ?_)
  · obtain ⟨x, d, rfl, _⟩ := h
    rfl
  refine ⟨_, (pss_cons (ps_if (PW.pt (pw_or (pt_not (pt_val (pe_callB call_isi (by rfl) T.n_isinstance (by decide +kernel) (pa_cons (pv 0) (pa_cons (pe_bltn (v := .ty "tuple") (by rfl) T.n_tuple (by decide +kernel) rfl) pa_nil))))) (pw_or1 (pt_not (pt_val (pe_callB (cr_all rfl) (by rfl) T.n_all (by decide +kernel) (pa_cons (pe_lc (own := [("part", 3)]) rfl sc_is_row_of.nd (pi_tup (pv 0)) (blkOk_by (N := N_is_row_of) (sc := defScope s_is_row_of) (by decide +kernel)) (fun _ _ _ _ _ => pg_name (i := 3) sc_is_row_of.nd rfl (Or.inl rfl)) (fun _ _ _ _ _ => pts_nil) (fun _ _ _ _ _ => (pe_and (pe_callB (show CallR _ (.builtin "isinstance") (rIsi K) from call_isi) (by rfl) T.n_isinstance (by decide +kernel) (pa_cons (pv 3) (pa_cons (pe_bltn (v := .ty "tuple") (by rfl) T.n_tuple (by decide +kernel) rfl) pa_nil))) (pe_one (pe_cmpR op_eq (pe_callB (show CallR _ (.builtin "len") (Evl.rLenS K) from call_len_seq) (by rfl) T.n_len (by decide +kernel) (pa_cons (pv 3) pa_nil)) pe_int (nomark _)))))) pa_nil))))))) (pss_one (ps_ret pe_bl)) pss_nil)
    (pss_cons (ps_if (pt_not (pt_val (pe_callB (cr_all rfl) (by rfl) T.n_all (by decide +kernel) (pa_cons (pe_lc (own := [("key", 4), ("worth", 5)]) rfl sc_is_row_of.nd (pi_tup (pv 0)) (blkOk_by (N := N_is_row_of) (sc := defScope s_is_row_of) (by decide +kernel)) (fun _ _ _ _ _ => (show PG _ _ (gTup K 2 (gCons (gName 4) (gCons (gName 5) gNil))) from pg_tup rfl (pgs_cons (pg_name (i := 4) sc_is_row_of.nd rfl (Or.inl rfl)) (pgs_cons (pg_name (i := 5) sc_is_row_of.nd rfl (Or.inl rfl)) pgs_nil)))) (fun _ _ _ _ _ => pts_nil) (fun _ _ _ _ _ => (pe_and (pe_callA (i := 1) (held_one Dk) (hr.mono h2) rfl (by first | exact Or.inl rfl | exact Or.inr (Or.inl rfl) | exact Or.inr (Or.inr rfl)) (pa_cons (pv 4) pa_nil)) (pe_one (pe_callA (i := 2) (held_one Dw) (hr.mono h3) rfl (by first | exact Or.inl rfl | exact Or.inr (Or.inl rfl) | exact Or.inr (Or.inr rfl)) (pa_cons (pv 5) pa_nil)))))) pa_nil)))) (pss_one (ps_ret pe_bl)) pss_nil)
    (pss_one (ps_ret (pe_callD d_is_ascending (hr.mono h1) (pa_cons (pe_lc (own := [("key", 4), ("worth", 5)]) rfl sc_is_row_of.nd (pi_tup (pv 0)) (blkOk_by (N := N_is_row_of) (sc := defScope s_is_row_of) (by decide +kernel)) (fun _ _ _ _ _ => (show PG _ _ (gTup K 2 (gCons (gName 4) (gCons (gName 5) gNil))) from pg_tup rfl (pgs_cons (pg_name (i := 4) sc_is_row_of.nd rfl (Or.inl rfl)) (pgs_cons (pg_name (i := 5) sc_is_row_of.nd rfl (Or.inl rfl)) pgs_nil)))) (fun _ _ _ _ _ => pts_nil) (fun _ _ _ _ _ => (pv 4))) pa_nil)))))), ?_⟩
  obtain ⟨x, d, rfl, hd, hq⟩ := h
  have v0 : EvD (tVar 0) [some x, some (.ref fk), some (.ref fw), none, none, none] H d := evd_var rfl hd
  have c1 : EvT _ [some x, some (.ref fk), some (.ref fw), none, none, none] H (!isTup d || !(items d).all isPair) := Evl.et_or (Evl.et_not (Evl.et_B (ev_isi (K := K) v0 (kit_tup' d)))) fun h1 => Evl.et_not (Evl.et_B (ev_allT (K := K) (j := 3) isPair v0 (by simpa using h1) fun x d' H1 e1 hd' _ =>
    (Evl.ev_andV (ev_isi (K := K) (evd_var (i := 3) rfl hd') (kit_tup' d')) fun h2 => ev_eqI (ev_lenD (K := K) (evd_var (i := 3) rfl hd') (Or.inl h2)) Evl.ev_c)))
  refine Evl.q_when c1 (fun h1 H1 e1 => ?_) (fun h1 H1 e1 => ?_)
  · refine Evl.s_ret Evl.ev_c fun H2 e2 => ?_
    have := hq H2 (e1.trans e2)
    unfold rowD at this
    rw [if_pos h1] at this
    exact this
  have h1' : isTup d = true ∧ (items d).all isPair = true := by
    rw [Bool.or_eq_false_iff] at h1
    exact ⟨by simpa using h1.1, by simpa using h1.2⟩
  have v1 := v0.mono e1
  have c2 : EvT _ [some x, some (.ref fk), some (.ref fw), none, none, none] H1 (!(items d).all fun p => gk (at' p 0) && gw (at' p 1)) := Evl.et_not (Evl.et_B (ev_allT2 (K := K) (j := 4) (k := 5) (fun p => gk (at' p 0) && gw (at' p 1)) v1 h1'.1 h1'.2 (fun _ _ => rfl) fun x y p H2 e2 hp dx dy =>
    Evl.ev_andV (ev_callA1 (i := 1) rfl (evd_var (i := 4) rfl dx)) fun _ => ev_callA1 (i := 2) rfl (evd_var (i := 5) rfl dy)))
  refine Evl.q_when c2 (fun h2 H2 e2 => ?_) (fun h2 H2 e2 => ?_)
  · refine Evl.s_ret Evl.ev_c fun H3 e3 => ?_
    have := hq H3 ((e1.trans e2).trans e3)
    unfold rowD at this
    rw [if_neg (by rw [h1]; decide), if_pos h2] at this
    exact this
  have h2' : (items d).all (fun p => gk (at' p 0) && gw (at' p 1)) = true := by simpa using h2
  obtain ⟨ks, hks, el⟩ := el_firsts (K := K) (j := 4) (k := 5) (v1.mono e2) h1'.1 h1'.2 (fun _ _ => rfl) (fun _ _ => rfl)
  have hlen : ks.length ≤ 1000 := by
    obtain ⟨_, _, _, _, _, q1, q2⟩ := hd.tupE h1'.1
    have := hks.len
    rw [List.length_map] at this
    omega
  refine Evl.s_ret (ev_callL1 el hks hlen (b := ascD ((items d).map (at' · 0))) fun p H3 Q E hp hQ => ⟨_, _, rfl, hp, rfl, hkin _ ?_, fun H4 e4 => hQ H4 e4⟩) fun H3 e3 => ?_
  · intro d' hd'
    obtain ⟨p, hp, rfl⟩ := List.mem_map.mp hd'
    have := List.all_eq_true.mp h2' p hp
    rw [Bool.and_eq_true] at this
    exact this.1
  · have := hq H3 ((e1.trans e2).trans e3)
    unfold rowD at this
    rw [if_neg (by rw [h1]; decide), if_neg (by rw [h2]; decide)] at this
    exact this
theorem ok_is_table {f f1 fk fw : Addr} {fd fd1 fdk fdw : FuncData} (F : Fun K "is_table" "is_table" s_is_table f fd) (d_is_row_of : DefAt P w K mg base "is_row_of" 5 f1 fd1 ["thing", "is_key", "is_worth"] (spRow fk fw nmD tgD))
    (d_is_name : DefAt P w K mg base "is_name" 1 fk fdk ["thing"] (spD nmD)) (d_is_target : DefAt P w K mg base "is_target" 4 fw fdw ["thing"] (spD tgD)) : FnOk P w K mg base CX0 6 f fd ["thing"] (spD tabD) := by
  refine F.ok sc_is_table (fun vs H Q E h => ?_) (fun cdv A outer s H vs Q E hr h => ?_)
  · obtain ⟨x, d, rfl, _⟩ := h
    rfl
  refine ⟨_, (pss_one (ps_ret (pe_callD d_is_row_of (hr.mono (by decide)) (pa_cons (pv 0) (pa_cons (pe_glob (v := .ref fk) rfl d_is_name.g rfl) (pa_cons (pe_glob (v := .ref fw) rfl d_is_target.g rfl) pa_nil)))))), ?_⟩
  obtain ⟨x, d, rfl, hd, hq⟩ := h
  exact Evl.s_ret (Evl.ev_call (vs := [x, .ref fk, .ref fw]) (Evl.ea_cons (Evl.ev_var rfl) (Evl.ea_cons Evl.ev_c (Evl.ea_cons Evl.ev_c Evl.ea_nil))) fun H1 e Q q E => ⟨x, d, rfl, Dq.same e _ _ hd, fun H2 e2 => q H2 e2⟩) hq
theorem ok_is_drop_list {f f1 f2 : Addr} {fd fd1 fd2 : FuncData} (F : Fun K "is_drop_list" "is_drop_list" s_is_drop_list f fd) (T : Txt K mg tk1 tk2) (d_is_ascending : DefAt P w K mg base "is_ascending" 1 f1 fd1 ["things"] spAsc)
    (d_is_joint : DefAt P w K mg base "is_joint" 2 f2 fd2 ["thing"] (spD jtD)) : FnOk P w K mg base CX0 3 f fd ["thing"] (spD dropD) := by
  refine F.ok sc_is_drop_list (fun vs H Q E h => ?_) (fun cdv A outer s H vs Q E hr h => ?_)
  · obtain ⟨x, d, rfl, _⟩ := h
    rfl
  refine ⟨_, (pss_cons (ps_if (PW.pt (pw_or (pt_not (pt_val (pe_callB call_isi (by rfl) T.n_isinstance (by decide +kernel) (pa_cons (pv 0) (pa_cons (pe_bltn (v := .ty "tuple") (by rfl) T.n_tuple (by decide +kernel) rfl) pa_nil))))) (pw_or (pt_cmpR op_eq (pe_callB call_len_seq (by rfl) T.n_len (by decide +kernel) (pa_cons (pv 0) pa_nil)) pe_int (nomark _)) (pw_or1 (pt_not (pt_val (pe_callB (cr_all rfl) (by rfl) T.n_all (by decide +kernel) (pa_cons (pe_lc (own := [("joint", 1)]) rfl sc_is_drop_list.nd (pi_tup (pv 0)) (blkOk_by (N := N_is_drop_list) (sc := defScope s_is_drop_list) (by decide +kernel)) (fun _ _ _ _ _ => pg_name (i := 1) sc_is_drop_list.nd rfl (Or.inl rfl)) (fun _ _ _ _ _ => pts_nil) (fun _ _ _ _ _ => (pe_callD d_is_joint (hr.mono (by decide)) (pa_cons (pv 1) pa_nil)))) pa_nil)))))))) (pss_one (ps_ret pe_bl)) pss_nil)
    (pss_one (ps_ret (pe_callD d_is_ascending (hr.mono (by decide)) (pa_cons (pv 0) pa_nil))))), ?_⟩
  obtain ⟨x, d, rfl, hd, hq⟩ := h
  have v0 : EvD (tVar 0) [some x, none] H d := evd_var rfl hd
  have c1 : EvT _ [some x, none] H (!isTup d || (decide (((items d).length : Int) = 0) || !(items d).all jtD)) := Evl.et_or (Evl.et_not (Evl.et_B (ev_isi (K := K) v0 (kit_tup' d)))) fun h1 =>
    Evl.et_or (Evl.et_test (ev_eqI (ev_lenD (K := K) v0 (Or.inl (by simpa using h1))) Evl.ev_c)) fun h2 => Evl.et_not (Evl.et_B (ev_allT (K := K) (j := 1) jtD v0 (by simpa using h1) fun x d' H1 e1 hd' _ => ev_callB1 (E := E0) (evd_var (i := 1) rfl hd')))
  refine Evl.q_when c1 (fun h1 H1 e1 => ?_) (fun h1 H1 e1 => ?_)
  · refine Evl.s_ret Evl.ev_c fun H2 e2 => ?_
    have := hq H2 (e1.trans e2)
    unfold dropD at this
    rw [if_pos h1] at this
    exact this
  rw [Bool.or_eq_false_iff, Bool.or_eq_false_iff] at h1
  have h2 : isTup d = true := by simpa using h1.1
  have h3 : (items d).all jtD = true := by simpa using h1.2.2
  refine Evl.s_ret (Evl.ev_call (vs := [x]) (Evl.ea_cons (Evl.ev_var rfl) Evl.ea_nil) (z := .bl (ascD (items d))) fun H2 e Q q E => ⟨x, d, rfl, Dq.same (e1.trans e) _ _ hd, by unfold isSeq; rw [h2]; rfl, kin_jt (List.all_eq_true.mp h3), fun H2 e2 => q H2 e2⟩) fun H2 e2 => ?_
  have := hq H2 (e1.trans e2)
  unfold dropD at this
  rw [if_neg (by rw [h1.1, h1.2.1, h1.2.2]; decide)] at this
  exact this
theorem ok_is_top_link {f f1 : Addr} {fd fd1 : FuncData} (F : Fun K "is_top_link" "is_top_link" s_is_top_link f fd) (T : Txt K mg tk1 tk2) (U : Tops mg tj tn) (d_is_integer : DefAt P w K mg base "is_integer" 1 f1 fd1 ["thing"] (spD intD)) :
    FnOk P w K mg base CX0 2 f fd ["deed"] spTop := by
  refine F.ok sc_is_top_link (fun vs H Q E h => ?_) (fun cdv A outer s H vs Q E hr h => ?_)
  · obtain ⟨x, d, rfl, _⟩ := h
    rfl
  refine ⟨_, (pss_one (ps_ret (pe_and (pe_callD d_is_integer (hr.mono (by decide)) (pa_cons (pe_ix ix_tup (pv 0) pe_int (fun _ _ => rfl)) pa_nil)) (pe_and (pe_cmpR op_eq (pe_ix ix_tup (pv 0) pe_int (fun _ _ => rfl)) (pe_glob (v := .int (-1)) rfl U.g_TOP_JOINT ⟨_, rfl⟩) (nomark _)) (pe_and (pe_callB call_isi (by rfl) T.n_isinstance (by decide +kernel) (pa_cons (pe_ix ix_tup (pv 0) pe_int (fun _ _ => rfl)) (pa_cons (pe_bltn (v := .ty "str") (by rfl) T.n_str (by decide +kernel) rfl) pa_nil))) (pe_one (pe_cmpR op_eq (pe_ix ix_tup (pv 0) pe_int (fun _ _ => rfl)) (pe_glob (v := .str "") rfl U.g_TOP_NAME ⟨_, rfl⟩) (nomark _)))))))), ?_⟩
  obtain ⟨x, d, rfl, hd, ht, hl, hq⟩ := h
  have v0 : EvD (tVar 0) [some x] H d := evd_var rfl hd
  have a1 := evd_atT (K := K) (i := 1) v0 ht (by omega) Evl.ev_c
  have a2 := evd_atT (K := K) (i := 2) v0 ht (by omega) Evl.ev_c
  exact Evl.s_ret (Evl.ev_andV (ev_callB1 a1) fun h1 => Evl.ev_andV (ev_eqI (a1.intE (intD_iff h1).1 (intD_iff h1).2) Evl.ev_c) fun _ => Evl.ev_andV (ev_isi (K := K) a2 (kit_str' _)) fun h2 => ev_eqS (a2.strE h2) Evl.ev_c) hq
theorem ok_is_deed {f f1 f2 f3 f4 f5 f6 f7 : Addr} {fd fd1 fd2 fd3 fd4 fd5 fd6 fd7 : FuncData} (F : Fun K "is_deed" "is_deed" s_is_deed f fd) (T : Txt K mg tk1 tk2)
    (d_is_row_of : DefAt P w K mg base "is_row_of" 7 f1 fd1 ["thing", "is_key", "is_worth"] (spRow f4 f6 jtD tabD)) (d_is_drop_list : DefAt P w K mg base "is_drop_list" 3 f2 fd2 ["thing"] (spD dropD)) (d_is_top_link : DefAt P w K mg base "is_top_link" 2 f3 fd3 ["deed"] spTop)
    (d_is_joint : DefAt P w K mg base "is_joint" 2 f4 fd4 ["thing"] (spD jtD)) (d_is_name : DefAt P w K mg base "is_name" 1 f5 fd5 ["thing"] (spD nmD)) (d_is_table : DefAt P w K mg base "is_table" 6 f6 fd6 ["thing"] (spD tabD)) (d_is_target : DefAt P w K mg base "is_target" 4 f7 fd7 ["thing"] (spD tgD)) :
    FnOk P w K mg base CX0 8 f fd ["thing"] (spD deedD) := by
  refine F.ok sc_is_deed (fun vs H Q E h => ?_) (fun cdv A outer s H vs Q E hr h => ?_)
  · obtain ⟨x, d, rfl, _⟩ := h
    rfl
  refine ⟨_, (pss_cons (ps_if (PW.pt (pw_or (pt_not (pt_val (pe_callB call_isi (by rfl) T.n_isinstance (by decide +kernel) (pa_cons (pv 0) (pa_cons (pe_bltn (v := .ty "tuple") (by rfl) T.n_tuple (by decide +kernel) rfl) pa_nil))))) (pw_or (pt_cmpR op_lt (pe_callB call_len_seq (by rfl) T.n_len (by decide +kernel) (pa_cons (pv 0) pa_nil)) pe_int (nomark _)) (pw_or1 (pt_not (pt_val (pe_callB call_isi (by rfl) T.n_isinstance (by decide +kernel) (pa_cons (pe_ix ix_tup (pv 0) pe_int (fun _ _ => rfl)) (pa_cons (pe_bltn (v := .ty "str") (by rfl) T.n_str (by decide +kernel) rfl) pa_nil))))))))) (pss_one (ps_ret pe_bl)) pss_nil)
    (pss_cons (ps_if (pt_cmpR op_eq (pe_ix ix_tup (pv 0) pe_int (fun _ _ => rfl)) pe_str (nomark _)) (pss_one (ps_ret (pe_and (pe_cmpR op_eq (pe_callB call_len_seq (by rfl) T.n_len (by decide +kernel) (pa_cons (pv 0) pa_nil)) pe_int (nomark _)) (pe_and (pe_callD d_is_row_of (hr.mono (by decide)) (pa_cons (pe_ix ix_tup (pv 0) pe_int (fun _ _ => rfl)) (pa_cons (pe_glob (v := .ref f4) rfl d_is_joint.g rfl) (pa_cons (pe_glob (v := .ref f6) rfl d_is_table.g rfl) pa_nil)))) (pe_one (pe_cmpR op_gt (pe_callB call_len_seq (by rfl) T.n_len (by decide +kernel) (pa_cons (pe_ix ix_tup (pv 0) pe_int (fun _ _ => rfl)) pa_nil)) pe_int (nomark _))))))) pss_nil)
    (pss_cons (ps_if (pt_cmpR op_eq (pe_ix ix_tup (pv 0) pe_int (fun _ _ => rfl)) pe_str (nomark _)) (pss_one (ps_ret (pe_and (pe_cmpR op_eq (pe_callB call_len_seq (by rfl) T.n_len (by decide +kernel) (pa_cons (pv 0) pa_nil)) pe_int (nomark _)) (pe_one (pe_callD d_is_drop_list (hr.mono (by decide)) (pa_cons (pe_ix ix_tup (pv 0) pe_int (fun _ _ => rfl)) pa_nil)))))) pss_nil)
    (pss_cons (ps_if (PW.pt (pw_and (pt_cmpR op_eq (pe_ix ix_tup (pv 0) pe_int (fun _ _ => rfl)) pe_str (nomark _)) (pw_and1 (pt_cmpR op_eq (pe_callB call_len_seq (by rfl) T.n_len (by decide +kernel) (pa_cons (pv 0) pa_nil)) pe_int (nomark _))))) (pss_cons (ps_if (pt_val (pe_callD d_is_top_link (hr.mono (by decide)) (pa_cons (pv 0) pa_nil))) (pss_one (ps_ret (pe_callD d_is_joint (hr.mono (by decide)) (pa_cons (pe_ix ix_tup (pv 0) pe_int (fun _ _ => rfl)) pa_nil)))) pss_nil)
    (pss_one (ps_ret (pe_and (pe_callD d_is_joint (hr.mono (by decide)) (pa_cons (pe_ix ix_tup (pv 0) pe_int (fun _ _ => rfl)) pa_nil)) (pe_and (pe_callD d_is_name (hr.mono (by decide)) (pa_cons (pe_ix ix_tup (pv 0) pe_int (fun _ _ => rfl)) pa_nil)) (pe_one (pe_or (pe_cmpR op_isN (pe_ix ix_tup (pv 0) pe_int (fun _ _ => rfl)) pe_non (nomark _)) (pe_one (pe_callD d_is_target (hr.mono (by decide)) (pa_cons (pe_ix ix_tup (pv 0) pe_int (fun _ _ => rfl)) pa_nil)))))))))) pss_nil)
    (pss_one (ps_ret pe_bl)))))), ?_⟩
  obtain ⟨x, d, rfl, hd, hq⟩ := h
  have v0 : EvD (tVar 0) [some x] H d := evd_var rfl hd
  have c1 : EvT _ [some x] H (!isTup d || (decide (((items d).length : Int) < 2) || !isStr (at' d 0))) := Evl.et_or (Evl.et_not (Evl.et_B (ev_isi (K := K) v0 (kit_tup' d)))) fun h1 =>
    Evl.et_or (Evl.et_test (Evl.ev_op (ev_lenD (K := K) v0 (Or.inl (by simpa using h1))) Evl.ev_c (Evl.rv_I0 (g := fun i j => .bl (decide (i < j))) (j := 2)))) fun h2 => Evl.et_not (Evl.et_B (ev_isi (K := K) (evd_atT (K := K) (i := 0) v0 (by simpa using h1) (by have := of_decide_eq_false h2; omega) Evl.ev_c) (kit_str' _)))
  refine Evl.q_when c1 (fun h1 H1 e1 => ?_) (fun h1 H1 e1 => ?_)
  · refine Evl.s_ret Evl.ev_c fun H2 e2 => ?_
    have := hq H2 (e1.trans e2)
    unfold deedD at this
    rw [if_pos h1] at this
    exact this
  have g1 := h1
  rw [Bool.or_eq_false_iff, Bool.or_eq_false_iff] at h1
  have ht : isTup d = true := by simpa using h1.1
  have hl : 2 ≤ (items d).length := by have := of_decide_eq_false h1.2.1; omega
  have hs : isStr (at' d 0) = true := by simpa using h1.2.2
  have z0 : ∀ H', Ex H H' → Ev (tOp (rIxT K) (tVar 0) (tC (.int 0))) [some x] H' (.str (txt (at' d 0))) := fun H' e => (evd_atT (K := K) (i := 0) (v0.mono e) ht (by omega) Evl.ev_c).strE hs
  have z1 : ∀ H', Ex H H' → EvD (tOp (rIxT K) (tVar 0) (tC (.int 1))) [some x] H' (at' d 1) := fun H' e => evd_atT (K := K) (i := 1) (v0.mono e) ht (by omega) Evl.ev_c
  have ln : ∀ H', Ex H H' → Ev (tCB (Evl.rLenS K) (tCons (tVar 0) tNil)) [some x] H' (.int ((items d).length : Int)) := fun H' e => ev_lenD (K := K) (v0.mono e) (Or.inl ht)
  unfold deedD at hq
  rw [if_neg (by rw [g1]; decide)] at hq
  refine Evl.q_when (Evl.et_test (ev_eqS (z0 H1 e1) Evl.ev_c)) (fun h2 H2 e2 => ?_) (fun h2 H2 e2 => ?_)
  · rw [if_pos h2] at hq
    refine Evl.s_ret (Evl.ev_andV (ev_eqI (ln H2 (e1.trans e2)) Evl.ev_c) fun _ => Evl.ev_andV ?_ fun h3 => Evl.ev_op (ev_lenD (K := K) (z1 H2 (e1.trans e2)) (Or.inl ?_)) Evl.ev_c Evl.rv_I0) fun H3 e3 => hq H3 ((e1.trans e2).trans e3)
    · obtain ⟨y, hy, dy⟩ := z1 H2 (e1.trans e2)
      exact Evl.ev_call (vs := [y, .ref f4, .ref f6]) (Evl.ea_cons hy (Evl.ea_cons Evl.ev_c (Evl.ea_cons Evl.ev_c Evl.ea_nil))) fun H3 e Q q E => ⟨y, _, rfl, Dq.same e _ _ dy, fun H4 e4 => q H4 e4⟩
    · unfold rowD at h3
      cases h4 : isTup (at' d 1) with
      | true => rfl
      | false => rw [h4] at h3; exact absurd h3 (by simp)
  rw [if_neg (by rw [h2]; decide)] at hq
  refine Evl.q_when (Evl.et_test (ev_eqS (z0 H2 (e1.trans e2)) Evl.ev_c)) (fun h3 H3 e3 => ?_) (fun h3 H3 e3 => ?_)
  · rw [if_pos h3] at hq
    exact Evl.s_ret (Evl.ev_andV (ev_eqI (ln H3 ((e1.trans e2).trans e3)) Evl.ev_c) fun _ => ev_callB1 (z1 H3 ((e1.trans e2).trans e3))) fun H4 e4 => hq H4 (((e1.trans e2).trans e3).trans e4)
  rw [if_neg (by rw [h3]; decide)] at hq
  have e123 := (e1.trans e2).trans e3
  refine Evl.q_when (Evl.et_and (Evl.et_test (ev_eqS (z0 H3 e123) Evl.ev_c)) fun _ => Evl.et_test (ev_eqI (ln H3 e123) Evl.ev_c)) (fun h4 H4 e4 => ?_) (fun h4 H4 e4 => ?_)
  · have e14 := e123.trans e4
    rw [if_pos h4] at hq
    rw [Bool.and_eq_true] at h4
    have hl4 : (items d).length = 4 := by have := of_decide_eq_true h4.2; omega
    have z2 : ∀ H', Ex H H' → EvD (tOp (rIxT K) (tVar 0) (tC (.int 2))) [some x] H' (at' d 2) := fun H' e => evd_atT (K := K) (i := 2) (v0.mono e) ht (by omega) Evl.ev_c
    have z3 : ∀ H', Ex H H' → EvD (tOp (rIxT K) (tVar 0) (tC (.int 3))) [some x] H' (at' d 3) := fun H' e => evd_atT (K := K) (i := 3) (v0.mono e) ht (by omega) Evl.ev_c
    refine Evl.q_when (b := topD d) (Evl.et_B (Evl.ev_call (vs := [x]) (Evl.ea_cons (Evl.ev_var rfl) Evl.ea_nil) fun H5 e5 Q q E => ⟨x, d, rfl, Dq.same (e14.trans e5) _ _ hd, ht, by omega, fun H6 e6 => q H6 e6⟩)) (fun h5 H5 e5 => ?_) (fun h5 H5 e5 => ?_)
    · rw [if_pos h5] at hq
      exact Evl.s_ret (ev_callB1 (z3 H5 (e14.trans e5))) fun H6 e6 => hq H6 ((e14.trans e5).trans e6)
    · rw [if_neg (by rw [h5]; decide)] at hq
      have e15 := e14.trans e5
      exact Evl.s_ret (Evl.ev_andV (ev_callB1 (z1 H5 e15)) fun _ => Evl.ev_andV (ev_callB1 (z2 H5 e15)) fun _ => Evl.ev_orV (ev_isN (z3 H5 e15)) fun _ => ev_callB1 (z3 H5 e15)) fun H6 e6 => hq H6 (e15.trans e6)
  · rw [if_neg (by rw [h4]; decide)] at hq
    exact Evl.s_ret Evl.ev_c fun H5 e5 => hq H5 ((e123.trans e4).trans e5)
end
end KA

set_option Elab.async false
set_option linter.all false
set_option maxRecDepth 100000
set_option maxHeartbeats 4000000
namespace LF
open PySem PySem.Spec PyProof.Rows L2
open Evl (Ev EvL EvU EvT EvA Ex sq_of st_of)
theorem FnOk.or {P : Program} {w : World} {K : PySem.W.Frag} {mg : Str → Option Value} {base : Heap} {CX : CXT} {k : Nat} {f : Addr} {fd : FuncData} {ps : List Str} {sp sp' : Sp} (F : FnOk P w K mg base CX k f fd ps sp) (G : FnOk P w K mg base CX k f fd ps sp') :
    FnOk P w K mg base CX k f fd ps (fun vs H Q E => sp vs H Q E ∨ sp' vs H Q E) :=
  ⟨fun vs H Q E h => h.elim (F.len vs H Q E) (G.len vs H Q E), fun A outer s H args us vs Q E hr h0 hb hv h => h.elim (F.run A outer s H args us vs Q E hr h0 hb hv) (G.run A outer s H args us vs Q E hr h0 hb hv)⟩
/-- a list or a dict, of anything -/
def Opq (H : Hp) (x : V) : Prop := ∃ a, x = .ref a ∧ ((∃ xs, H a = some (.lst xs)) ∨ ∃ kvs, H a = some (.dK kvs))
theorem Opq.same {H H' : Hp} {x : V} (h : Opq H x) (s : Ex H H') : Opq H' x := by
  obtain ⟨a, rfl, h⟩ := h
  rcases h with ⟨xs, h⟩ | ⟨xs, h⟩
  · exact ⟨a, rfl, Or.inl ⟨xs, s _ _ h⟩⟩
  · exact ⟨a, rfl, Or.inr ⟨xs, s _ _ h⟩⟩
theorem Opq.ty {K : PySem.W.Frag} {H : Hp} {x : V} (h : Opq H x) : ∃ t, TyX K H x (.type t) ∧ PySem.W.kitOne K (.type t) (.type "tuple") = some false := by
  obtain ⟨a, rfl, h⟩ := h
  rcases h with ⟨xs, h⟩ | ⟨xs, h⟩
  · exact ⟨"list", .base (.lst h), kit_ty (by decide +kernel)⟩
  · exact ⟨"dict", .base (.dK h), kit_ty (by decide +kernel)⟩
/-- an item of a list of deeds: data, or a list or a dict -/
def El (H : Hp) (x : V) : Option PyData → Prop
  | some d => Dq H x d
  | none => Opq H x
theorem El.same {H H' : Hp} {x : V} {o : Option PyData} (h : El H x o) (s : Ex H H') : El H' x o := by
  cases o with
  | some d => exact Dq.same s _ _ h
  | none => exact Opq.same h s
inductive ElAll (H : Hp) : List V → List (Option PyData) → Prop
  | nil : ElAll H [] []
  | cons {v : V} {vs : List V} {d : Option PyData} {ds : List (Option PyData)} : El H v d → ElAll H vs ds → ElAll H (v :: vs) (d :: ds)
theorem ElAll.same {H H' : Hp} (s : Ex H H') : ∀ {vs : List V} {ds : List (Option PyData)}, ElAll H vs ds → ElAll H' vs ds
  | _, _, .nil => .nil
  | _, _, .cons h1 h2 => .cons (h1.same s) (h2.same s)
theorem ElAll.len {H : Hp} : ∀ {vs : List V} {ds : List (Option PyData)}, ElAll H vs ds → vs.length = ds.length
  | _, _, .nil => rfl
  | _, _, .cons _ h => by rw [List.length_cons, List.length_cons, h.len]
theorem ElAll.get {H : Hp} : ∀ {vs : List V} {ds : List (Option PyData)} (i : Nat) {x : V}, ElAll H vs ds → vs[i]? = some x → ∃ d, ds[i]? = some d ∧ El H x d
  | _, _, i, _, .nil, h => by simp at h
  | _, _, 0, _, .cons h1 _, h => ⟨_, rfl, by cases (show some _ = some _ from h); exact h1⟩
  | _, _, i + 1, _, .cons _ h2, h => ElAll.get (vs := _) (ds := _) i h2 h
theorem ElAll.get' {H : Hp} : ∀ {vs : List V} {ds : List (Option PyData)} (i : Nat) {d : Option PyData}, ElAll H vs ds → ds[i]? = some d → ∃ x, vs[i]? = some x ∧ El H x d
  | _, _, i, _, .nil, h => by simp at h
  | _, _, 0, _, .cons h1 _, h => ⟨_, rfl, by cases (show some _ = some _ from h); exact h1⟩
  | _, _, i + 1, _, .cons _ h2, h => ElAll.get' (vs := _) (ds := _) i h2 h
/-- a value that is asked: a list of such items, or no list -/
def Tp (H : Hp) (x : V) : Option (List (Option PyData)) → Prop
  | some es => ∃ a xs, x = .ref a ∧ H a = some (.lst xs) ∧ ElAll H xs es ∧ xs.length ≤ 60
  | none => (∃ d, Dq H x d ∧ isLst d = false) ∨ (∃ a kvs, x = .ref a ∧ H a = some (.dK kvs)) ∨ ∃ a xs, x = .ref a ∧ H a = some (.tup xs)
theorem Tp.same {H H' : Hp} {x : V} {o : Option (List (Option PyData))} (h : Tp H x o) (s : Ex H H') : Tp H' x o := by
  cases o with
  | some es =>
    obtain ⟨a, xs, h1, h2, h3, h4⟩ := h
    exact ⟨a, xs, h1, s _ _ h2, h3.same s, h4⟩
  | none =>
    rcases h with ⟨d, h1, h2⟩ | ⟨a, kvs, h1, h2⟩ | ⟨a, kvs, h1, h2⟩
    · exact Or.inl ⟨d, Dq.same s _ _ h1, h2⟩
    · exact Or.inr (Or.inl ⟨a, kvs, h1, s _ _ h2⟩)
    · exact Or.inr (Or.inr ⟨a, kvs, h1, s _ _ h2⟩)
theorem Tp.isi {K : PySem.W.Frag} {te : TE} {σ : L2.St} {H : Hp} {x : V} {o : Option (List (Option PyData))} (h : Tp H x o) (hx : Ev te σ H x) : Ev (tCB (rIsi K) (tCons te (tCons (tC (.ty "list")) tNil))) σ H (.bl o.isSome) := by
  refine Evl.ev_cb (vs := [x, .ty "list"]) (Evl.ea_cons hx (Evl.ea_cons Evl.ev_c Evl.ea_nil)) fun H1 e Q q => ?_
  have q1 := q H1 (Ex.refl H1)
  cases o with
  | some es =>
    obtain ⟨a, xs, rfl, h2, h3, h4⟩ := h
    exact ⟨_, .ty "list", _, _, true, rfl, .ty _, .base (.lst (e _ _ h2)), kit_ty (by decide +kernel), q1⟩
  | none =>
    rcases h with ⟨d, h1, h2⟩ | ⟨a, kvs, rfl, h2⟩ | ⟨a, kvs, rfl, h2⟩
    · exact ⟨_, .ty "list", _, _, false, rfl, .ty _, (Dq.same e _ _ h1).ty, by rw [kit_lst', h2], q1⟩
    · exact ⟨_, .ty "list", _, _, false, rfl, .ty _, .base (.dK (e _ _ h2)), kit_ty (by decide +kernel), q1⟩
    · exact ⟨_, .ty "list", _, _, false, rfl, .ty _, .base (.tup (e _ _ h2)), kit_ty (by decide +kernel), q1⟩
def elG (g : PyData → Bool) : Option PyData → Bool
  | some d => g d
  | none => false
def spE (g : PyData → Bool) : Sp := fun vs H Q E => spD g vs H Q E ∨ ∃ x, vs = [x] ∧ Opq H x ∧ ∀ H', Ex H H' → Q (.bl false) H'
section
variable {K : PySem.W.Frag} {σ : L2.St} {H H' : Hp} {ta tb te tx : TE} {t u : TT} {x y z v : V} {d e : PyData}
theorem ev_callE {g : PyData → Bool} {E : XK} {o : Option PyData} (h : Ev te σ H x) (ho : El H x o) : Ev (tCall (spE g) [] E (tCons te tNil)) σ H (.bl (elG g o)) := by
  refine Evl.ev_call (vs := [x]) (Evl.ea_cons h Evl.ea_nil) fun H1 e Q q E => ?_
  cases o with
  | some d => exact Or.inl ⟨x, d, rfl, Dq.same e _ _ ho, fun H2 e2 => q H2 e2⟩
  | none => exact Or.inr ⟨x, rfl, Opq.same ho e, fun H2 e2 => q H2 e2⟩
theorem ev_allE {j : Nat} {tl : TE} {a : Addr} {xs : List V} {es : List (Option PyData)} (g : Option PyData → Bool) (h : Ev tl σ H (.ref a)) (ha : H a = some (.lst xs)) (hd : ElAll H xs es) (hz : xs.length ≤ 60)
    (hs : ∀ x o H1, Ex H H1 → El H1 x o → o ∈ es → Ev te ((wipe σ [j]).set j (some x)) H1 (.bl (g o))) :
    Ev (tCB (rAll K) (tCons (tLc (iList K tl) (gName j) tYes te [j]) tNil)) σ H (.bl (es.all g)) := by
  refine Evl.ev_is (ev_allB (bs := es.map g) ?_) (by rw [List.all_map]; rfl)
  refine el_lcLm (K := K) _ h ha (by rw [List.length_map, List.length_map, hd.len]) (by omega) fun i x y H1 R e hx hy k => ?_
  obtain ⟨o, ho, hq⟩ := hd.get i hx
  rw [List.getElem?_map, List.getElem?_map, ho] at hy
  cases (show some (V.bl (g o)) = some y from hy)
  exact k _ wipe_set (hs x o H1 e (hq.same e) (List.mem_of_getElem? ho))
theorem ev_lenX {a : Addr} {xs : List V} (h : Ev te σ H (.ref a)) (ha : H a = some (.lst xs)) : Ev (tCB (Evl.rLenS K) (tCons te tNil)) σ H (.int (xs.length : Int)) :=
  Evl.ev_cb (vs := [.ref a]) (Evl.ea_cons h Evl.ea_nil) fun H1 e Q q => ⟨a, xs, rfl, Or.inl (sq_of (e _ _ ha)), q H1 (Ex.refl H1)⟩
end
end LF
namespace KA
open PySem PySem.Spec PyProof.Rows L2 LF
open Evl (Ev EvL EvU EvT EvA Ex sq_of st_of)
def kindOf (d : PyData) : Str := txt (at' d 0)
def keyOf (d : PyData) : List Key := [.inl (num (at' d 1)), .inr (txt (at' d 2))]
def linksOf (ds : List PyData) : List (List Key) := ds.filterMap fun d => if kindOf d = "turn" then some (keyOf d) else none
/-- what stands against the i-th deed -/
def badAt (ds : List PyData) (i : Nat) : Bool :=
  (decide (kindOf (ds.getD i .none) = "make") && decide (0 < i)) || ((decide (kindOf (ds.getD i .none) = "drop") && decide (i + 1 < ds.length)) || (decide (kindOf (ds.getD i .none) = "turn") && (linksOf (ds.take i)).any fun k => decide (k = keyOf (ds.getD i .none))))
def strD (o : Option (List (Option PyData))) : Bool := match o with
  | none => false
  | some es => es.all (elG deedD) && (List.range es.length).all fun i => !badAt (es.map (·.getD .none)) i
def spStr : Sp := fun vs H Q _ => ∃ x o, vs = [x] ∧ Tp H x o ∧ ∀ H', Ex H H' → Q (.bl (strD o)) H'
theorem valL (ls : List (List Key)) (k : List Key) : (valV (ls.map fun k => (k, V.bl true)) k).isSome = ls.any fun k' => decide (k' = k) := by
  unfold valV
  rw [Option.isSome_map, List.find?_map, Option.isSome_map, Bool.eq_iff_iff, List.find?_isSome]
  simp [List.any_eq_true]
theorem putL {ls : List (List Key)} {k : List Key} (h : (ls.any fun k' => decide (k' = k)) = false) : putK (ls.map fun k => (k, V.bl true)) k (V.bl true) = (ls.map fun k => (k, V.bl true)) ++ [(k, V.bl true)] := by
  unfold putK
  rw [if_neg]
  rw [List.any_map]
  intro hc
  have : (ls.any fun k' => decide (k' = k)) = true := hc
  rw [h] at this; cases this
theorem deed_facts {d : PyData} (h : deedD d = true) : isTup d = true ∧ 2 ≤ (items d).length ∧ isStr (at' d 0) = true ∧ (kindOf d = "turn" → (items d).length = 4 ∧ isNum (at' d 1) = true ∧ isBol (at' d 1) = false ∧ isStr (at' d 2) = true) := by
  unfold deedD at h
  split at h
  · cases h
  rename_i h1
  have h1' : (!isTup d || (decide (((items d).length : Int) < 2) || !isStr (at' d 0))) = false := by simpa using h1
  rw [Bool.or_eq_false_iff, Bool.or_eq_false_iff] at h1'
  refine ⟨by simpa using h1'.1, by have := of_decide_eq_false h1'.2.1; omega, by simpa using h1'.2.2, fun hk => ?_⟩
  have k1 : txt (at' d 0) = "turn" := hk
  have n1 : decide (txt (at' d 0) = "make") = false := by rw [k1]; decide +kernel
  have n2 : decide (txt (at' d 0) = "drop") = false := by rw [k1]; decide +kernel
  rw [if_neg (by rw [n1]; decide), if_neg (by rw [n2]; decide)] at h
  split at h
  · rename_i h4
    rw [Bool.and_eq_true] at h4
    refine ⟨by have := of_decide_eq_true h4.2; omega, ?_⟩
    split at h
    · rename_i h5
      unfold topD at h5
      rw [Bool.and_eq_true, Bool.and_eq_true, Bool.and_eq_true] at h5
      exact ⟨(intD_iff h5.1).1, (intD_iff h5.1).2, h5.2.2.1⟩
    · rw [Bool.and_eq_true, Bool.and_eq_true] at h
      have j1 := h.1
      unfold jtD at j1
      rw [Bool.and_eq_true] at j1
      have j2 := h.2.1
      unfold nmD at j2
      rw [Bool.and_eq_true] at j2
      exact ⟨(intD_iff j1.1).1, (intD_iff j1.1).2, j2.1⟩
  · cases h
abbrev s_is_straight : Stmt := topS 19
abbrev N_is_straight : List Str := ["deeds", "deed", "turned", "at", "link"]
theorem sc_is_straight : FnScope ["deeds", "deed", "turned", "at", "link"] ["deeds"] (defScope s_is_straight) := ⟨rfl, rfl, rfl, by decide +kernel, rfl, by decide +kernel, by decide +kernel⟩
section
variable {P : Program} {w : World} {K : PySem.W.Frag} {mg : Str → Option Value} {base : Heap} {tk1 tk2 tj tn : Tok}
theorem opq_is_deed {f : Addr} {fd : FuncData} {f1 f2 f3 f4 f5 f6 f7 : Addr} {fd1 fd2 fd3 fd4 fd5 fd6 fd7 : FuncData}
    (d_is_row_of : DefAt P w K mg base "is_row_of" 7 f1 fd1 ["thing", "is_key", "is_worth"] (spRow f4 f6 jtD tabD)) (d_is_drop_list : DefAt P w K mg base "is_drop_list" 3 f2 fd2 ["thing"] (spD dropD)) (d_is_top_link : DefAt P w K mg base "is_top_link" 2 f3 fd3 ["deed"] spTop)
    (d_is_joint : DefAt P w K mg base "is_joint" 2 f4 fd4 ["thing"] (spD jtD)) (d_is_name : DefAt P w K mg base "is_name" 1 f5 fd5 ["thing"] (spD nmD)) (d_is_table : DefAt P w K mg base "is_table" 6 f6 fd6 ["thing"] (spD tabD)) (d_is_target : DefAt P w K mg base "is_target" 4 f7 fd7 ["thing"] (spD tgD)) (F : Fun K "is_deed" "is_deed" s_is_deed f fd) (T : Txt K mg tk1 tk2) (G : FnOk P w K mg base CX0 8 f fd ["thing"] (spD deedD)) : FnOk P w K mg base CX0 8 f fd ["thing"] (spE deedD) := by
  have G2 : FnOk P w K mg base CX0 8 f fd ["thing"] (fun vs H Q _ => ∃ x, vs = [x] ∧ Opq H x ∧ ∀ H', Ex H H' → Q (.bl false) H') := by
    refine F.ok sc_is_deed (fun vs H Q E h => ?_) (fun cdv A outer s H vs Q E hr h => ?_)
    · obtain ⟨x, rfl, _⟩ := h
      rfl
    refine ⟨_, (pss_cons (ps_if (PW.pt (pw_or (pt_not (pt_val (pe_callB call_isi (by rfl) T.n_isinstance (by decide +kernel) (pa_cons (pv 0) (pa_cons (pe_bltn (v := .ty "tuple") (by rfl) T.n_tuple (by decide +kernel) rfl) pa_nil))))) (pw_or (pt_cmpR op_lt (pe_callB call_len_seq (by rfl) T.n_len (by decide +kernel) (pa_cons (pv 0) pa_nil)) pe_int (nomark _)) (pw_or1 (pt_not (pt_val (pe_callB call_isi (by rfl) T.n_isinstance (by decide +kernel) (pa_cons (pe_ix ix_tup (pv 0) pe_int (fun _ _ => rfl)) (pa_cons (pe_bltn (v := .ty "str") (by rfl) T.n_str (by decide +kernel) rfl) pa_nil))))))))) (pss_one (ps_ret pe_bl)) pss_nil)
    (pss_cons (ps_if (pt_cmpR op_eq (pe_ix ix_tup (pv 0) pe_int (fun _ _ => rfl)) pe_str (nomark _)) (pss_one (ps_ret (pe_and (pe_cmpR op_eq (pe_callB call_len_seq (by rfl) T.n_len (by decide +kernel) (pa_cons (pv 0) pa_nil)) pe_int (nomark _)) (pe_and (pe_callD d_is_row_of (hr.mono (by decide)) (pa_cons (pe_ix ix_tup (pv 0) pe_int (fun _ _ => rfl)) (pa_cons (pe_glob (v := .ref f4) rfl d_is_joint.g rfl) (pa_cons (pe_glob (v := .ref f6) rfl d_is_table.g rfl) pa_nil)))) (pe_one (pe_cmpR op_gt (pe_callB call_len_seq (by rfl) T.n_len (by decide +kernel) (pa_cons (pe_ix ix_tup (pv 0) pe_int (fun _ _ => rfl)) pa_nil)) pe_int (nomark _))))))) pss_nil)
    (pss_cons (ps_if (pt_cmpR op_eq (pe_ix ix_tup (pv 0) pe_int (fun _ _ => rfl)) pe_str (nomark _)) (pss_one (ps_ret (pe_and (pe_cmpR op_eq (pe_callB call_len_seq (by rfl) T.n_len (by decide +kernel) (pa_cons (pv 0) pa_nil)) pe_int (nomark _)) (pe_one (pe_callD d_is_drop_list (hr.mono (by decide)) (pa_cons (pe_ix ix_tup (pv 0) pe_int (fun _ _ => rfl)) pa_nil)))))) pss_nil)
    (pss_cons (ps_if (PW.pt (pw_and (pt_cmpR op_eq (pe_ix ix_tup (pv 0) pe_int (fun _ _ => rfl)) pe_str (nomark _)) (pw_and1 (pt_cmpR op_eq (pe_callB call_len_seq (by rfl) T.n_len (by decide +kernel) (pa_cons (pv 0) pa_nil)) pe_int (nomark _))))) (pss_cons (ps_if (pt_val (pe_callD d_is_top_link (hr.mono (by decide)) (pa_cons (pv 0) pa_nil))) (pss_one (ps_ret (pe_callD d_is_joint (hr.mono (by decide)) (pa_cons (pe_ix ix_tup (pv 0) pe_int (fun _ _ => rfl)) pa_nil)))) pss_nil)
    (pss_one (ps_ret (pe_and (pe_callD d_is_joint (hr.mono (by decide)) (pa_cons (pe_ix ix_tup (pv 0) pe_int (fun _ _ => rfl)) pa_nil)) (pe_and (pe_callD d_is_name (hr.mono (by decide)) (pa_cons (pe_ix ix_tup (pv 0) pe_int (fun _ _ => rfl)) pa_nil)) (pe_one (pe_or (pe_cmpR op_isN (pe_ix ix_tup (pv 0) pe_int (fun _ _ => rfl)) pe_non (nomark _)) (pe_one (pe_callD d_is_target (hr.mono (by decide)) (pa_cons (pe_ix ix_tup (pv 0) pe_int (fun _ _ => rfl)) pa_nil)))))))))) pss_nil)
    (pss_one (ps_ret pe_bl)))))), ?_⟩
    obtain ⟨x, rfl, hx, hq⟩ := h
    have c0 : Ev (tCB (rIsi K) (tCons (tVar 0) (tCons (tC (.ty "tuple")) tNil))) [some x] H (.bl false) := by
      refine Evl.ev_cb (vs := [x, .ty "tuple"]) (Evl.ea_cons (Evl.ev_var rfl) (Evl.ea_cons Evl.ev_c Evl.ea_nil)) fun H1 e Q q => ?_
      obtain ⟨t, h1, h2⟩ := (hx.same e).ty (K := K)
      exact ⟨_, .ty "tuple", _, _, false, rfl, .ty _, h1, h2, q H1 (Ex.refl H1)⟩
    refine Evl.q_when (Evl.et_or (b := false) (Evl.et_not (Evl.et_B c0)) fun h => nomatch h) (fun _ H1 e1 => ?_) (fun h => nomatch h)
    exact Evl.s_ret Evl.ev_c fun H2 e2 => hq H2 (e1.trans e2)
  exact FnOk.or G G2
theorem ok_is_straight {f f1 : Addr} {fd fd1 : FuncData} (F : Fun K "is_straight" "is_straight" s_is_straight f fd) (T : Txt K mg tk1 tk2) (d_is_deed : DefAt P w K mg base "is_deed" 8 f1 fd1 ["thing"] (spE deedD)) :
    FnOk P w K mg base CX0 9 f fd ["deeds"] spStr := by
  refine F.ok sc_is_straight (fun vs H Q E h => ?_) (fun cdv A outer s H vs Q E hr h => ?_)
  · obtain ⟨x, o, rfl, _⟩ := h
    rfl
  have hu1 := hu_of hr
  refine ⟨_, (pss_cons (ps_if (PW.pt (pw_or (pt_not (pt_val (pe_callB call_isi (by rfl) T.n_isinstance (by decide +kernel) (pa_cons (pv 0) (pa_cons (pe_bltn (v := .ty "list") (by rfl) T.n_list (by decide +kernel) rfl) pa_nil))))) (pw_or1 (pt_not (pt_val (pe_callB (cr_all rfl) (by rfl) T.n_all (by decide +kernel) (pa_cons (pe_lc (own := [("deed", 1)]) rfl sc_is_straight.nd (pi_list (pv 0)) (blkOk_by (N := N_is_straight) (sc := defScope s_is_straight) (by decide +kernel)) (fun _ _ _ _ _ => pg_name (i := 1) sc_is_straight.nd rfl (Or.inl rfl)) (fun _ _ _ _ _ => pts_nil) (fun _ _ _ _ _ => (pe_callD d_is_deed (hr.mono (by decide)) (pa_cons (pv 1) pa_nil)))) pa_nil))))))) (pss_one (ps_ret pe_bl)) pss_nil)
    (pss_cons (ps_set (i := 2) sc_is_straight.nd rfl (Or.inl rfl) pe_dnewT)
    (pss_cons (ps_for PassesOwn.never rfl (pi_range1 (by rfl) T.n_range (pa_cons (pe_callB call_len_seq (by rfl) T.n_len (by decide +kernel) (pa_cons (pv 0) pa_nil)) pa_nil)) (pg_name (i := 3) sc_is_straight.nd rfl (Or.inl rfl)) (pss_cons (ps_if (PW.pt (pw_and (pt_cmpR op_eq (pe_ix ix_tup (pe_ix ix_list (pv 0) (pv 3) (fun _ _ => rfl)) pe_int (fun _ _ => rfl)) pe_str (nomark _)) (pw_and1 (pt_cmpR op_gt (pv 3) pe_int (nomark _))))) (pss_one (ps_ret pe_bl)) pss_nil)
    (pss_cons (ps_if (PW.pt (pw_and (pt_cmpR op_eq (pe_ix ix_tup (pe_ix ix_list (pv 0) (pv 3) (fun _ _ => rfl)) pe_int (fun _ _ => rfl)) pe_str (nomark _)) (pw_and1 (pt_cmpR op_lt (pv 3) (pe_op op_sub (pe_callB call_len_seq (by rfl) T.n_len (by decide +kernel) (pa_cons (pv 0) pa_nil)) pe_int) (nomark _))))) (pss_one (ps_ret pe_bl)) pss_nil)
    (pss_one (ps_if (pt_cmpR op_eq (pe_ix ix_tup (pe_ix ix_list (pv 0) (pv 3) (fun _ _ => rfl)) pe_int (fun _ _ => rfl)) pe_str (nomark _)) (pss_cons (ps_set (i := 4) sc_is_straight.nd rfl (Or.inl rfl) (pe_tup (pa_cons (pe_ix ix_tup (pe_ix ix_list (pv 0) (pv 3) (fun _ _ => rfl)) pe_int (fun _ _ => rfl)) (pa_cons (pe_ix ix_tup (pe_ix ix_list (pv 0) (pv 3) (fun _ _ => rfl)) pe_int (fun _ _ => rfl)) pa_nil))))
    (pss_cons (ps_if (pt_cmp (pc_din hu1 (pv 4) (pv 2))) (pss_one (ps_ret pe_bl)) pss_nil)
    (pss_one (ps_dput hu1 (pv 2) (pv 4) pe_bl rfl)))) pss_nil)))))
    (pss_one (ps_ret pe_bl))))), ?_⟩
  obtain ⟨x, o, rfl, hx, hq⟩ := h
  have v0 : Ev (tVar 0) [some x, none, none, none, none] H x := Evl.ev_var rfl
  cases o with
  | none =>
    refine Evl.q_when (Evl.et_or (b := false) (Evl.et_not (Evl.et_B (hx.isi v0))) fun h => nomatch h) (fun _ H1 e1 => ?_) (fun h => nomatch h)
    exact Evl.s_ret Evl.ev_c fun H2 e2 => hq H2 (e1.trans e2)
  | some es =>
  have hx' := hx
  obtain ⟨a, xs, rfl, ha, hel, hz⟩ := hx'
  have hlen := hel.len
  refine Evl.q_when (Evl.et_or (Evl.et_not (Evl.et_B (hx.isi v0))) fun _ => Evl.et_not (Evl.et_B (ev_allE (K := K) (j := 1) (elG deedD) v0 ha hel hz fun x o H1 e1 ho _ => ev_callE (E := E0) (Evl.ev_var rfl) ho))) (fun h1 H1 e1 => ?_) (fun h1 H1 e1 => ?_)
  · refine Evl.s_ret Evl.ev_c fun H2 e2 => ?_
    have h2 : es.all (elG deedD) = false := by simpa using h1
    have := hq H2 (e1.trans e2)
    unfold strD at this
    dsimp only at this
    rw [h2] at this
    exact this
  have hall : es.all (elG deedD) = true := by simpa using h1
  generalize hds : es.map (·.getD .none) = ds at *
  have hdl : ds.length = xs.length := by rw [← hds, List.length_map, hlen]
  have hdeed : ∀ i (hi : i < ds.length), es[i]? = some (some ds[i]) ∧ deedD ds[i] = true := by
    intro i hi
    have hi' : i < es.length := by omega
    have hm := List.all_eq_true.mp hall _ (List.getElem_mem hi')
    have e : ds[i] = (es[i]).getD .none := by simp [← hds]
    cases hc : es[i] with
    | none => rw [hc] at hm; cases hm
    | some d =>
      rw [hc] at hm e
      rw [List.getElem?_eq_getElem hi', hc, e]
      exact ⟨rfl, hm⟩
  have no : ∀ i, i < ds.length → badAt ds i = true → strD (some es) = false := by
    intro i hi hb
    unfold strD
    dsimp only
    rw [hds, hall, Bool.true_and]
    refine List.all_eq_false.mpr ⟨i, List.mem_range.mpr (by omega), by rw [hb]; decide⟩
  refine fun p hp => ?_
  have hap : ∀ H', Ex H1 H' → H' a = some (.lst xs) := fun H' e => e _ _ (e1 _ _ ha)
  refine Evl.q_forR1 (n := (xs.length : Int)) (Evl.ea_cons (ev_lenX (K := K) (Evl.ev_var rfl) (hap _ (Ex.new hp))) Evl.ea_nil) (by omega)
    (fun i σ H' => (∃ v3 v4, σ = [some (.ref a), none, some (.ref p), v3, v4]) ∧ Ex H1 H' ∧ H' p = some (.dT ((linksOf (ds.take i)).map fun k => (k, V.bl true))) ∧ ∀ j, j < i → badAt ds j = false) ?_ ?_ ?_
  · intro H2 e2
    exact ⟨⟨_, _, rfl⟩, (Ex.new hp).trans e2, by rw [List.take_zero]; exact e2 _ _ upd_same, fun j hj => absurd hj (Nat.not_lt_zero j)⟩
  · rintro i σ H2 hi ⟨⟨v3, v4, rfl⟩, e2, hd, hgood⟩
    have hi' : i < ds.length := by omega
    obtain ⟨he, hde⟩ := hdeed i hi'
    obtain ⟨y, hy, hyd⟩ := hel.get' i he
    generalize hdd : ds[i] = d at he hde hyd
    have hgd : ds.getD i .none = d := by rw [List.getD_eq_getElem?_getD, List.getElem?_eq_getElem hi', hdd]; rfl
    obtain ⟨ft, fl, fs, fk⟩ := deed_facts hde
    have hyd' : Dq H y d := hyd
    show tSeq _ _ _ [some (V.ref a), none, some (V.ref p), some (V.int (i : Int)), v4] H2
    have el : ∀ H', Ex H2 H' → ∀ w4, EvD (tOp (rIxL K) (tVar 0) (tVar 3)) [some (V.ref a), none, some (V.ref p), some (V.int (i : Int)), w4] H' d := fun H' e w4 =>
      ⟨y, Evl.ev_op (Evl.ev_var rfl) (Evl.ev_var rfl) (Evl.rv_ixL (sq_of (hap _ (e2.trans e))) (atI_nat' hy)), Dq.same (e1.trans (e2.trans e)) _ _ hyd'⟩
    have k0 : ∀ H', Ex H2 H' → Ev (tOp (rIxT K) (tOp (rIxL K) (tVar 0) (tVar 3)) (tC (.int 0))) [some (V.ref a), none, some (V.ref p), some (V.int (i : Int)), v4] H' (.str (kindOf d)) := fun H' e =>
      (evd_atT (K := K) (i := 0) (el H' e v4) ft (by omega) Evl.ev_c).strE fs
    have a3 : ∀ H', Ev (tVar 3) [some (V.ref a), none, some (V.ref p), some (V.int (i : Int)), v4] H' (.int (i : Int)) := fun H' => Evl.ev_var rfl
    have bad : ∀ H', badAt ds i = true → Ex H2 H' → Q (.bl false) H' := fun H' hb e => by
      have := hq H' (e1.trans (e2.trans e))
      rw [no i hi' hb] at this
      exact this
    refine Evl.q_when (Evl.et_and (Evl.et_test (ev_eqS (k0 H2 (Ex.refl H2)) Evl.ev_c)) fun _ => Evl.et_test (Evl.ev_op (a3 H2) Evl.ev_c (Evl.rv_I0 (g := fun i j => .bl (decide (j < i))) (j := 0)))) (fun h2 H3 e3 => ?_) (fun h2 H3 e3 => ?_)
    · refine Evl.s_ret Evl.ev_c fun H4 e4 => bad H4 ?_ (e3.trans e4)
      rw [Bool.and_eq_true] at h2
      unfold badAt
      rw [hgd, h2.1, decide_eq_true (show 0 < i by have := of_decide_eq_true h2.2; omega)]; rfl
    have n1 : (decide (kindOf d = "make") && decide (0 < i)) = false := by
      rw [← h2, show decide ((0 : Int) < (i : Int)) = decide (0 < i) from by rw [Bool.eq_iff_iff, decide_eq_true_eq, decide_eq_true_eq]; omega]
    refine Evl.q_when (Evl.et_and (Evl.et_test (ev_eqS (k0 H3 e3) Evl.ev_c)) fun _ => Evl.et_test (Evl.ev_op (a3 H3) (ev_subI (ev_lenX (K := K) (Evl.ev_var rfl) (hap _ (e2.trans e3))) Evl.ev_c) (Evl.rv_I0 (g := fun i j => .bl (decide (i < j)))))) (fun h3 H4 e4 => ?_) (fun h3 H4 e4 => ?_)
    · refine Evl.s_ret Evl.ev_c fun H5 e5 => bad H5 ?_ ((e3.trans e4).trans e5)
      rw [Bool.and_eq_true] at h3
      unfold badAt
      rw [hgd, h3.1, decide_eq_true (show i + 1 < ds.length by have := of_decide_eq_true h3.2; omega)]; simp
    have n2 : (decide (kindOf d = "drop") && decide (i + 1 < ds.length)) = false := by
      rw [← h3, show decide ((i : Int) < (xs.length : Int) - 1) = decide (i + 1 < ds.length) from by rw [Bool.eq_iff_iff, decide_eq_true_eq, decide_eq_true_eq]; omega]
    have e24 := e3.trans e4
    have tk : linksOf (ds.take (i + 1)) = linksOf (ds.take i) ++ (if kindOf d = "turn" then [keyOf d] else []) := by
      unfold linksOf
      rw [List.take_add_one, List.filterMap_append, List.getElem?_eq_getElem hi', hdd]
      congr 1
      by_cases hk : kindOf d = "turn"
      · simp [hk]
      · simp [hk]
    refine Evl.s_when (Evl.et_test (ev_eqS (k0 H4 e24) Evl.ev_c)) (fun h4 H5 e5 => ?_) (fun h4 H5 e5 => ?_)
    · have hk : kindOf d = "turn" := of_decide_eq_true h4
      obtain ⟨f1, f2, f3, f4⟩ := fk hk
      have e25 := e24.trans e5
      refine Evl.q_asgU (Evl.eu_tup (Evl.ea_cons ((evd_atT (K := K) (i := 1) (el H5 e25 v4) ft (by omega) Evl.ev_c).intE f2 f3) (Evl.ea_cons ((evd_atT (K := K) (i := 2) (el H5 e25 v4) ft (by omega) Evl.ev_c).strE f4) Evl.ea_nil)) (by show 2 ≤ 100000; omega)) fun l H6 hl e6 hl6 => ?_
      have e26 := e25.trans e6
      have hd6 := e26 _ _ hd
      have hkey : H6 l = some (.tup ((keyOf d).map kV)) := hl6
      have ev4 : EvT (tB (tDIn (tVar 4) (tVar 2))) [some (V.ref a), none, some (V.ref p), some (V.int (i : Int)), some (.ref l)] H6 ((linksOf (ds.take i)).any fun k => decide (k = keyOf d)) := Evl.et_B fun H7 e7 Q q =>
        ⟨.ref l, rfl, .ref p, rfl, p, _, rfl, DGet.t (e7 _ _ hd6) (e7 _ _ hkey), by rw [valL]; exact q H7 (Ex.refl H7)⟩
      refine Evl.q_when ev4 (fun h5 H7 e7 => ?_) (fun h5 H7 e7 => ?_)
      · refine Evl.s_ret Evl.ev_c fun H8 e8 => bad H8 ?_ ((e26.trans e7).trans e8)
        unfold badAt
        rw [hgd, h5, h4]; simp
      · have n3 : badAt ds i = false := by
          unfold badAt
          rw [hgd, n1, n2, h5]; simp
        refine ⟨.ref p, rfl, .ref l, rfl, p, _, rfl, DPut.t (e7 _ _ hd6) (e7 _ _ hkey) ?_, ?_⟩
        · rw [List.length_map]
          have h8 : (linksOf (ds.take i)).length ≤ (ds.take i).length := List.length_filterMap_le _ _
          rw [List.length_take] at h8
          exact Nat.lt_of_le_of_lt (show _ ≤ 60 by omega) (by decide)
        · refine ⟨⟨_, _, rfl⟩, Ex.mut ((e2.trans e26).trans e7) hp, ?_, ?_⟩
          · rw [upd_same, tk, if_pos hk, putL h5, List.map_append]; rfl
          · intro j hj
            rcases Nat.lt_succ_iff_lt_or_eq.mp hj with hj | rfl
            · exact hgood j hj
            · exact n3
    · have hk : ¬ kindOf d = "turn" := of_decide_eq_false h4
      refine ⟨⟨_, _, rfl⟩, (e2.trans e24).trans e5, ?_, ?_⟩
      · rw [tk, if_neg hk, List.append_nil]
        exact (e24.trans e5) _ _ hd
      · intro j hj
        rcases Nat.lt_succ_iff_lt_or_eq.mp hj with hj | rfl
        · exact hgood j hj
        · unfold badAt
          rw [hgd, n1, n2, decide_eq_false hk]; rfl
  · rintro σ H2 ⟨⟨v3, v4, rfl⟩, e2, hd, hgood⟩
    refine Evl.s_ret Evl.ev_c fun H3 e3 => ?_
    have := hq H3 (e1.trans (e2.trans e3))
    unfold strD at this
    dsimp only at this
    rw [hds, hall, Bool.true_and, List.all_eq_true.mpr (fun i hi => ?_)] at this
    · exact this
    · have hi := List.mem_range.mp hi
      rw [hgood i (by omega)]; rfl
end
end KA

set_option Elab.async false
set_option linter.all false
set_option maxRecDepth 100000
set_option maxHeartbeats 4000000
namespace LF
open PySem PySem.Spec PyProof.Rows L2
open Evl (Ev EvL EvU EvT EvA EvO Ex sq_of st_of)
theorem TyX.same {K : PySem.W.Frag} {H H' : Hp} {x : V} {t : Value} (h : TyX K H x t) (s : Same H H') : TyX K H' x t := by
  cases h with
  | base b =>
    refine .base ?_
    cases b with
    | non => exact .non
    | bl x => exact .bl x
    | int i => exact .int i
    | str z => exact .str z
    | flt x => exact .flt x
    | lst e => exact .lst (s _ _ e)
    | frz e => exact .frz (s _ _ e)
    | tup e => exact .tup (s _ _ e)
    | dK e => exact .dK (s _ _ e)
    | dT e => exact .dT (s _ _ e)
    | ins e c a n t m => exact .ins (s _ _ e) c a n t m
  | byt b => exact .byt b
  | set e => exact .set (s _ _ e)
  | kList e c => exact .kList e c
  | kTuple e c => exact .kTuple e c
  | kDict e c => exact .kDict e c
  | fTuple e => exact .fTuple (s _ _ e)
  | fDict e => exact .fDict (s _ _ e)
/-- == of data, one of them flat -/
def rEqQ (K : PySem.W.Frag) : R2 := fun x y H Q => ∃ d e, Dp K H x d ∧ Dp K H y e ∧ d.canLay0 = true ∧ e.canLay0 = true ∧ e.depth ≤ 60 ∧ Q (.bl (PyData.eqv d e)) H
theorem op_eqQ {X : Cx} (hu : X.A.units + 64 < cLine) : OpR X (compareOp .Eq) (rEqQ X.K) := by
  intro pins s σ H x y v u Q I rx ry h
  obtain ⟨d, e, hd, he, sd, se, hz, q⟩ := h
  obtain ⟨as, r1⟩ := Dp.reads I d x v hd rx
  obtain ⟨bs, r2⟩ := Dp.reads I e y u he ry
  have h2 : min d.depth e.depth ≤ e.depth := Nat.min_le_right _ _
  exact SeqAt.compareEq_reads r1 r2 sd se (by omega) ⟨.bl _, H, I, rfl, q⟩
section
variable {K : PySem.W.Frag} {σ : L2.St} {H H' : Hp} {ta tb te tx : TE} {t u : TT} {x y z v : V} {d e : PyData}
/-- == '' of anything -/
theorem ev_eqE (h : EvD te σ H d) : Ev (tOp (rEqQ K) te (tC (.str ""))) σ H (.bl (isStr d && decide (txt d = ""))) := by
  obtain ⟨x, h1, h2⟩ := h
  refine Evl.ev_op h1 Evl.ev_c fun H1 e Q q => ⟨d, .str "", Dq.dp _ _ (Dq.same e _ _ h2), .str _, Dq.lay _ _ h2, by simp [PyData.canLay0]; decide +kernel, by simp [PyData.depth], ?_⟩
  have : PyData.eqv d (.str "") = (isStr d && decide (txt d = "")) := by
    cases d <;> simp [PyData.eqv, isStr, txt]
    rw [Bool.eq_iff_iff, beq_iff_eq]; exact decide_eq_true_iff.symm
  rw [this]; exact q H1 (Ex.refl H1)
/-- == () of a tuple -/
theorem ev_eqN (h : EvD te σ H d) (ht : isTup d = true) : Ev (tOp (rEqQ K) te (tTup tNil)) σ H (.bl (decide (((items d).length : Int) = 0))) := by
  obtain ⟨x, h1, h2⟩ := h
  refine Evl.ev_opU h1 (Evl.eu_tup Evl.ea_nil (by simp)) fun p H1 hp e => fun H2 e2 Q q => ⟨d, .tuple [], Dq.dp _ _ (Dq.same (e.trans e2) _ _ h2), .tup (SqT.of (e2 _ _ hp)) .nil, Dq.lay _ _ h2, by simp [PyData.canLay0, PyData.canLayAll0], by simp [PyData.depth, PyData.depthAll], ?_⟩
  have : PyData.eqv d (.tuple []) = decide (((items d).length : Int) = 0) := by
    cases d with
    | tuple ds =>
      cases ds with
      | nil => simp [PyData.eqv, PyData.eqvAll, items]
      | cons a l =>
        simp only [PyData.eqv, PyData.eqvAll, items, List.length_cons]
        exact (decide_eq_false (by omega)).symm
    | _ => cases ht
  rw [this]; exact q H2 (Ex.refl H2)
theorem et_neI {i j : Int} (ha : Ev ta σ H (.int i)) (hb : Ev tb σ H (.int j)) : Ev (tOp rNe ta tb) σ H (.bl (!decide (i = j))) :=
  Evl.ev_is (Evl.ev_op ha hb (Evl.rv_ne rfl)) (by rw [vint_dec])
/-- a comprehension over a text's signs -/
theorem el_lcS {z : Str} {tl : TE} {j : Nat} (ys : List V) (h : Ev tl σ H (.str z)) (hl : ys.length = z.cps.size) (hz : ys.length ≤ 40000)
    (hs : ∀ (i c : Nat) (y : V) (H1 : Hp), Ex H H1 → z.cps[i]? = some c → ys[i]? = some y → Ev te ((wipe σ [j]).set j (some (.str ⟨#[c]⟩))) H1 y) :
    EvL (tLc (iStr tl) (gName j) tYes te [j]) σ H ys := fun H0 e Q q => h H0 e _ fun H1 e1 => ⟨z, rfl, fun Dl hD =>
  ⟨fun i m H' => m = z.cps.size - i ∧ i ≤ z.cps.size ∧ Ex H1 H' ∧ H' Dl = some (.lst (ys.take i)), ⟨z.cps.size, rfl, Nat.zero_le _, Ex.new hD, by rw [List.take_zero]; exact upd_same⟩, fun i m H' hw => by
    obtain ⟨rfl, hi, x1, x2⟩ := hw
    by_cases hlt : i < z.cps.size
    · refine Or.inr ⟨hlt, fun H2 => Ex H1 H2 ∧ H2 Dl = some (.lst (ys.take (i + 1))), fun H2 p => ⟨z.cps.size - (i + 1), by omega, rfl, hlt, p⟩, fun v H2 hy => ?_⟩
      obtain ⟨rfl, c, hc, rfl⟩ := hy
      have hyi : ys[i]? = some ys[i] := List.getElem?_eq_getElem (by omega)
      have key : te ((wipe σ [j]).set j (some (.str ⟨#[c]⟩))) H2 (fun y H4 => ∃ acc, H4 Dl = some (.lst acc) ∧ acc.length < sizeLine ∧ (Ex H1 (upd H4 Dl (.lst (acc ++ [y]))) ∧ upd H4 Dl (.lst (acc ++ [y])) Dl = some (.lst (ys.take (i + 1))))) := by
        refine hs i c _ H2 ((e.trans e1).trans x1) hc hyi H2 (Ex.refl H2) _ fun H4 e4 => ⟨ys.take i, e4 _ _ x2, ?_, Ex.mut (x1.trans e4) hD, ?_⟩
        · rw [List.length_take]; exact Evl.sz_lt (by omega)
        · rw [upd_same, List.take_add_one, hyi]; rfl
      exact ⟨wipe_set, key⟩
    · refine Or.inl ⟨by show z.cps.size ≤ i; omega, q Dl H' (Evl.fresh_back e1 hD) (e1.trans x1) ?_⟩
      rw [List.take_of_length_le (by omega)] at x2
      exact x2⟩⟩
/-- zip(t, t[1:]), t a tuple -/
theorem el_lcZ {tl : TE} {g : TG} {vs : List Nat} {a : Addr} {xs : List V} (ys : List V) (h : ∀ H', Ex H H' → Ev tl σ H' (.ref a)) (hx : H a = some (.tup xs)) (hl : ys.length = xs.length - 1) (hz : xs.length ≤ 40000)
    (hs : ∀ (i : Nat) (x x' y : V) (T : Addr) (H1 : Hp) (R : L2.St → Hp → Prop), Ex H H1 → H1 T = some (.tup [x, x']) → xs[i]? = some x → xs[i + 1]? = some x' → ys[i]? = some y → (∀ σ2, wipe σ2 vs = wipe σ vs → Ev te σ2 H1 y → R σ2 H1) → g (.ref T) (wipe σ vs) H1 R) :
    EvL (tLc (RZ.iZipA K (tCons tl (tCons (tSl (rSlA K) tl (tPart (tC (.int 1))) tNoPart) tNil))) g tYes te vs) σ H ys := fun H0 e0 Q q => by
  refine h H0 e0 H0 (Ex.refl H0) _ fun H1 e1 => ?_
  refine h H1 (e0.trans e1) H1 (Ex.refl H1) _ fun H2 e2 => ⟨1, rfl, ?_⟩
  have hx2 := (e0.trans (e1.trans e2)) _ _ hx
  -- the walk, once the second tuple stands
  have walk : ∀ (b : Addr) (H3 : Hp), Ex H2 H3 → H3 b = some (.tup (xs.drop 1)) → ∀ Dl, H3 Dl = none → ∃ W : Nat → Nat → Hp → Prop, (∃ m, W 0 m (upd H3 Dl (.lst []))) ∧ ∀ i m H, W i m H →
      ((RZ.ItzT K a b).stop i H ∧ Q (.ref Dl) H) ∨ ((RZ.ItzT K a b).go i H ∧ ∃ Nx : Hp → Prop, (∀ H', Nx H' → ∃ m', m' < m ∧ W (i + 1) m' H') ∧ ∀ x H', (RZ.ItzT K a b).yld i H x H' → g x (wipe σ vs) H' fun σ2 H2 => wipe σ2 vs = wipe σ vs ∧ tYes σ2 H2 fun b H3 =>
        if b = true then te σ2 H3 fun y H4 => ∃ acc, H4 Dl = some (.lst acc) ∧ acc.length < sizeLine ∧ Nx (upd H4 Dl (.lst (acc ++ [y]))) else Nx H3) := by
    intro b H3 e3 hb Dl hD
    have e13 := (e1.trans e2).trans e3
    refine ⟨fun i m H' => m = ys.length - i ∧ i ≤ ys.length ∧ Ex H3 H' ∧ H' Dl = some (.lst (ys.take i)), ⟨ys.length, rfl, Nat.zero_le _, Ex.new hD, by rw [List.take_zero]; exact upd_same⟩, fun i m H' hw => ?_⟩
    obtain ⟨rfl, hi, x1, x2⟩ := hw
    have sa : SqT K H' a xs := st_of ((e13.trans x1) _ _ (e0 _ _ hx))
    have sb : SqT K H' b (xs.drop 1) := st_of (x1 _ _ hb)
    by_cases hlt : i < ys.length
    · have g1 : xs[i]? = some xs[i] := List.getElem?_eq_getElem (by omega)
      have g2 : xs[i + 1]? = some xs[i + 1] := List.getElem?_eq_getElem (by omega)
      have g3 : (xs.drop 1)[i]? = some xs[i + 1] := by rw [List.getElem?_drop, Nat.add_comm 1 i]; exact g2
      refine Or.inr ⟨⟨xs, xs.drop 1, _, _, sa, sb, g1, g3⟩, fun H2 => Ex H3 H2 ∧ H2 Dl = some (.lst (ys.take (i + 1))), fun H2 p => ⟨ys.length - (i + 1), by omega, rfl, hlt, p⟩, fun v H4 hy => ?_⟩
      obtain ⟨T, x, x', rfl, hT, rfl, f1, f2⟩ := hy
      have hyi : ys[i]? = some ys[i] := List.getElem?_eq_getElem hlt
      have k1 := (f1 xs sa).symm.trans g1
      have k2 := (f2 _ sb).symm.trans g3
      refine hs i x x' _ T _ _ (e0.trans (e13.trans (x1.trans (Ex.new hT)))) upd_same (f1 xs sa) (by rw [g2, ← k2]) hyi fun σ2 hw hev => ?_
      have key : te σ2 (upd H' T (.tup [x, x'])) (fun y H4 => ∃ acc, H4 Dl = some (.lst acc) ∧ acc.length < sizeLine ∧ (Ex H3 (upd H4 Dl (.lst (acc ++ [y]))) ∧ upd H4 Dl (.lst (acc ++ [y])) Dl = some (.lst (ys.take (i + 1))))) := by
        refine hev _ (Ex.refl _) _ fun H4 e4 => ⟨ys.take i, e4 _ _ ((Ex.new hT) _ _ x2), ?_, Ex.mut (x1.trans ((Ex.new hT).trans e4)) hD, ?_⟩
        · rw [List.length_take]; exact Evl.sz_lt (by omega)
        · rw [upd_same, List.take_add_one, hyi]; rfl
      exact ⟨hw, key⟩
    · refine Or.inl ⟨⟨xs, xs.drop 1, sa, sb, Or.inr (by rw [List.length_drop]; omega)⟩, q Dl H' (Evl.fresh_back e13 hD) (e13.trans x1) ?_⟩
      rw [List.take_of_length_le (by omega)] at x2
      exact x2
  refine ⟨a, xs, rfl, st_of hx2, fun hw => ?_, fun hw p hp => ?_⟩
  · have h0 : xs = [] := by
      have h1 := hw.1
      rw [show (some (1 : Int)) = some ((1 : Nat) : Int) from rfl, HT.sIx_nat] at h1
      exact List.length_eq_zero_iff.mp (by omega)
    refine ⟨a, a, xs, xs, rfl, Or.inr ⟨st_of hx2, st_of hx2, fun Dl hD => ?_⟩⟩
    exact walk a H2 (Ex.refl H2) (by rw [hx2, h0]; rfl) Dl hD
  · have hc : cutV xs (some 1) none = xs.drop 1 := by
      unfold cutV
      rw [HT.sIx_none, show (some (1 : Int)) = some ((1 : Nat) : Int) from rfl, HT.sIx_nat]
      by_cases h0 : 1 ≤ xs.length
      · rw [Nat.min_eq_left h0]
        exact List.take_of_length_le (by rw [List.length_drop]; omega)
      · have : xs = [] := List.length_eq_zero_iff.mp (by omega)
        subst this; rfl
    refine ⟨a, p, xs, xs.drop 1, rfl, Or.inr ⟨st_of ((Ex.new hp) _ _ hx2), st_of (by rw [upd_same, hc]), fun Dl hD => ?_⟩⟩
    exact walk p _ (Ex.new hp) (by rw [upd_same, hc]) Dl hD
/-- all([.. for a, b in zip(t, t[1:])]) -/
theorem ev_allZ {j k : Nat} {tl : TE} (gg : PyData → PyData → Bool) (hxd : Dq H x d) (hvm : ∀ H', Ex H H' → Ev tl σ H' x) (ht : isTup d = true)
    (hw : ∀ x y, wipe ((((wipe σ [j, k]).set j (some x)).set k (some y))) [j, k] = wipe σ [j, k])
    (hs : ∀ x y p q H1, Ex H H1 → p ∈ items d → q ∈ items d → Dq H1 x p → Dq H1 y q → Ev te (((wipe σ [j, k]).set j (some x)).set k (some y)) H1 (.bl (gg p q))) :
    Ev (tCB (rAll K) (tCons (tLc (RZ.iZipA K (tCons tl (tCons (tSl (rSlA K) tl (tPart (tC (.int 1))) tNoPart) tNil))) (gTup K 2 (gCons (gName j) (gCons (gName k) gNil))) tYes te [j, k]) tNil)) σ H
      (.bl ((List.range ((items d).length - 1)).all fun i => gg ((items d).getD i .none) ((items d).getD (i + 1) .none))) := by
  obtain ⟨a, xs, rfl, ha, hd, hz, hl⟩ := hxd.tupE ht
  refine Evl.ev_is (ev_allB (bs := (List.range ((items d).length - 1)).map fun i => gg ((items d).getD i .none) ((items d).getD (i + 1) .none)) ?_) (by rw [List.all_map]; rfl)
  refine el_lcZ (K := K) _ hvm ha (by rw [List.length_map, List.length_map, List.length_range, hl]) (by omega) fun i x x' y T H1 R e hT hx hx' hy kk => ?_
  obtain ⟨p, hp, dp⟩ := hd.get i hx
  obtain ⟨q, hq, dq⟩ := hd.get (i + 1) hx'
  have hi : i < (items d).length - 1 := by
    have := (List.getElem?_eq_some_iff.mp hq).1
    omega
  rw [List.getElem?_map, List.getElem?_map, List.getElem?_eq_getElem (by rw [List.length_range]; exact hi)] at hy
  simp only [List.getElem_range, Option.map_some, Option.some.injEq] at hy
  rw [List.getD_eq_getElem?_getD, List.getD_eq_getElem?_getD, hp, hq] at hy
  subst hy
  exact ⟨T, [x, x'], rfl, st_of hT, rfl, x, [x'], rfl, x', [], rfl, rfl, kk _ (hw x x') (hs x x' p q H1 e (List.mem_of_getElem? hp) (List.mem_of_getElem? hq) (Dq.same e _ _ dp) (Dq.same e _ _ dq))⟩
end
end LF

set_option Elab.async false
set_option linter.all false
set_option maxRecDepth 100000
set_option maxHeartbeats 4000000
namespace LF
open PySem PySem.Spec PyProof.Rows L2
open Evl (Ev EvL EvU EvT EvA EvO Ex sq_of st_of)
section
variable {K : PySem.W.Frag} {σ : L2.St} {H H' : Hp} {ta tb te tc tx : TE} {t u : TT} {x y z v : V} {d e : PyData}
theorem ev_chain {r r' : R2} {a b : Bool} (hx : Ev ta σ H x) (hy : Ev tb σ H y) (h1 : Evl.RV r x y H (.bl a)) (hz : Ev tc σ H z) (h2 : Evl.RV r' y z H (.bl b)) : Ev (tChain r r' ta tb tc) σ H (.bl (a && b)) := fun H1 e Q q =>
  hx H1 e _ fun H2 e2 => hy H2 (e.trans e2) _ fun H3 e3 => h1 H3 (e.trans (e2.trans e3)) _ fun H4 e4 => ⟨a, rfl, by
    have e14 := e2.trans (e3.trans e4)
    cases a with
    | false => exact q H4 e14
    | true =>
      refine hz H4 (e.trans e14) _ fun H5 e5 => h2 H5 (e.trans (e14.trans e5)) _ fun H6 e6 => q H6 ((e14.trans e5).trans e6)⟩
theorem ev_lenS {w : Str} (h : Ev te σ H (.str w)) (hl : w.length ≤ 1000000) : Ev (tCB (fun xs H Q => ∃ z, xs = [.str z] ∧ z.length ≤ sizeLine ∧ Q (.int z.length) H) (tCons te tNil)) σ H (.int (w.length : Int)) :=
  Evl.ev_cb (vs := [.str w]) (Evl.ea_cons h Evl.ea_nil) fun H1 e Q q => ⟨w, rfl, Nat.le_trans hl (by decide), q H1 (Ex.refl H1)⟩
end
end LF
namespace KA
open PySem PySem.Spec PyProof.Rows L2 LF
open Evl (Ev EvL EvU EvT EvA EvO Ex sq_of st_of)
/-- parts of a text, each asked by a def that tells names -/
theorem ev_allParts {K : PySem.W.Frag} {σ : L2.St} {H : Hp} {te : TE} {z : Str} {j : Nat} (h : Ev te σ H (.str z)) (hz : z.length ≤ 1000) (hj : ∀ x, ((wipe σ [j]).set j (some x))[j]? = some (some x)) :
    Ev (tCB (rAll K) (tCons (tLc (iList K (tM1 (fun x xs H Q => ∃ a b, x = .str a ∧ xs = [.str b] ∧ (b.length == 0) = false ∧ a.length + 2 ≤ sizeLine ∧ rNewStrs (PySem.Txt.split a b) H Q) te (tC (.str "/")))) (gName j) tYes (tCall (spName K) [] E0 (tCons (tVar j) tNil)) [j]) tNil)) σ H
      (.bl ((PySem.Txt.split z c_sl).all isNm)) := by
  have hbig := sizeLine_big
  have hlen := split_le z c_sl
  refine Evl.ev_is (ev_allB (bs := (PySem.Txt.split z c_sl).map isNm) ?_) (by rw [List.all_map]; rfl)
  have es : EvL (tM1 (fun x xs H Q => ∃ a b, x = .str a ∧ xs = [.str b] ∧ (b.length == 0) = false ∧ a.length + 2 ≤ sizeLine ∧ rNewStrs (PySem.Txt.split a b) H Q) te (tC (.str "/"))) σ H ((PySem.Txt.split z c_sl).map V.str) := fun H2 e Q q =>
    h H2 e _ fun H3 e3 => ⟨⟨_, rfl⟩, z, c_sl, rfl, rfl, sl_ne, by omega, fun p hp => q p _ (Evl.fresh_back e3 hp) (e3.trans (Ex.new hp)) upd_same⟩
  have e8 : Evl.given ((PySem.Txt.split z c_sl).map V.str).length (fun _ => true) (fun i => V.bl (isNm ((PySem.Txt.split z c_sl).getD i ""))) = ((PySem.Txt.split z c_sl).map isNm).map V.bl := by
    unfold Evl.given
    rw [List.filter_eq_self.mpr (fun _ _ => rfl), List.length_map]
    refine List.ext_getElem (by simp) fun i h1 h2 => ?_
    simp only [List.length_map, List.length_range] at h1
    simp [List.getD_eq_getElem?_getD, List.getElem?_eq_getElem h1]
  rw [← e8]
  refine Evl.el_lcNL (K := K) (fun _ => true) _ es (by rw [List.length_map]; omega) (fun x => wipe_set) (fun i y H2 e2 hy => fun H3 e3 Q q => q H3 (Ex.refl H3)) (fun i y H2 e2 hy _ => ?_)
  rw [List.getElem?_map] at hy
  obtain ⟨w, hw, rfl⟩ := Option.map_eq_some_iff.mp hy
  have hm := List.mem_of_getElem? hw
  have eg : (PySem.Txt.split z c_sl).getD i "" = w := by rw [List.getD_eq_getElem?_getD, hw]; rfl
  rw [eg]
  refine Evl.ev_call (vs := [.str w]) (Evl.ea_cons (Evl.ev_var (hj _)) Evl.ea_nil) fun H3 e3 Q q E' => ?_
  exact ⟨.str w, rfl, Or.inl ⟨w, rfl, by have := part_short hm; omega, fun H4 e4 => q H4 e4⟩⟩
theorem ev_nm {K : PySem.W.Frag} {σ : L2.St} {H : Hp} {te : TE} {d : PyData} {E : XK} (h : EvD te σ H d) : Ev (tCall (spName K) [] E (tCons te tNil)) σ H (.bl (nmD d)) := by
  obtain ⟨x, h1, h2⟩ := h
  refine Evl.ev_call (vs := [x]) (Evl.ea_cons h1 Evl.ea_nil) fun H1 e Q q E => ⟨x, rfl, ?_⟩
  have h2 := Dq.same e _ _ h2
  cases hs : isStr d with
  | true =>
    obtain ⟨e1, e2, e3, e4⟩ := h2.strE hs
    refine Or.inl ⟨txt d, e1, by omega, fun H' s => ?_⟩
    have := q H' s
    unfold nmD at this
    rw [hs, Bool.true_and] at this
    exact this
  | false =>
    refine Or.inr ⟨_, h2.ty, (by rw [kit_str', hs]), fun H' s => ?_⟩
    have := q H' s
    unfold nmD at this
    rw [hs, Bool.false_and] at this
    exact this
theorem nameD_imp {P : Program} {w : World} {K : PySem.W.Frag} {mg : Str → Option Value} {base : Heap} {k : Nat} {f : Addr} {fd : FuncData} {ps : List Str} (F : FnOk P w K mg base CX0 k f fd ps (spName K)) : FnOk P w K mg base CX0 k f fd ps (spD nmD) := by
  refine F.imp fun vs H Q E h => ?_
  obtain ⟨x, d, rfl, hd, hq⟩ := h
  refine ⟨x, rfl, ?_⟩
  cases h1 : isStr d with
  | true =>
    obtain ⟨e1, e2, e3, e4⟩ := hd.strE h1
    refine Or.inl ⟨txt d, e1, by omega, fun H' s => ?_⟩
    have := hq H' s
    unfold nmD at this
    rw [h1, Bool.true_and] at this
    exact this
  | false =>
    refine Or.inr ⟨_, hd.ty, (by rw [kit_str', h1]), fun H' s => ?_⟩
    have := hq H' s
    unfold nmD at this
    rw [h1, Bool.false_and] at this
    exact this
def ascP (ds : List PyData) : Bool := (List.range (ds.length - 1)).all fun i => ltD (at' (ds.getD i .none) 0) (at' (ds.getD (i + 1) .none) 0)
def rowOk (p : PyData) : Bool := jtD (at' p 0) && (isTup (at' p 1) && ((items (at' p 1)).all isPair && (((items (at' p 1)).all fun q => nmD (at' q 0) && tgD (at' q 1)) && ascP (items (at' p 1)))))
def lrowD (d : PyData) : Bool :=
  if (!isTup d || decide (((items d).length : Int) = 0)) = true then false else if (!(items d).all isPair) = true then false else (items d).all rowOk && ascP (items d)
def ldeedD (d : PyData) : Bool :=
  if (!isTup d || (!(decide ((items d).length = 2) || decide ((items d).length = 4)) || !isStr (at' d 0))) = true then false else
  if (decide (txt (at' d 0) = "make") && decide (((items d).length : Int) = 2)) = true then lrowD (at' d 1) else
  if (decide (txt (at' d 0) = "drop") && decide (((items d).length : Int) = 2)) = true then
    if (!isTup (at' d 1) || (decide (((items (at' d 1)).length : Int) = 0) || !(items (at' d 1)).all jtD)) = true then false else ascD (items (at' d 1))
  else if (!decide (txt (at' d 0) = "turn") || (!decide (((items d).length : Int) = 4) || (isBol (at' d 1) || !isNum (at' d 1)))) = true then false else
  if decide (num (at' d 1) = -1) = true then isStr (at' d 2) && (decide (txt (at' d 2) = "") && jtD (at' d 3)) else
  decide (0 ≤ num (at' d 1)) && (nmD (at' d 2) && (isNon (at' d 3) || tgD (at' d 3)))
theorem tg_law (d : PyData) : tgD d = (if (!isTup d || (!decide (((items d).length : Int) = 2) || !nmD (at' d 0))) = true then jtD d else (isStr (at' d 1) && decide (txt (at' d 1) = "")) || (isStr (at' d 1) && (PySem.Txt.split (txt (at' d 1)) c_sl).all isNm)) := by
  unfold tgD plD ptD isPt
  cases h1 : isTup d with
  | false => simp
  | true =>
    have hj : jtD d = false := by
      cases d with
      | tuple ds => rfl
      | _ => cases h1
    rw [hj]
    simp only [Bool.not_true, Bool.false_or, Bool.true_and]
    cases h2 : decide (((items d).length : Int) = 2) <;> cases h3 : nmD (at' d 0) <;> cases h4 : isStr (at' d 1) <;> simp
theorem len2 {n : Nat} (h : (!decide ((n : Int) = 2)) = false) : n = 2 := by
  have : decide ((n : Int) = 2) = true := by simpa using h
  have := of_decide_eq_true this
  omega
theorem in24 (n : Nat) : inV (.int n) [.int 2, .int 4] = (decide (n = 2) || decide (n = 4)) := by
  unfold inV
  show ((decide ((2 : Int) = (n : Int))) || ((decide ((4 : Int) = (n : Int))) || false)) = _
  rw [Bool.or_false]
  congr 1 <;> (rw [Bool.eq_iff_iff, decide_eq_true_eq, decide_eq_true_eq]; omega)
abbrev s__law_is_number : Stmt := topS 21
abbrev N__law_is_number : List Str := ["_law_thing"]
theorem sc__law_is_number : FnScope ["_law_thing"] ["_law_thing"] (defScope s__law_is_number) := ⟨rfl, rfl, rfl, by decide +kernel, rfl, by decide +kernel, by decide +kernel⟩
abbrev s__law_is_word : Stmt := topS 22
abbrev N__law_is_word : List Str := ["_law_thing", "_law_letters", "_law_sign"]
theorem sc__law_is_word : FnScope ["_law_thing", "_law_letters", "_law_sign"] ["_law_thing"] (defScope s__law_is_word) := ⟨rfl, rfl, rfl, by decide +kernel, rfl, by decide +kernel, by decide +kernel⟩
abbrev s__law_is_target : Stmt := topS 23
abbrev N__law_is_target : List Str := ["_law_thing", "_law_word"]
theorem sc__law_is_target : FnScope ["_law_thing", "_law_word"] ["_law_thing"] (defScope s__law_is_target) := ⟨rfl, rfl, rfl, by decide +kernel, rfl, by decide +kernel, by decide +kernel⟩
abbrev s__law_rows_right : Stmt := topS 24
abbrev N__law_rows_right : List Str := ["_law_thing", "_law_row", "_law_number", "_law_links", "_law_a", "_law_b"]
theorem sc__law_rows_right : FnScope ["_law_thing", "_law_row", "_law_number", "_law_links", "_law_a", "_law_b"] ["_law_thing"] (defScope s__law_rows_right) := ⟨rfl, rfl, rfl, by decide +kernel, rfl, by decide +kernel, by decide +kernel⟩
abbrev s__law_is_deed : Stmt := topS 25
abbrev N__law_is_deed : List Str := ["_law_thing", "_law_one", "_law_a", "_law_b"]
theorem sc__law_is_deed : FnScope ["_law_thing", "_law_one", "_law_a", "_law_b"] ["_law_thing"] (defScope s__law_is_deed) := ⟨rfl, rfl, rfl, by decide +kernel, rfl, by decide +kernel, by decide +kernel⟩
section
variable {P : Program} {w : World} {K : PySem.W.Frag} {mg : Str → Option Value} {base : Heap} {tk1 tk2 tj tn : Tok}
theorem ok__law_is_number {f : Addr} {fd : FuncData} (F : Fun K "_law_is_number" "_law_is_number" s__law_is_number f fd) (T : Txt K mg tk1 tk2) : FnOk P w K mg base CX0 1 f fd ["_law_thing"] (spD jtD) := by
  refine F.ok sc__law_is_number (fun vs H Q E h => ?_) (fun cdv A outer s H vs Q E hr h => ?_)
  · obtain ⟨x, d, rfl, _⟩ := h
    rfl
  have hu := hr.units
  refine ⟨_, (pss_one (ps_ret (pe_and (pe_callB call_isi (by rfl) T.n_isinstance (by decide +kernel) (pa_cons (pv 0) (pa_cons (pe_bltn (v := .ty "int") (by rfl) T.n_int (by decide +kernel) rfl) pa_nil))) (pe_and (pe_not (pe_callB call_isi (by rfl) T.n_isinstance (by decide +kernel) (pa_cons (pv 0) (pa_cons (pe_bltn (v := .ty "bool") (by rfl) T.n_bool (by decide +kernel) rfl) pa_nil)))) (pe_one (pe_cmpR op_ge (pv 0) pe_int (nomark _))))))), ?_⟩
  obtain ⟨x, d, rfl, hd, hq⟩ := h
  have v0 : EvD (tVar 0) [some x] H d := evd_var rfl hd
  have e : jtD d = (isNum d && (!isBol d && decide (0 ≤ num d))) := by unfold jtD intD; rw [Bool.and_assoc]
  rw [e] at hq
  exact Evl.s_ret (Evl.ev_andV (ev_isi v0 (kit_int' d)) fun h1 => Evl.ev_andV (Evl.ev_notV (ev_isi v0 (kit_bol' d))) fun h2 => Evl.ev_op (v0.intE h1 (by simpa using h2)) Evl.ev_c Evl.rv_I0) hq
theorem ok__law_is_word {f : Addr} {fd : FuncData} (F : Fun K "_law_is_word" "_law_is_word" s__law_is_word f fd) (T : Txt K mg tk1 tk2) : FnOk P w K mg base CX0 1 f fd ["_law_thing"] (spName K) := by
  refine F.ok sc__law_is_word (fun vs H Q E h => ?_) (fun cdv A outer s H vs Q E hr h => ?_)
  · obtain ⟨x, rfl, _⟩ := h
    rfl
  have hu := hr.units
  refine ⟨_, (pss_cons (ps_set (i := 1) sc__law_is_word.nd rfl (Or.inr rfl) pe_str)
    (pss_one (ps_ret (pe_and (pe_callB call_isi (by rfl) T.n_isinstance (by decide +kernel) (pa_cons (pv 0) (pa_cons (pe_bltn (v := .ty "str") (by rfl) T.n_str (by decide +kernel) rfl) pa_nil))) (pe_and (pe_chain op_le op_le pe_int (pe_callB call_len_str (by rfl) T.n_len (by decide +kernel) (pa_cons (pv 0) pa_nil)) pe_int) (pe_one (pe_callB (cr_all rfl) (by rfl) T.n_all (by decide +kernel) (pa_cons (pe_lc (own := [("_law_sign", 2)]) rfl sc__law_is_word.nd (pi_str (pv 0)) (blkOk_by (N := N__law_is_word) (sc := defScope s__law_is_word) (by decide +kernel)) (fun _ _ _ _ _ => pg_name (i := 2) sc__law_is_word.nd rfl (Or.inl rfl)) (fun _ _ _ _ _ => pts_nil) (fun _ _ _ _ _ => (pe_cmpR op_in_sign (pv 2) (pv 1) (by rfl)))) pa_nil)))))))), ?_⟩
  obtain ⟨x, rfl, h⟩ := h
  refine Evl.q_asg (v := .str letters) Evl.ev_c fun H1 e1 => ?_
  have v0 : Ev (tVar 0) [some x, some (.str letters), none] H1 x := Evl.ev_var rfl
  rcases h with ⟨z, rfl, hz, hq⟩ | ⟨t, ht, hk, hq⟩
  · have c0 : Ev (tCB (rIsi K) (tCons (tVar 0) (tCons (tC (.ty "str")) tNil))) [some (.str z), some (.str letters), none] H1 (.bl true) :=
      Evl.ev_cb (vs := [.str z, .ty "str"]) (Evl.ea_cons v0 (Evl.ea_cons Evl.ev_c Evl.ea_nil)) fun H2 e Q q => ⟨_, .ty "str", _, _, true, rfl, .ty _, .base (.str _), kit_str, q H2 (Ex.refl H2)⟩
    have e : isNm z = (true && ((decide ((1 : Int) ≤ (z.length : Int)) && decide ((z.length : Int) ≤ 8)) && z.cps.toList.all fun c => decide (c ∈ letters.cps.toList))) := by
      unfold isNm
      rw [Bool.true_and]
      congr 1
      rw [Bool.eq_iff_iff, decide_eq_true_eq, Bool.and_eq_true, decide_eq_true_eq, decide_eq_true_eq]; omega
    rw [e] at hq
    refine Evl.s_ret (Evl.ev_andV c0 fun _ => Evl.ev_andV (ev_chain Evl.ev_c (ev_lenS v0 hz) Evl.rv_I0 Evl.ev_c Evl.rv_I0) fun h2 => ?_) fun H2 e2 => hq H2 (e1.trans e2)
    have hlen : z.length ≤ 8 := by
      rw [Bool.and_eq_true] at h2
      have := of_decide_eq_true h2.2
      omega
    refine Evl.ev_is (ev_allB (bs := z.cps.toList.map fun c => decide (c ∈ letters.cps.toList)) ?_) (by rw [List.all_map]; rfl)
    have hsz : z.cps.toList.length = z.cps.size := by simp
    refine el_lcS _ v0 (by rw [List.length_map, List.length_map, hsz]) (by rw [List.length_map, List.length_map, hsz]; show z.length ≤ 40000; omega) fun i c y H2 e2 hc hy => ?_
    have hc' : z.cps.toList[i]? = some c := by rw [Array.getElem?_toList]; exact hc
    rw [List.getElem?_map, List.getElem?_map, hc'] at hy
    cases (show some (V.bl _) = some y from hy)
    exact fun H3 e3 Q q => ⟨_, rfl, _, rfl, c, letters, rfl, rfl, q H3 (Ex.refl H3)⟩
  · have c0 : Ev (tCB (rIsi K) (tCons (tVar 0) (tCons (tC (.ty "str")) tNil))) [some x, some (.str letters), none] H1 (.bl false) :=
      Evl.ev_cb (vs := [x, .ty "str"]) (Evl.ea_cons v0 (Evl.ea_cons Evl.ev_c Evl.ea_nil)) fun H2 e Q q => ⟨_, .ty "str", _, _, false, rfl, .ty _, TyX.same ht (e1.trans e), hk, q H2 (Ex.refl H2)⟩
    exact Evl.s_ret (Evl.ev_andV (b := false) c0 fun h => nomatch h) fun H2 e2 => hq H2 (e1.trans e2)
theorem ok__law_is_target {f f1 f2 : Addr} {fd fd1 fd2 : FuncData} (F : Fun K "_law_is_target" "_law_is_target" s__law_is_target f fd) (T : Txt K mg tk1 tk2) (d__law_is_word : DefAt P w K mg base "_law_is_word" 1 f1 fd1 ["_law_thing"] (spName K)) (d__law_is_number : DefAt P w K mg base "_law_is_number" 1 f2 fd2 ["_law_thing"] (spD jtD)) : FnOk P w K mg base CX0 2 f fd ["_law_thing"] (spD tgD) := by
  refine F.ok sc__law_is_target (fun vs H Q E h => ?_) (fun cdv A outer s H vs Q E hr h => ?_)
  · obtain ⟨x, d, rfl, _⟩ := h
    rfl
  have hu := hr.units
  refine ⟨_, (pss_cons (ps_if (PW.pt (pw_or (pt_not (pt_val (pe_callB call_isi (by rfl) T.n_isinstance (by decide +kernel) (pa_cons (pv 0) (pa_cons (pe_bltn (v := .ty "tuple") (by rfl) T.n_tuple (by decide +kernel) rfl) pa_nil))))) (pw_or (pt_cmpR op_ne (pe_callB call_len_seq (by rfl) T.n_len (by decide +kernel) (pa_cons (pv 0) pa_nil)) pe_int (nomark _)) (pw_or1 (pt_not (pt_val (pe_callD d__law_is_word (hr.mono (by decide)) (pa_cons (pe_ix ix_tup (pv 0) pe_int (fun _ _ => rfl)) pa_nil)))))))) (pss_one (ps_ret (pe_callD d__law_is_number (hr.mono (by decide)) (pa_cons (pv 0) pa_nil)))) pss_nil)
    (pss_one (ps_ret (pe_or (pe_cmpR (op_eqQ hu) (pe_ix ix_tup (pv 0) pe_int (fun _ _ => rfl)) pe_str (nomark _)) (pe_one (pe_and (pe_callB call_isi (by rfl) T.n_isinstance (by decide +kernel) (pa_cons (pe_ix ix_tup (pv 0) pe_int (fun _ _ => rfl)) (pa_cons (pe_bltn (v := .ty "str") (by rfl) T.n_str (by decide +kernel) rfl) pa_nil))) (pe_one (pe_callB (cr_all rfl) (by rfl) T.n_all (by decide +kernel) (pa_cons (pe_lc (own := [("_law_word", 1)]) rfl sc__law_is_target.nd (pi_list (pe_split (pe_ix ix_tup (pv 0) pe_int (fun _ _ => rfl)) pe_str)) (blkOk_by (N := N__law_is_target) (sc := defScope s__law_is_target) (by decide +kernel)) (fun _ _ _ _ _ => pg_name (i := 1) sc__law_is_target.nd rfl (Or.inl rfl)) (fun _ _ _ _ _ => pts_nil) (fun _ _ _ _ _ => (pe_callD d__law_is_word (hr.mono (by decide)) (pa_cons (pv 1) pa_nil)))) pa_nil))))))))), ?_⟩
  obtain ⟨x, d, rfl, hd, hq⟩ := h
  have v0 : EvD (tVar 0) [some x, none] H d := evd_var rfl hd
  have c1 : EvT _ [some x, none] H (!isTup d || (!decide (((items d).length : Int) = 2) || !nmD (at' d 0))) := Evl.et_or (Evl.et_not (Evl.et_B (ev_isi (K := K) v0 (kit_tup' d)))) fun h1 =>
    Evl.et_or (Evl.et_test (et_neI (ev_lenD (K := K) v0 (Or.inl (by simpa using h1))) Evl.ev_c)) fun h2 => Evl.et_not (Evl.et_B (ev_nm (K := K) (E := E0) (evd_atT (K := K) (i := 0) v0 (by simpa using h1) (by rw [len2 h2]; omega) Evl.ev_c)))
  rw [tg_law] at hq
  refine Evl.q_when c1 (fun h1 H1 e1 => ?_) (fun h1 H1 e1 => ?_)
  · rw [if_pos h1] at hq
    exact Evl.s_ret (ev_callB1 (v0.mono e1)) fun H2 e2 => hq H2 (e1.trans e2)
  rw [if_neg (by rw [h1]; decide)] at hq
  rw [Bool.or_eq_false_iff, Bool.or_eq_false_iff] at h1
  have ht : isTup d = true := by simpa using h1.1
  have hl : (items d).length = 2 := len2 h1.2.1
  have z1 : ∀ H', Ex H H' → EvD (tOp (rIxT K) (tVar 0) (tC (.int 1))) [some x, none] H' (at' d 1) := fun H' e => evd_atT (K := K) (i := 1) (v0.mono e) ht (by omega) Evl.ev_c
  refine Evl.s_ret (Evl.ev_orV (ev_eqE (z1 H1 e1)) fun _ => Evl.ev_andV (ev_isi (z1 H1 e1) (kit_str' _)) fun h2 => ?_) fun H2 e2 => hq H2 (e1.trans e2)
  have hlen : (txt (at' d 1)).length ≤ 1000 := by
    obtain ⟨y, _, dy⟩ := z1 H1 e1
    exact (dy.strE h2).2.1
  exact ev_allParts (K := K) ((z1 H1 e1).strE h2) hlen (fun _ => rfl)
end
end KA

set_option Elab.async false
set_option linter.all false
set_option maxRecDepth 100000
set_option maxHeartbeats 4000000
namespace KA
open PySem PySem.Spec PyProof.Rows L2 LF
open Evl (Ev EvL EvU EvT EvA EvO Ex sq_of st_of)
section
variable {P : Program} {w : World} {K : PySem.W.Frag} {mg : Str → Option Value} {base : Heap} {tk1 tk2 tj tn : Tok}
theorem kin2 {p q : PyData} {ds : List PyData} (h : kin ds) (hp : p ∈ ds) (hq : q ∈ ds) : kin [p, q] := by
  rcases h with h | h
  · refine Or.inl fun y hy => ?_
    rcases List.mem_cons.mp hy with rfl | hy
    · exact h _ hp
    · rw [List.mem_singleton.mp hy]; exact h _ hq
  · refine Or.inr fun y hy => ?_
    rcases List.mem_cons.mp hy with rfl | hy
    · exact h _ hp
    · rw [List.mem_singleton.mp hy]; exact h _ hq
theorem pair_len {p : PyData} (h : isPair p = true) : isTup p = true ∧ (items p).length = 2 := by
  unfold isPair at h
  rw [Bool.and_eq_true] at h
  exact ⟨h.1, by have := of_decide_eq_true h.2; omega⟩
theorem ok__law_rows_right {f f1 f2 f3 : Addr} {fd fd1 fd2 fd3 : FuncData} (F : Fun K "_law_rows_right" "_law_rows_right" s__law_rows_right f fd) (T : Txt K mg tk1 tk2) (d__law_is_number : DefAt P w K mg base "_law_is_number" 1 f1 fd1 ["_law_thing"] (spD jtD))
    (d__law_is_word : DefAt P w K mg base "_law_is_word" 1 f2 fd2 ["_law_thing"] (spName K)) (d__law_is_target : DefAt P w K mg base "_law_is_target" 2 f3 fd3 ["_law_thing"] (spD tgD)) : FnOk P w K mg base CX0 3 f fd ["_law_thing"] (spD lrowD) := by
  refine F.ok sc__law_rows_right (fun vs H Q E h => ?_) (fun cdv A outer s H vs Q E hr h => ?_)
  · obtain ⟨x, d, rfl, _⟩ := h
    rfl
  have hu := hr.units
  refine ⟨_, (pss_cons (ps_if (PW.pt (pw_or (pt_not (pt_val (pe_callB call_isi (by rfl) T.n_isinstance (by decide +kernel) (pa_cons (pv 0) (pa_cons (pe_bltn (v := .ty "tuple") (by rfl) T.n_tuple (by decide +kernel) rfl) pa_nil))))) (pw_or1 (pt_cmpR (op_eqQ hu) (pv 0) (pe_tup pa_nil) (nomark _))))) (pss_one (ps_ret pe_bl)) pss_nil)
    (pss_cons (ps_if (pt_not (pt_val (pe_callB (cr_all rfl) (by rfl) T.n_all (by decide +kernel) (pa_cons (pe_lc (own := [("_law_row", 1)]) rfl sc__law_rows_right.nd (pi_tup (pv 0)) (blkOk_by (N := N__law_rows_right) (sc := defScope s__law_rows_right) (by decide +kernel)) (fun _ _ _ _ _ => pg_name (i := 1) sc__law_rows_right.nd rfl (Or.inl rfl)) (fun _ _ _ _ _ => pts_nil) (fun _ _ _ _ _ => (pe_and (pe_callB (show CallR _ (.builtin "isinstance") (rIsi K) from call_isi) (by rfl) T.n_isinstance (by decide +kernel) (pa_cons (pv 1) (pa_cons (pe_bltn (v := .ty "tuple") (by rfl) T.n_tuple (by decide +kernel) rfl) pa_nil))) (pe_one (pe_cmpR op_eq (pe_callB (show CallR _ (.builtin "len") (Evl.rLenS K) from call_len_seq) (by rfl) T.n_len (by decide +kernel) (pa_cons (pv 1) pa_nil)) pe_int (nomark _)))))) pa_nil)))) (pss_one (ps_ret pe_bl)) pss_nil)
    (pss_cons (ps_for PassesOwn.never rfl (pi_tup (pv 0)) (pg_tup (by rfl) (pgs_cons (pg_name (i := 2) sc__law_rows_right.nd rfl (Or.inl rfl)) (pgs_cons (pg_name (i := 3) sc__law_rows_right.nd rfl (Or.inl rfl)) pgs_nil))) (pss_cons (ps_if (PW.pt (pw_or (pt_not (pt_val (pe_callD d__law_is_number (hr.mono (by decide)) (pa_cons (pv 2) pa_nil)))) (pw_or1 (pt_not (pt_val (pe_callB call_isi (by rfl) T.n_isinstance (by decide +kernel) (pa_cons (pv 3) (pa_cons (pe_bltn (v := .ty "tuple") (by rfl) T.n_tuple (by decide +kernel) rfl) pa_nil)))))))) (pss_one (ps_ret pe_bl)) pss_nil)
    (pss_cons (ps_if (pt_not (pt_val (pe_callB (cr_all rfl) (by rfl) T.n_all (by decide +kernel) (pa_cons (pe_lc (own := [("_law_row", 1)]) rfl sc__law_rows_right.nd (pi_tup (pv 3)) (blkOk_by (N := N__law_rows_right) (sc := defScope s__law_rows_right) (by decide +kernel)) (fun _ _ _ _ _ => pg_name (i := 1) sc__law_rows_right.nd rfl (Or.inl rfl)) (fun _ _ _ _ _ => pts_nil) (fun _ _ _ _ _ => (pe_and (pe_callB (show CallR _ (.builtin "isinstance") (rIsi K) from call_isi) (by rfl) T.n_isinstance (by decide +kernel) (pa_cons (pv 1) (pa_cons (pe_bltn (v := .ty "tuple") (by rfl) T.n_tuple (by decide +kernel) rfl) pa_nil))) (pe_one (pe_cmpR op_eq (pe_callB (show CallR _ (.builtin "len") (Evl.rLenS K) from call_len_seq) (by rfl) T.n_len (by decide +kernel) (pa_cons (pv 1) pa_nil)) pe_int (nomark _)))))) pa_nil)))) (pss_one (ps_ret pe_bl)) pss_nil)
    (pss_cons (ps_if (pt_not (pt_val (pe_callB (cr_all rfl) (by rfl) T.n_all (by decide +kernel) (pa_cons (pe_lc (own := [("_law_row", 1)]) rfl sc__law_rows_right.nd (pi_tup (pv 3)) (blkOk_by (N := N__law_rows_right) (sc := defScope s__law_rows_right) (by decide +kernel)) (fun _ _ _ _ _ => pg_name (i := 1) sc__law_rows_right.nd rfl (Or.inl rfl)) (fun _ _ _ _ _ => pts_nil) (fun _ _ _ _ _ => (pe_and (pe_callD d__law_is_word (hr.mono (by decide)) (pa_cons (pe_ix (show IxR _ (rIxT K) from ix_tup) (pv 1) pe_int (fun _ _ => rfl)) pa_nil)) (pe_one (pe_callD d__law_is_target (hr.mono (by decide)) (pa_cons (pe_ix (show IxR _ (rIxT K) from ix_tup) (pv 1) pe_int (fun _ _ => rfl)) pa_nil)))))) pa_nil)))) (pss_one (ps_ret pe_bl)) pss_nil)
    (pss_one (ps_if (pt_not (pt_val (pe_callB (cr_all rfl) (by rfl) T.n_all (by decide +kernel) (pa_cons (pe_lc (own := [("_law_a", 4), ("_law_b", 5)]) rfl sc__law_rows_right.nd (RZ.pi_zipA (by rfl) T.n_zip (pa_cons (pv 3) (pa_cons (pe_slice sl_tupA (pv 3) (po_some pe_int) po_none) pa_nil))) (blkOk_by (N := N__law_rows_right) (sc := defScope s__law_rows_right) (by decide +kernel)) (fun _ _ _ _ _ => (show PG _ _ (gTup K 2 (gCons (gName 4) (gCons (gName 5) gNil))) from pg_tup rfl (pgs_cons (pg_name (i := 4) sc__law_rows_right.nd rfl (Or.inl rfl)) (pgs_cons (pg_name (i := 5) sc__law_rows_right.nd rfl (Or.inl rfl)) pgs_nil)))) (fun _ _ _ _ _ => pts_nil) (fun _ _ _ _ _ => (pe_cmpR op_ltV (pe_ix (show IxR _ (rIxT K) from ix_tup) (pv 4) pe_int (fun _ _ => rfl)) (pe_ix (show IxR _ (rIxT K) from ix_tup) (pv 5) pe_int (fun _ _ => rfl)) (nomark _)))) pa_nil)))) (pss_one (ps_ret pe_bl)) pss_nil))))))
    (pss_one (ps_ret (pe_callB (cr_all rfl) (by rfl) T.n_all (by decide +kernel) (pa_cons (pe_lc (own := [("_law_a", 4), ("_law_b", 5)]) rfl sc__law_rows_right.nd (RZ.pi_zipA (by rfl) T.n_zip (pa_cons (pv 0) (pa_cons (pe_slice sl_tupA (pv 0) (po_some pe_int) po_none) pa_nil))) (blkOk_by (N := N__law_rows_right) (sc := defScope s__law_rows_right) (by decide +kernel)) (fun _ _ _ _ _ => (show PG _ _ (gTup K 2 (gCons (gName 4) (gCons (gName 5) gNil))) from pg_tup rfl (pgs_cons (pg_name (i := 4) sc__law_rows_right.nd rfl (Or.inl rfl)) (pgs_cons (pg_name (i := 5) sc__law_rows_right.nd rfl (Or.inl rfl)) pgs_nil)))) (fun _ _ _ _ _ => pts_nil) (fun _ _ _ _ _ => (pe_cmpR op_ltV (pe_ix (show IxR _ (rIxT K) from ix_tup) (pv 4) pe_int (fun _ _ => rfl)) (pe_ix (show IxR _ (rIxT K) from ix_tup) (pv 5) pe_int (fun _ _ => rfl)) (nomark _)))) pa_nil))))))), ?_⟩
  obtain ⟨x, d, rfl, hd, hq⟩ := h
  have v0 : EvD (tVar 0) [some x, none, none, none, none, none] H d := evd_var rfl hd
  unfold lrowD at hq
  refine Evl.q_when (Evl.et_or (Evl.et_not (Evl.et_B (ev_isi (K := K) v0 (kit_tup' d)))) fun h1 => Evl.et_test (ev_eqN (K := K) v0 (by simpa using h1))) (fun h1 H1 e1 => ?_) (fun h1 H1 e1 => ?_)
  · rw [if_pos h1] at hq
    exact Evl.s_ret Evl.ev_c fun H2 e2 => hq H2 (e1.trans e2)
  rw [if_neg (by rw [h1]; decide)] at hq
  rw [Bool.or_eq_false_iff] at h1
  have ht : isTup d = true := by simpa using h1.1
  refine Evl.q_when (Evl.et_not (Evl.et_B (ev_allT (K := K) (j := 1) isPair (v0.mono e1) ht fun x d' H1 e1 hd' _ =>
    (Evl.ev_andV (ev_isi (K := K) (evd_var (i := 1) rfl hd') (kit_tup' d')) fun h2 => ev_eqI (ev_lenD (K := K) (evd_var (i := 1) rfl hd') (Or.inl h2)) Evl.ev_c)))) (fun h2 H2 e2 => ?_) (fun h2 H2 e2 => ?_)
  · rw [if_pos h2] at hq
    exact Evl.s_ret Evl.ev_c fun H3 e3 => hq H3 ((e1.trans e2).trans e3)
  rw [if_neg (by rw [h2]; decide)] at hq
  have hp : (items d).all isPair = true := by simpa using h2
  obtain ⟨a, xs, rfl, ha, hda, hz, hl⟩ := hd.tupE ht
  have e12 := e1.trans e2
  have hno : ∀ i (hi : i < (items d).length), rowOk (items d)[i] = false → ∀ H', Ex H H' → Q (.bl false) H' := by
    intro i hi hb H' e
    have := hq H' e
    rw [List.all_eq_false.mpr ⟨_, List.getElem_mem hi, by rw [hb]; decide⟩] at this
    exact this
  refine Evl.q_forT (K := K) (a := a) (xs := xs) (Evl.ev_var rfl) (st_of (e12 _ _ ha)) (fun i σ H' => (∃ v2 v3, σ = [some (.ref a), none, v2, v3, none, none]) ∧ Ex H2 H' ∧ ∀ j (hj : j < (items d).length), j < i → rowOk (items d)[j] = true) ?_ ?_ ?_ ?_
  · exact fun H3 e3 => ⟨⟨_, _, rfl⟩, e3, fun j _ hj => absurd hj (Nat.not_lt_zero j)⟩
  · exact fun i σ H' _ p => st_of ((e12.trans p.2.1) _ _ ha)
  · rintro i x σ H3 hx ⟨⟨v2, v3, rfl⟩, e3, hgood⟩
    obtain ⟨p, hpi, hqx⟩ := hda.get i hx
    have hi : i < (items d).length := (List.getElem?_eq_some_iff.mp hpi).1
    have hpe : (items d)[i] = p := (List.getElem?_eq_some_iff.mp hpi).2
    have e13 := e12.trans e3
    have hpp := List.all_eq_true.mp hp p (List.mem_of_getElem? hpi)
    obtain ⟨b, u, v, rfl, hb, du, dv⟩ := pairE (Dq.same e13 _ _ hqx) hpp
    refine ⟨b, [u, v], rfl, st_of hb, rfl, u, [v], rfl, v, [], rfl, rfl, ?_⟩
    show tSeq _ _ _ [some (V.ref a), none, some u, some v, none, none] H3
    have bad : ∀ H', rowOk p = false → Ex H3 H' → Q (.bl false) H' := fun H' hb e => hno i hi (by rw [hpe]; exact hb) H' (e13.trans e)
    have w3 : ∀ H', Ex H3 H' → EvD (tVar 3) [some (V.ref a), none, some u, some v, none, none] H' (at' p 1) := fun H' e => evd_var rfl (Dq.same e _ _ dv)
    refine Evl.q_when (Evl.et_or (Evl.et_not (Evl.et_B (ev_callB1 (E := E0) (g := jtD) (evd_var (i := 2) rfl du)))) fun _ => Evl.et_not (Evl.et_B (ev_isi (K := K) (w3 H3 (Ex.refl H3)) (kit_tup' _)))) (fun g1 H4 e4 => ?_) (fun g1 H4 e4 => ?_)
    · refine Evl.s_ret Evl.ev_c fun H5 e5 => bad H5 ?_ (e4.trans e5)
      unfold rowOk
      cases k1 : jtD (at' p 0) with
      | false => rfl
      | true =>
        have : isTup (at' p 1) = false := by simpa [k1] using g1
        rw [this]; rfl
    rw [Bool.or_eq_false_iff] at g1
    have j0 : jtD (at' p 0) = true := by simpa using g1.1
    have t1 : isTup (at' p 1) = true := by simpa using g1.2
    refine Evl.q_when (Evl.et_not (Evl.et_B (ev_allT (K := K) (j := 1) isPair (w3 H4 e4) t1 fun x d' H1 e1 hd' _ =>
      (Evl.ev_andV (ev_isi (K := K) (evd_var (i := 1) rfl hd') (kit_tup' d')) fun h2 => ev_eqI (ev_lenD (K := K) (evd_var (i := 1) rfl hd') (Or.inl h2)) Evl.ev_c)))) (fun g2 H5 e5 => ?_) (fun g2 H5 e5 => ?_)
    · refine Evl.s_ret Evl.ev_c fun H6 e6 => bad H6 ?_ ((e4.trans e5).trans e6)
      unfold rowOk
      have : (items (at' p 1)).all isPair = false := by simpa using g2
      rw [j0, t1, this]; rfl
    have p1 : (items (at' p 1)).all isPair = true := by simpa using g2
    have e35 := e4.trans e5
    refine Evl.q_when (Evl.et_not (Evl.et_B (ev_allT (K := K) (j := 1) (fun q => nmD (at' q 0) && tgD (at' q 1)) (w3 H5 e35) t1 fun x q H1 e1 hq' hm => by
      obtain ⟨qt, ql⟩ := pair_len (List.all_eq_true.mp p1 q hm)
      have wq : EvD (tVar 1) ((wipe [some (V.ref a), none, some u, some v, none, none] [1]).set 1 (some x)) H1 q := evd_var rfl hq'
      exact Evl.ev_andV (ev_nm (K := K) (E := E0) (evd_atT (K := K) (i := 0) wq qt (by omega) Evl.ev_c)) fun _ => ev_callB1 (E := E0) (evd_atT (K := K) (i := 1) wq qt (by omega) Evl.ev_c)))) (fun g3 H6 e6 => ?_) (fun g3 H6 e6 => ?_)
    · refine Evl.s_ret Evl.ev_c fun H7 e7 => bad H7 ?_ ((e35.trans e6).trans e7)
      unfold rowOk
      have : ((items (at' p 1)).all fun q => nmD (at' q 0) && tgD (at' q 1)) = false := by simpa using g3
      rw [j0, t1, p1, this]; rfl
    have p2 : ((items (at' p 1)).all fun q => nmD (at' q 0) && tgD (at' q 1)) = true := by simpa using g3
    have e36 := e35.trans e6
    have kn : kin ((items (at' p 1)).map (at' · 0)) := kin_nm fun q hq' => by
      obtain ⟨q', hm, rfl⟩ := List.mem_map.mp hq'
      have := List.all_eq_true.mp p2 q' hm
      rw [Bool.and_eq_true] at this
      exact this.1
    refine Evl.s_when (Evl.et_not (Evl.et_B (ev_allZ (K := K) (j := 4) (k := 5) (fun p q => ltD (at' p 0) (at' q 0)) (Dq.same e36 _ _ dv) (fun H' e => Evl.ev_var rfl) t1 (fun _ _ => rfl) fun x y q1 q2 H1 e1 m1 m2 d1 d2 => by
      obtain ⟨t1, l1⟩ := pair_len (List.all_eq_true.mp p1 q1 m1)
      obtain ⟨t2, l2⟩ := pair_len (List.all_eq_true.mp p1 q2 m2)
      exact ev_ltD (evd_atT (K := K) (i := 0) (evd_var (i := 4) rfl d1) t1 (by omega) Evl.ev_c) (evd_atT (K := K) (i := 0) (evd_var (i := 5) rfl d2) t2 (by omega) Evl.ev_c) (kin2 kn (List.mem_map.mpr ⟨q1, m1, rfl⟩) (List.mem_map.mpr ⟨q2, m2, rfl⟩))))) (fun g4 H7 e7 => ?_) (fun g4 H7 e7 => ?_)
    · refine Evl.s_ret Evl.ev_c fun H8 e8 => bad H8 ?_ ((e36.trans e7).trans e8)
      unfold rowOk
      have : ascP (items (at' p 1)) = false := by unfold ascP; simpa using g4
      rw [j0, t1, p1, p2, this]; rfl
    · refine ⟨⟨_, _, rfl⟩, e3.trans (e36.trans e7), fun j hj hji => ?_⟩
      rcases Nat.lt_succ_iff_lt_or_eq.mp hji with hj' | rfl
      · exact hgood j hj hj'
      · rw [hpe]
        unfold rowOk
        have : ascP (items (at' p 1)) = true := by unfold ascP; simpa using g4
        rw [j0, t1, p1, p2, this]; rfl
  · rintro σ H3 ⟨⟨v2, v3, rfl⟩, e3, hgood⟩
    have e13 := e12.trans e3
    have hall : (items d).all rowOk = true := by
      refine List.all_eq_true.mpr fun p hpm => ?_
      obtain ⟨j, hj, rfl⟩ := List.getElem_of_mem hpm
      exact hgood j hj (by omega)
    have kn : kin ((items d).map (at' · 0)) := kin_jt fun q hq' => by
      obtain ⟨q', hm, rfl⟩ := List.mem_map.mp hq'
      have := List.all_eq_true.mp hall q' hm
      unfold rowOk at this
      rw [Bool.and_eq_true] at this
      exact this.1
    refine Evl.s_ret (ev_allZ (K := K) (j := 4) (k := 5) (fun p q => ltD (at' p 0) (at' q 0)) (Dq.same e13 _ _ hd) (fun H' e => Evl.ev_var rfl) ht (fun _ _ => rfl) fun x y q1 q2 H1 e1 m1 m2 d1 d2 => by
      obtain ⟨t1, l1⟩ := pair_len (List.all_eq_true.mp hp q1 m1)
      obtain ⟨t2, l2⟩ := pair_len (List.all_eq_true.mp hp q2 m2)
      exact ev_ltD (evd_atT (K := K) (i := 0) (evd_var (i := 4) rfl d1) t1 (by omega) Evl.ev_c) (evd_atT (K := K) (i := 0) (evd_var (i := 5) rfl d2) t2 (by omega) Evl.ev_c) (kin2 kn (List.mem_map.mpr ⟨q1, m1, rfl⟩) (List.mem_map.mpr ⟨q2, m2, rfl⟩))) fun H4 e4 => ?_
    have := hq H4 (e13.trans e4)
    rw [hall, Bool.true_and] at this
    exact this
end
end KA

set_option Elab.async false
set_option linter.all false
set_option maxRecDepth 100000
set_option maxHeartbeats 4000000
namespace KA
open PySem PySem.Spec PyProof.Rows L2 LF
open Evl (Ev EvL EvU EvT EvA EvO Ex sq_of st_of)
section
variable {P : Program} {w : World} {K : PySem.W.Frag} {mg : Str → Option Value} {base : Heap} {tk1 tk2 tj tn : Tok}
theorem ev_neS {σ : L2.St} {H : Hp} {ta tb : TE} {z w : Str} (ha : Ev ta σ H (.str z)) (hb : Ev tb σ H (.str w)) : Ev (tOp rNe ta tb) σ H (.bl (!decide (z = w))) :=
  Evl.ev_is (Evl.ev_op ha hb (Evl.rv_ne rfl)) (by rw [vstr_dec])
theorem ok__law_is_deed {f f1 f2 f3 f4 : Addr} {fd fd1 fd2 fd3 fd4 : FuncData} (F : Fun K "_law_is_deed" "_law_is_deed" s__law_is_deed f fd) (T : Txt K mg tk1 tk2) (d__law_is_number : DefAt P w K mg base "_law_is_number" 1 f1 fd1 ["_law_thing"] (spD jtD))
    (d__law_is_word : DefAt P w K mg base "_law_is_word" 1 f2 fd2 ["_law_thing"] (spName K)) (d__law_is_target : DefAt P w K mg base "_law_is_target" 2 f3 fd3 ["_law_thing"] (spD tgD)) (d__law_rows_right : DefAt P w K mg base "_law_rows_right" 3 f4 fd4 ["_law_thing"] (spD lrowD)) :
    FnOk P w K mg base CX0 4 f fd ["_law_thing"] (spD ldeedD) := by
  refine F.ok sc__law_is_deed (fun vs H Q E h => ?_) (fun cdv A outer s H vs Q E hr h => ?_)
  · obtain ⟨x, d, rfl, _⟩ := h
    rfl
  have hu := hr.units
  refine ⟨_, (pss_cons (ps_if (PW.pt (pw_or (pt_not (pt_val (pe_callB call_isi (by rfl) T.n_isinstance (by decide +kernel) (pa_cons (pv 0) (pa_cons (pe_bltn (v := .ty "tuple") (by rfl) T.n_tuple (by decide +kernel) rfl) pa_nil))))) (pw_or (pt_cmpR op_notIn_seq (pe_callB call_len_seq (by rfl) T.n_len (by decide +kernel) (pa_cons (pv 0) pa_nil)) (pe_tup (pa_cons pe_int (pa_cons pe_int pa_nil))) (by rfl)) (pw_or1 (pt_not (pt_val (pe_callB call_isi (by rfl) T.n_isinstance (by decide +kernel) (pa_cons (pe_ix ix_tup (pv 0) pe_int (fun _ _ => rfl)) (pa_cons (pe_bltn (v := .ty "str") (by rfl) T.n_str (by decide +kernel) rfl) pa_nil))))))))) (pss_one (ps_ret pe_bl)) pss_nil)
    (pss_cons (ps_if (PW.pt (pw_and (pt_cmpR op_eq (pe_ix ix_tup (pv 0) pe_int (fun _ _ => rfl)) pe_str (nomark _)) (pw_and1 (pt_cmpR op_eq (pe_callB call_len_seq (by rfl) T.n_len (by decide +kernel) (pa_cons (pv 0) pa_nil)) pe_int (nomark _))))) (pss_one (ps_ret (pe_callD d__law_rows_right (hr.mono (by decide)) (pa_cons (pe_ix ix_tup (pv 0) pe_int (fun _ _ => rfl)) pa_nil)))) pss_nil)
    (pss_cons (ps_if (PW.pt (pw_and (pt_cmpR op_eq (pe_ix ix_tup (pv 0) pe_int (fun _ _ => rfl)) pe_str (nomark _)) (pw_and1 (pt_cmpR op_eq (pe_callB call_len_seq (by rfl) T.n_len (by decide +kernel) (pa_cons (pv 0) pa_nil)) pe_int (nomark _))))) (pss_cons (ps_if (PW.pt (pw_or (pt_not (pt_val (pe_callB call_isi (by rfl) T.n_isinstance (by decide +kernel) (pa_cons (pe_ix ix_tup (pv 0) pe_int (fun _ _ => rfl)) (pa_cons (pe_bltn (v := .ty "tuple") (by rfl) T.n_tuple (by decide +kernel) rfl) pa_nil))))) (pw_or (pt_cmpR (op_eqQ hu) (pe_ix ix_tup (pv 0) pe_int (fun _ _ => rfl)) (pe_tup pa_nil) (nomark _)) (pw_or1 (pt_not (pt_val (pe_callB (cr_all rfl) (by rfl) T.n_all (by decide +kernel) (pa_cons (pe_lc (own := [("_law_one", 1)]) rfl sc__law_is_deed.nd (pi_tup (pe_ix ix_tup (pv 0) pe_int (fun _ _ => rfl))) (blkOk_by (N := N__law_is_deed) (sc := defScope s__law_is_deed) (by decide +kernel)) (fun _ _ _ _ _ => pg_name (i := 1) sc__law_is_deed.nd rfl (Or.inl rfl)) (fun _ _ _ _ _ => pts_nil) (fun _ _ _ _ _ => (pe_callD d__law_is_number (hr.mono (by decide)) (pa_cons (pv 1) pa_nil)))) pa_nil)))))))) (pss_one (ps_ret pe_bl)) pss_nil)
    (pss_one (ps_ret (pe_callB (cr_all rfl) (by rfl) T.n_all (by decide +kernel) (pa_cons (pe_lc (own := [("_law_a", 2), ("_law_b", 3)]) rfl sc__law_is_deed.nd (RZ.pi_zipA (by rfl) T.n_zip (pa_cons (pe_ix ix_tup (pv 0) pe_int (fun _ _ => rfl)) (pa_cons (pe_slice sl_tupA (pe_ix ix_tup (pv 0) pe_int (fun _ _ => rfl)) (po_some pe_int) po_none) pa_nil))) (blkOk_by (N := N__law_is_deed) (sc := defScope s__law_is_deed) (by decide +kernel)) (fun _ _ _ _ _ => (show PG _ _ (gTup K 2 (gCons (gName 2) (gCons (gName 3) gNil))) from pg_tup rfl (pgs_cons (pg_name (i := 2) sc__law_is_deed.nd rfl (Or.inl rfl)) (pgs_cons (pg_name (i := 3) sc__law_is_deed.nd rfl (Or.inl rfl)) pgs_nil)))) (fun _ _ _ _ _ => pts_nil) (fun _ _ _ _ _ => (pe_cmpR op_ltV (pv 2) (pv 3) (nomark _)))) pa_nil))))) pss_nil)
    (pss_cons (ps_if (PW.pt (pw_or (pt_cmpR op_ne (pe_ix ix_tup (pv 0) pe_int (fun _ _ => rfl)) pe_str (nomark _)) (pw_or (pt_cmpR op_ne (pe_callB call_len_seq (by rfl) T.n_len (by decide +kernel) (pa_cons (pv 0) pa_nil)) pe_int (nomark _)) (pw_or (pt_val (pe_callB call_isi (by rfl) T.n_isinstance (by decide +kernel) (pa_cons (pe_ix ix_tup (pv 0) pe_int (fun _ _ => rfl)) (pa_cons (pe_bltn (v := .ty "bool") (by rfl) T.n_bool (by decide +kernel) rfl) pa_nil)))) (pw_or1 (pt_not (pt_val (pe_callB call_isi (by rfl) T.n_isinstance (by decide +kernel) (pa_cons (pe_ix ix_tup (pv 0) pe_int (fun _ _ => rfl)) (pa_cons (pe_bltn (v := .ty "int") (by rfl) T.n_int (by decide +kernel) rfl) pa_nil)))))))))) (pss_one (ps_ret pe_bl)) pss_nil)
    (pss_cons (ps_if (pt_cmpR op_eq (pe_ix ix_tup (pv 0) pe_int (fun _ _ => rfl)) (pe_un un_neg pe_int) (nomark _)) (pss_one (ps_ret (pe_and (pe_callB call_isi (by rfl) T.n_isinstance (by decide +kernel) (pa_cons (pe_ix ix_tup (pv 0) pe_int (fun _ _ => rfl)) (pa_cons (pe_bltn (v := .ty "str") (by rfl) T.n_str (by decide +kernel) rfl) pa_nil))) (pe_and (pe_cmpR op_eq (pe_ix ix_tup (pv 0) pe_int (fun _ _ => rfl)) pe_str (nomark _)) (pe_one (pe_callD d__law_is_number (hr.mono (by decide)) (pa_cons (pe_ix ix_tup (pv 0) pe_int (fun _ _ => rfl)) pa_nil))))))) pss_nil)
    (pss_one (ps_ret (pe_and (pe_cmpR op_ge (pe_ix ix_tup (pv 0) pe_int (fun _ _ => rfl)) pe_int (nomark _)) (pe_and (pe_callD d__law_is_word (hr.mono (by decide)) (pa_cons (pe_ix ix_tup (pv 0) pe_int (fun _ _ => rfl)) pa_nil)) (pe_one (pe_or (pe_cmpR op_isN (pe_ix ix_tup (pv 0) pe_int (fun _ _ => rfl)) pe_non (nomark _)) (pe_one (pe_callD d__law_is_target (hr.mono (by decide)) (pa_cons (pe_ix ix_tup (pv 0) pe_int (fun _ _ => rfl)) pa_nil)))))))))))))), ?_⟩
  obtain ⟨x, d, rfl, hd, hq⟩ := h
  have v0 : EvD (tVar 0) [some x, none, none, none] H d := evd_var rfl hd
  unfold ldeedD at hq
  have c1 : EvT _ [some x, none, none, none] H (!isTup d || (!(decide ((items d).length = 2) || decide ((items d).length = 4)) || !isStr (at' d 0))) := Evl.et_or (Evl.et_not (Evl.et_B (ev_isi (K := K) v0 (kit_tup' d)))) fun h1 =>
    Evl.et_or (Evl.et_test (Evl.ev_is (Evl.ev_niU (K := K) (ev_lenD (K := K) v0 (Or.inl (by simpa using h1))) (Evl.eu_tup (Evl.ea_cons (Evl.ev_c (v := .int 2)) (Evl.ea_cons (Evl.ev_c (v := .int 4)) Evl.ea_nil)) (by show 2 ≤ 100000; omega)) rfl rfl) (by rw [in24]))) fun h2 =>
      Evl.et_not (Evl.et_B (ev_isi (K := K) (evd_atT (K := K) (i := 0) v0 (by simpa using h1) (by
        rw [Bool.not_eq_false', Bool.or_eq_true, decide_eq_true_eq, decide_eq_true_eq] at h2
        omega) Evl.ev_c) (kit_str' _)))
  refine Evl.q_when c1 (fun h1 H1 e1 => ?_) (fun h1 H1 e1 => ?_)
  · rw [if_pos h1] at hq
    exact Evl.s_ret Evl.ev_c fun H2 e2 => hq H2 (e1.trans e2)
  rw [if_neg (by rw [h1]; decide)] at hq
  rw [Bool.or_eq_false_iff, Bool.or_eq_false_iff] at h1
  have ht : isTup d = true := by simpa using h1.1
  have hl : 2 ≤ (items d).length := by
    have h2 := h1.2.1
    rw [Bool.not_eq_false', Bool.or_eq_true, decide_eq_true_eq, decide_eq_true_eq] at h2
    omega
  have hs : isStr (at' d 0) = true := by simpa using h1.2.2
  have z0 : ∀ H', Ex H H' → Ev (tOp (rIxT K) (tVar 0) (tC (.int 0))) [some x, none, none, none] H' (.str (txt (at' d 0))) := fun H' e => (evd_atT (K := K) (i := 0) (v0.mono e) ht (by omega) Evl.ev_c).strE hs
  have z1 : ∀ H', Ex H H' → EvD (tOp (rIxT K) (tVar 0) (tC (.int 1))) [some x, none, none, none] H' (at' d 1) := fun H' e => evd_atT (K := K) (i := 1) (v0.mono e) ht (by omega) Evl.ev_c
  have ln : ∀ H', Ex H H' → Ev (tCB (Evl.rLenS K) (tCons (tVar 0) tNil)) [some x, none, none, none] H' (.int ((items d).length : Int)) := fun H' e => ev_lenD (v0.mono e) (Or.inl ht)
  refine Evl.q_when (Evl.et_and (Evl.et_test (ev_eqS (z0 H1 e1) Evl.ev_c)) fun _ => Evl.et_test (ev_eqI (ln H1 e1) Evl.ev_c)) (fun h2 H2 e2 => ?_) (fun h2 H2 e2 => ?_)
  · rw [if_pos h2] at hq
    exact Evl.s_ret (ev_callB1 (z1 H2 (e1.trans e2))) fun H3 e3 => hq H3 ((e1.trans e2).trans e3)
  rw [if_neg (by rw [h2]; decide)] at hq
  have e12 := e1.trans e2
  refine Evl.q_when (Evl.et_and (Evl.et_test (ev_eqS (z0 H2 e12) Evl.ev_c)) fun _ => Evl.et_test (ev_eqI (ln H2 e12) Evl.ev_c)) (fun h3 H3 e3 => ?_) (fun h3 H3 e3 => ?_)
  · rw [if_pos h3] at hq
    have e13 := e12.trans e3
    refine Evl.q_when (Evl.et_or (Evl.et_not (Evl.et_B (ev_isi (K := K) (z1 H3 e13) (kit_tup' _)))) fun g1 => Evl.et_or (Evl.et_test (ev_eqN (K := K) (z1 H3 e13) (by simpa using g1))) fun _ => Evl.et_not (Evl.et_B (ev_allT (K := K) (j := 1) jtD (z1 H3 e13) (by simpa using g1) fun x d' H1 e1 hd' _ => ev_callB1 (E := E0) (evd_var (i := 1) rfl hd')))) (fun g1 H4 e4 => ?_) (fun g1 H4 e4 => ?_)
    · rw [if_pos g1] at hq
      exact Evl.s_ret Evl.ev_c fun H5 e5 => hq H5 ((e13.trans e4).trans e5)
    rw [if_neg (by rw [g1]; decide)] at hq
    rw [Bool.or_eq_false_iff, Bool.or_eq_false_iff] at g1
    have t1 : isTup (at' d 1) = true := by simpa using g1.1
    have j1 : (items (at' d 1)).all jtD = true := by simpa using g1.2.2
    have e14 := e13.trans e4
    obtain ⟨a, xs, rfl, ha, hda, hz, hln⟩ := hd.tupE ht
    obtain ⟨y, hy, dy⟩ := hda.get' 1 (List.getElem?_eq_getElem (show 1 < (items d).length by omega))
    have ey : (items d)[1] = at' d 1 := (LF.at_of rfl (by omega)).symm
    rw [ey] at dy
    have vy : ∀ H', Ex H4 H' → Ev (tOp (rIxT K) (tVar 0) (tC (.int 1))) [some (V.ref a), none, none, none] H' y := fun H' e => Evl.ev_op (Evl.ev_var rfl) Evl.ev_c (Evl.rv_ixT (st_of ((e14.trans e) _ _ ha)) (atI_nat' (i := 1) hy))
    exact Evl.s_ret (ev_allZ (K := K) (j := 2) (k := 3) ltD (Dq.same e14 _ _ dy) vy t1 (fun _ _ => rfl) fun x y q1 q2 H1 e1 m1 m2 d1 d2 => ev_ltD (evd_var (i := 2) rfl d1) (evd_var (i := 3) rfl d2) (kin2 (kin_jt (List.all_eq_true.mp j1)) m1 m2)) fun H5 e5 => hq H5 (e14.trans e5)
  rw [if_neg (by rw [h3]; decide)] at hq
  have e13 := e12.trans e3
  refine Evl.q_when (Evl.et_or (Evl.et_test (ev_neS (z0 H3 e13) Evl.ev_c)) fun _ => Evl.et_or (Evl.et_test (et_neI (ln H3 e13) Evl.ev_c)) fun _ => Evl.et_or (Evl.et_B (ev_isi (K := K) (z1 H3 e13) (kit_bol' _))) fun _ => Evl.et_not (Evl.et_B (ev_isi (K := K) (z1 H3 e13) (kit_int' _)))) (fun h4 H4 e4 => ?_) (fun h4 H4 e4 => ?_)
  · rw [if_pos h4] at hq
    exact Evl.s_ret Evl.ev_c fun H5 e5 => hq H5 ((e13.trans e4).trans e5)
  rw [if_neg (by rw [h4]; decide)] at hq
  rw [Bool.or_eq_false_iff, Bool.or_eq_false_iff, Bool.or_eq_false_iff] at h4
  have hl4 : (items d).length = 4 := by
    have : decide (((items d).length : Int) = 4) = true := by simpa using h4.2.1
    have := of_decide_eq_true this
    omega
  have b1 : isBol (at' d 1) = false := h4.2.2.1
  have n1 : isNum (at' d 1) = true := by simpa using h4.2.2.2
  have e14 := e13.trans e4
  have z2 : ∀ H', Ex H H' → EvD (tOp (rIxT K) (tVar 0) (tC (.int 2))) [some x, none, none, none] H' (at' d 2) := fun H' e => evd_atT (K := K) (i := 2) (v0.mono e) ht (by omega) Evl.ev_c
  have z3 : ∀ H', Ex H H' → EvD (tOp (rIxT K) (tVar 0) (tC (.int 3))) [some x, none, none, none] H' (at' d 3) := fun H' e => evd_atT (K := K) (i := 3) (v0.mono e) ht (by omega) Evl.ev_c
  refine Evl.q_when (Evl.et_test (ev_eqI ((z1 H4 e14).intE n1 b1) (Evl.ev_un Evl.ev_c Evl.ru_neg))) (fun h5 H5 e5 => ?_) (fun h5 H5 e5 => ?_)
  · rw [if_pos h5] at hq
    have e15 := e14.trans e5
    exact Evl.s_ret (Evl.ev_andV (ev_isi (K := K) (z2 H5 e15) (kit_str' _)) fun g1 => Evl.ev_andV (ev_eqS ((z2 H5 e15).strE g1) Evl.ev_c) fun _ => ev_callB1 (z3 H5 e15)) fun H6 e6 => hq H6 (e15.trans e6)
  · rw [if_neg (by rw [h5]; decide)] at hq
    have e15 := e14.trans e5
    exact Evl.s_ret (Evl.ev_andV (Evl.ev_op ((z1 H5 e15).intE n1 b1) Evl.ev_c Evl.rv_I0) fun _ => Evl.ev_andV (ev_nm (K := K) (z2 H5 e15)) fun _ => Evl.ev_orV (ev_isN (z3 H5 e15)) fun _ => ev_callB1 (z3 H5 e15)) fun H6 e6 => hq H6 (e15.trans e6)
end
end KA

set_option Elab.async false
set_option linter.all false
set_option maxRecDepth 100000
set_option maxHeartbeats 4000000
namespace KA
open PySem PySem.Spec PyProof.Rows L2 LF
theorem ascP_map (ds : List PyData) : ascP ds = ascD (ds.map (at' · 0)) := by
  unfold ascP ascD
  rw [List.length_map]
  have e : ∀ i, (ds.map (at' · 0)).getD i .none = at' (ds.getD i .none) 0 := fun i => by
    rw [List.getD_eq_getElem?_getD, List.getD_eq_getElem?_getD, List.getElem?_map]
    cases ds[i]? <;> rfl
  simp only [e]
theorem rowOk_eq (p : PyData) : rowOk p = (jtD (at' p 0) && tabD (at' p 1)) := by
  unfold rowOk tabD rowD
  rw [ascP_map]
  cases jtD (at' p 0) <;> cases isTup (at' p 1) <;> cases (items (at' p 1)).all isPair <;> cases ((items (at' p 1)).all fun q => nmD (at' q 0) && tgD (at' q 1)) <;> simp
theorem lrow_eq (d : PyData) : lrowD d = (rowD jtD tabD d && decide ((0 : Int) < ((items d).length : Int))) := by
  unfold lrowD rowD
  rw [ascP_map, show rowOk = (fun p => jtD (at' p 0) && tabD (at' p 1)) from funext rowOk_eq]
  have e : decide ((0 : Int) < ((items d).length : Int)) = !decide (((items d).length : Int) = 0) := by
    rw [Bool.eq_iff_iff, decide_eq_true_eq, Bool.not_eq_true', decide_eq_false_iff_not]; omega
  rw [e]
  cases isTup d <;> cases decide (((items d).length : Int) = 0) <;> cases (items d).all isPair <;> cases ((items d).all fun p => jtD (at' p 0) && tabD (at' p 1)) <;> simp
theorem num_cases (d : PyData) : (isBol d || !isNum d) = !intD d := by
  unfold intD
  cases isBol d <;> cases isNum d <;> rfl
theorem ldeed_eq (d : PyData) : ldeedD d = deedD d := by
  unfold ldeedD deedD
  cases ht : isTup d with
  | false => simp
  | true =>
    cases hs : isStr (at' d 0) with
    | false => simp
    | true =>
      generalize hn : (items d).length = n
      have i2 : decide ((n : Int) = 2) = decide (n = 2) := by rw [Bool.eq_iff_iff, decide_eq_true_eq, decide_eq_true_eq]; omega
      have i4 : decide ((n : Int) = 4) = decide (n = 4) := by rw [Bool.eq_iff_iff, decide_eq_true_eq, decide_eq_true_eq]; omega
      rw [i2, i4]
      have nmk : ∀ z : Str, z = "make" → ¬ z = "drop" ∧ ¬ z = "turn" := fun z h => by subst h; exact ⟨by decide +kernel, by decide +kernel⟩
      have ndr : ∀ z : Str, z = "drop" → ¬ z = "turn" := fun z h => by subst h; decide +kernel
      have m1 : ¬ (Str.ofString "drop" = Str.ofString "make") := by decide +kernel
      have m2 : ¬ (Str.ofString "make" = Str.ofString "turn") := by decide +kernel
      have m3 : ¬ (Str.ofString "drop" = Str.ofString "turn") := by decide +kernel
      have m4 : ¬ (Str.ofString "turn" = Str.ofString "make") := by decide +kernel
      have m5 : ¬ (Str.ofString "turn" = Str.ofString "drop") := by decide +kernel
      have m6 : ¬ (Str.ofString "make" = Str.ofString "drop") := by decide +kernel
      by_cases h2 : n = 2
      · subst h2
        have e0 : ¬ ((2 : Nat) : Int) < 2 := by omega
        by_cases k1 : txt (at' d 0) = "make"
        · simp [k1, e0, lrow_eq]
        · by_cases k2 : txt (at' d 0) = "drop"
          · simp only [k1, k2, e0, dropD]
            simp [m1]
          · simp [k1, k2, e0]
      · by_cases h4 : n = 4
        · subst h4
          have e0 : ¬ ((4 : Nat) : Int) < 2 := by omega
          by_cases k1 : txt (at' d 0) = "make"
          · simp [k1, e0, m2, m6]
          · by_cases k2 : txt (at' d 0) = "drop"
            · simp [k2, e0, m1, m3]
            · by_cases k3 : txt (at' d 0) = "turn"
              · have ej : jtD (at' d 1) = (intD (at' d 1) && decide (0 ≤ num (at' d 1))) := rfl
                have et : topD d = (intD (at' d 1) && (decide (num (at' d 1) = -1) && (isStr (at' d 2) && decide (txt (at' d 2) = "")))) := rfl
                rw [num_cases, et, ej]
                rcases Bool.eq_false_or_eq_true (intD (at' d 1)) with hi | hi
                · by_cases h1 : num (at' d 1) = -1
                  · have h0 : ¬ (0 : Int) ≤ -1 := by omega
                    rcases Bool.eq_false_or_eq_true (isStr (at' d 2)) with g1 | g1 <;> by_cases g2 : txt (at' d 2) = "" <;> simp [k3, m4, m5, hi, h1, h0, g1, g2]
                  · simp [k3, m4, m5, hi, h1]
                · simp [k3, m4, m5, hi]
              · simp [k1, k2, k3, e0]
        · by_cases k1 : txt (at' d 0) = "make"
          · simp [k1, h2, h4]
          · by_cases k2 : txt (at' d 0) = "drop"
            · simp [k1, k2, h2, h4]
            · simp [k1, k2, h2, h4]
end KA

set_option Elab.async false
set_option linter.all false
set_option maxRecDepth 100000
set_option maxHeartbeats 4000000
/-! sets whose items are tuples of ints and texts: what is asked of the items, the searching -/
namespace HSK
open PySem PySem.Spec PyProof.Rows L2
section
variable {P : Program} {w : World} {A : Around} {E : Value → Shared → Prop} {s : Shared}
/-- the tuple at b is the key q -/
abbrev Tk (P : Program) (w : World) (h : Heap) (q : List Key) (b : Addr) : Prop := IsTupleKey (mixKind P w) h q b
abbrev hq (P : Program) (w : World) (q : List Key) : Int := tupleKeyHash (mixKind P w) q
def Atom (v : Value) : Prop := (∃ i t, v = Value.int i t) ∨ ∃ x t, v = Value.str x t
theorem atoms {q : List Key} {vs : List Value} (hi : ItemsAre (mixKind P w) q vs) : ∀ v ∈ vs, Atom v := by
  induction hi with
  | nil => exact fun v hv => nomatch hv
  | cons h1 _ ih =>
    intro v hv
    rcases List.mem_cons.mp hv with rfl | hv
    · rcases keyIs_shape h1 with ⟨i, t, _, e⟩ | ⟨x, t, _, e⟩
      · exact Or.inl ⟨i, t, e⟩
      · exact Or.inr ⟨x, t, e⟩
    · exact ih v hv
theorem Atom.cls {v : Value} (h : Atom v) (n : Nat) : ofAClassStatement n v = pure false := by
  rcases h with ⟨i, t, rfl⟩ | ⟨x, t, rfl⟩ <;> cases n <;> rfl
theorem Atom.hsh {v : Value} (h : Atom v) (n : Nat) : ∃ c : Bool, hashByValue n v = pure c := by
  rcases h with ⟨i, t, rfl⟩ | ⟨x, t, rfl⟩
  · exact ⟨true, by cases n <;> rfl⟩
  · exact ⟨false, by cases n <;> (unfold hashByValue; rfl)⟩
theorem tk_cls {q : List Key} {b : Addr} {Q : Bool → Shared → Prop} (ht : Tk P w s.heap q b) (g : Q false s) : wpAny (model P w) A (ofAClassStatement 8 (.ref b)) Q E s := by
  have ty := ht.typeIs
  obtain ⟨ob, its, m, h1, _, h2, h3⟩ := ht
  unfold ofAClassStatement
  refine wpAny_bind (wpAny_typeOf ty ?_)
  dsimp only
  have tt : (("tuple" : String) == "tuple") = true := by decide
  simp only [tt, if_true, Bool.not_true, Bool.false_eq_true, if_false]
  try refine wpAny_bind (wpAny_pure ?_)
  try simp only [Bool.not_true, Bool.false_eq_true, if_false]
  show wpAny _ _ (seqItems? (.ref b) >>= _) _ _ s
  refine wpAny_bind (wpAny_seqItems h1 h2 ?_)
  dsimp only
  refine wpAny_bind ?_
  show wpAny _ _ (forIn its _ _) _ _ s
  rw [← Array.forIn_toList]
  have all := atoms h3
  refine wpAny_forIn_list _ (fun left r s' => (∀ v ∈ left, Atom v) ∧ r.1 = none ∧ s' = s) _ (fun v left r s' hin => ?_) (fun r s' hend => ?_) _ _ ⟨all, rfl, rfl⟩
  · obtain ⟨ha, hr, hs⟩ := hin
    rw [(ha v List.mem_cons_self).cls]
    subst hs
    refine wpAny_bind (wpAny_pure ?_)
    rw [if_neg (by decide)]
    exact wpAny_pure ⟨fun u hu => ha u (List.mem_cons_of_mem _ hu), rfl, rfl⟩
  · obtain ⟨r1, r2⟩ := r
    obtain ⟨_, hr, hs⟩ := hend
    subst hs
    cases (show r1 = none from hr)
    exact wpAny_pure g
theorem tk_hsh {q : List Key} {b : Addr} {Q : Bool → Shared → Prop} (ht : Tk P w s.heap q b) (g : ∀ c, Q c s) : wpAny (model P w) A (hashByValue 8 (.ref b)) Q E s := by
  have ty := ht.typeIs
  obtain ⟨ob, its, m, h1, _, h2, h3⟩ := ht
  unfold hashByValue
  refine wpAny_bind (wpAny_specialOf ty F.slot_tuple_hash.lookup ?_)
  show wpAny _ _ (seqItems? (.ref b) >>= _) _ _ s
  refine wpAny_bind (wpAny_seqItems h1 h2 ?_)
  refine wpAny_bind ?_
  show wpAny _ _ (forIn its _ _) _ _ s
  rw [← Array.forIn_toList]
  have all := atoms h3
  refine wpAny_forIn_list _ (fun left r s' => (∀ v ∈ left, Atom v) ∧ s' = s) _ (fun v left r s' hin => ?_) (fun r s' hend => ?_) _ _ ⟨all, rfl⟩
  · obtain ⟨ha, hs⟩ := hin
    obtain ⟨c, hc⟩ := (ha v List.mem_cons_self).hsh 7
    rw [hc]
    subst hs
    refine wpAny_bind (wpAny_pure ?_)
    have rest : ∀ u ∈ left, Atom u := fun u hu => ha u (List.mem_cons_of_mem _ hu)
    cases c with
    | true =>
      rw [if_neg (by decide)]
      exact wpAny_pure ⟨rest, rfl⟩
    | false =>
      rw [if_pos (by decide)]
      exact wpAny_pure (wpAny_pure (g false))
  · obtain ⟨r1, r2⟩ := r
    obtain ⟨_, hs⟩ := hend
    subst hs
    cases r1 with
    | none => exact wpAny_pure (g true)
    | some c => exact wpAny_pure (g c)
end
end HSK

set_option Elab.async false
set_option linter.all false
set_option maxRecDepth 100000
set_option maxHeartbeats 4000000
namespace HSK
open PySem PySem.Spec PyProof.Rows L2
section
variable {P : Program} {w : World} {A : Around} {E : Value → Shared → Prop} {s : Shared}
theorem tk_seen {q : List Key} {b : Addr} {Q : Bool → Shared → Prop} (ht : Tk P w s.heap q b) {stored : List Value} (hy : ∀ y ∈ stored, ∃ q' c, y = Value.ref c ∧ Tk P w s.heap q' c) (g : Q false s) :
    wpAny (model P w) A (searchCouldBeSeen (.ref b) stored) Q E s := by
  unfold searchCouldBeSeen
  refine wpAny_bind (wpAny_forIn_list _ (fun left r s' => (∀ y ∈ left, ∃ q' c, y = Value.ref c ∧ Tk P w s.heap q' c) ∧ r.1 = none ∧ s' = s) _ (fun y left r s' hin => ?_) (fun r s' hend => ?_) _ _ ⟨hy, rfl, rfl⟩)
  · obtain ⟨ha, hr, hs⟩ := hin
    have hl : ∀ y ∈ left, ∃ q' c, y = Value.ref c ∧ Tk P w s.heap q' c := fun u hu => ha u (List.mem_cons_of_mem _ hu)
    obtain ⟨q', c, e, hc⟩ := ha y List.mem_cons_self
    subst hs
    subst e
    dsimp only
    cases very : (b == c || (carriedByValue (.ref b) && carriedByValue (.ref c))) with
    | true => exact wp_if_pos rfl (wpAny_pure ⟨hl, rfl, rfl⟩)
    | false =>
      refine wp_if_neg (by decide) (wpAny_bind (wpAny_eqIsQuiet_tuple ht ?_))
      rw [if_neg (by decide)]
      refine wpAny_bind (wpAny_eqIsQuiet_tuple hc ?_)
      rw [if_neg (by decide)]
      refine wpAny_bind (tk_cls ht ?_)
      rw [if_neg (by decide)]
      refine wpAny_bind (tk_cls hc ?_)
      rw [if_neg (by decide)]
      exact wpAny_pure ⟨hl, rfl, rfl⟩
  · obtain ⟨r1, r2⟩ := r
    obtain ⟨_, hr, hs⟩ := hend
    subst hs
    cases (show r1 = none from hr)
    exact wpAny_pure g
/-! the set: its items in the order of the table -/
def rws (P : Program) (w : World) (L : List (Addr × List Key)) : List (Int × Value) := L.map fun p => (hq P w p.2, Value.ref p.1)
structure Set3 (P : Program) (w : World) (h : Heap) (a : Addr) (L : List (Addr × List Key)) (es : Array (Int × Value)) (ep : Nat) (t : SetTable) : Prop where
  ob : ∃ o, h.get? a = some o ∧ o.ExactSet ∧ o.data = .set es ep t
  rows : es.toList = rws P w L
  tab : TabOk t (L.map fun p => hq P w p.2)
  nd : (L.map (·.2)).Nodup
  tup : ∀ p ∈ L, Tk P w h p.2 p.1
  room : L.length * 5 < t.mask * 3
  few : L.length < 64
theorem rws_len (L : List (Addr × List Key)) : (rws P w L).length = L.length := by unfold rws; rw [List.length_map]
theorem rows_size {es : Array (Int × Value)} {L : List (Addr × List Key)} (h : es.toList = rws P w L) : es.size = L.length := by
  rw [← Array.length_toList, h, rws_len]
theorem rows_get {es : Array (Int × Value)} {L : List (Addr × List Key)} (h : es.toList = rws P w L) {i : Nat} {p : Addr × List Key} (hp : L[i]? = some p) : es[i]? = some (hq P w p.2, Value.ref p.1) := by
  rw [← Array.getElem?_toList, h, rws, List.getElem?_map, hp]; rfl
theorem fits_of {t : SetTable} {hs : List Int} {n : Nat} (T : TabOk t hs) (hn : hs.length = n) (hm : n ≤ t.mask) : t.fits n = true := by
  have h1 := T.sz
  unfold SetTable.fits SetTable.fill
  rw [T.dm, Bool.and_eq_true, beq_iff_eq, decide_eq_true_eq]
  refine ⟨by omega, ?_⟩
  show t.place.size + 0 ≤ t.mask
  omega
variable {a : Addr} {L : List (Addr × List Key)} {es : Array (Int × Value)} {ep : Nat} {t : SetTable}
theorem Set3.fits (R : Set3 P w s.heap a L es ep t) : t.fits es.size = true := by
  have h1 := R.room
  rw [rows_size R.rows]
  exact fits_of R.tab (List.length_map ..) (by omega)
theorem not_away {t : SetTable} {hs : List Int} (T : TabOk t hs) : ¬ t.gaveWay = true := by
  unfold SetTable.gaveWay
  rw [mask_odd T.mok]
  decide
/-- the c-th stop of a search -/
def stop (t : SetTable) (h : Int) (c : Nat) : SetTable.Probe := nth t.mask (runAt t.mask (SetTable.bits h % (t.mask + 1)) (SetTable.bits h)) c
theorem stop_way (t : SetTable) (h : Int) (c : Nat) : (stop t h c).j = way t.mask h c := rfl
theorem stop_on (t : SetTable) (h : Int) (c n : Nat) : nth t.mask (stop t h c) n = stop t h (c + n) := by unfold stop; rw [nth_add]
theorem nth_clean (m : Nat) : ∀ (n : Nat) (p : SetTable.Probe), p.dummy = none → (nth m p n).dummy = none
  | 0, _, h => h
  | n + 1, p, h => nth_clean m n (adv m p) (by unfold adv; split <;> exact h)
theorem stop_clean (t : SetTable) (h : Int) (c : Nat) : (stop t h c).dummy = none := nth_clean _ c _ rfl
/-- the search, from its c-th stop on: nothing with the key stood before -/
theorem hunt (R : Set3 P w s.heap a L es ep t) {b : Addr} {q : List Key} (ht : Tk P w s.heap q b) (hu : A.units < cLine) {K : Nat} (hf : K < 10 * SetTable.turns t.mask)
    (hK : way t.mask (hq P w q) K ∉ t.place.toList) (hB : ∀ c, c < K → way t.mask (hq P w q) c ∈ t.place.toList) {Q : SetFound → Shared → Prop}
    (yes : q ∈ L.map (·.2) → Q (.there none) s) (no : q ∉ L.map (·.2) → Q (.free (way t.mask (hq P w q) K) false) s) :
    ∀ (n c : Nat) (st : Option SetTable.Probe), st.getD (t.probeStart (hq P w q)) = stop t (hq P w q) c → c ≤ K → K - c < n →
      (∀ (i : Nat) (p : Addr × List Key), L[i]? = some p → p.2 = q → ∃ c', c ≤ c' ∧ c' < K ∧ t.place.toList[i]? = some (way t.mask (hq P w q) c')) →
      wpAny (model P w) A (setSearchFrom a (.ref b) (hq P w q) true n st) Q E s := by
  obtain ⟨o, ho, _, hd⟩ := R.ob
  have hash : ∀ (i : Nat) (p : Addr × List Key), L[i]? = some p → (fun i => (es[i]?.map (·.1)).getD 0) i = hq P w p.2 := fun i p hp => by
    show (es[i]?.map (·.1)).getD 0 = _
    rw [rows_get R.rows hp]; rfl
  intro n
  induction n with
  | zero => exact fun c st _ _ h => absurd h (Nat.not_lt_zero _)
  | succ n ih =>
    intro c st hst hc hn ahead
    rw [setSearchFrom_succ]
    refine wpAny_bind (wpAny_setState_of ho hd R.fits ?_)
    dsimp only
    refine wp_if_neg (not_away R.tab) ?_
    try refine wpAny_bind (wpAny_pure ?_)
    have told := go_spec t R.tab.ris R.tab.dm (fun i => (es[i]?.map (·.1)).getD 0) (hq P w q) (10 * SetTable.turns t.mask) (K - c) (stop t (hq P w q) c) (stop_clean t _ c) (by omega)
      (fun m hm => by rw [stop_on, stop_way]; exact hB _ (by omega)) (by rw [stop_on, stop_way, show c + (K - c) = K by omega]; exact hK)
    simp only [stop_on, stop_way] at told
    have probe : t.probe (fun i => (es[i]?.map (·.1)).getD 0) (hq P w q) (st.getD (t.probeStart (hq P w q))) = SetTable.probe.go t (fun i => (es[i]?.map (·.1)).getD 0) (hq P w q) (10 * SetTable.turns t.mask) (stop t (hq P w q) c) := by
      rw [hst]; rfl
    rw [probe]
    rcases told with ⟨m, i, hm, hi, hh, hno, e⟩ | ⟨hno, e⟩
    · rw [e]
      dsimp only
      have hiL : i < L.length := by
        have l1 := (List.getElem?_eq_some_iff.mp hi).1
        have l2 := R.tab.sz
        rw [List.length_map] at l2
        rw [Array.length_toList] at l1
        omega
      obtain ⟨p, hp⟩ : ∃ p, L[i]? = some p := ⟨_, List.getElem?_eq_getElem hiL⟩
      have pL : p ∈ L := List.mem_of_getElem? hp
      have main : wpAny (model P w) A (searchRest a (.ref b) (hq P w q) true n es t (way t.mask (hq P w q) (c + m)) i (stop t (hq P w q) (c + (m + 1)))) Q E s := by
        unfold searchRest
        rw [rows_get R.rows hp]
        dsimp only
        refine wpAny_bind (wpAny_holding (wpAny_eqBool_tuple hu (R.tup p pL) ht ?_))
        refine wpAny_bind (wpAny_setState_of ho hd R.fits ?_)
        dsimp only
        by_cases same : p.2 = q
        · exact wp_if_pos (by rw [decide_eq_true same]; rfl) (wpAny_pure (yes (List.mem_map.mpr ⟨p, pL, same⟩)))
        · refine wp_if_neg (by rw [decide_eq_false same]; decide) ?_
          try refine wpAny_bind (wpAny_pure ?_)
          rw [sameMem]
          dsimp only
          have slot : t.slot (way t.mask (hq P w q) (c + m)) = .live i := slot_live R.tab.ris hi
          simp only [if_true, slot, rows_get R.rows hp]
          refine wpAny_bind (wpAny_isSame_ref_self (wpAny_bind (wpAny_pure ?_)))
          simp only [if_true]
          refine wp_if_neg (by rw [decide_eq_false same]; decide) ?_
          refine ih (c + (m + 1)) (some (stop t (hq P w q) (c + (m + 1)))) rfl (by omega) (by omega) fun i0 p0 h0 k0 => ?_
          obtain ⟨c', g1, g2, g3⟩ := ahead i0 p0 h0 k0
          refine ⟨c', ?_, g2, g3⟩
          have n1 : ¬ c' < c + m := fun lt => by
            refine hno (c' - c) i0 (by omega) (by rw [show c + (c' - c) = c' by omega]; exact g3) ?_
            exact (hash i0 p0 h0).trans (by rw [k0])
          have n2 : c' ≠ c + m := fun eq => by
            subst eq
            have z := slot_live R.tab.ris g3
            rw [slot] at z
            injection z with z
            rw [← z, hp] at h0
            cases h0
            exact same k0
          omega
      cases led : t.led with
      | true =>
        refine wp_if_neg (by decide) ?_
        try refine wpAny_bind (wpAny_pure ?_)
        exact main
      | false =>
        refine wp_if_pos rfl (wpAny_bind (tk_seen ht (fun y hy => ?_) ?_))
        · obtain ⟨e0, he0, rfl⟩ := List.mem_map.mp hy
          have m1 : e0 ∈ es.toList := by
            have : e0 ∈ es ∧ e0.1 = hq P w q := by simpa using he0
            simpa using this.1
          rw [R.rows] at m1
          obtain ⟨p2, m2, rfl⟩ := List.mem_map.mp m1
          exact ⟨p2.2, p2.1, rfl, R.tup p2 m2⟩
        · refine wp_if_neg (by decide) ?_
          try refine wpAny_bind (wpAny_pure ?_)
          exact main
    · rw [e, show c + (K - c) = K by omega]
      dsimp only
      refine wpAny_pure (no fun mem => ?_)
      obtain ⟨p0, m0, k0⟩ := List.mem_map.mp mem
      obtain ⟨i0, l0, e0⟩ := List.getElem_of_mem m0
      have h0 : L[i0]? = some p0 := by rw [List.getElem?_eq_getElem l0, e0]
      obtain ⟨c', g1, g2, g3⟩ := ahead i0 p0 h0 k0
      refine hno (c' - c) i0 (by omega) (by rw [show c + (c' - c) = c' by omega]; exact g3) ?_
      exact (hash i0 p0 h0).trans (by rw [k0])
theorem sought (R : Set3 P w s.heap a L es ep t) {b : Addr} {q : List Key} (ht : Tk P w s.heap q b) (hu : A.units < cLine) {Q : SetFound → Shared → Prop}
    (yes : q ∈ L.map (·.2) → Q (.there none) s)
    (no : ∀ K, q ∉ L.map (·.2) → way t.mask (hq P w q) K ∉ t.place.toList → (∀ c, c < K → way t.mask (hq P w q) c ∈ t.place.toList) → Q (.free (way t.mask (hq P w q) K) false) s) :
    wpAny (model P w) A (setSearch a (.ref b) (hq P w q) true) Q E s := by
  have r := R.room
  obtain ⟨K, h1, h2, h3⟩ := R.tab.first (by rw [List.length_map]; omega) (hq P w q)
  have big : K < 100000 := by
    have : 10 * SetTable.turns t.mask ≤ 1420 := by
      unfold SetTable.turns
      rcases R.tab.mok with e | e | e <;> omega
    omega
  unfold setSearch
  refine hunt R ht hu h1 h2 h3 yes (fun z => no K z h2 h3) 100000 0 none rfl (Nat.zero_le _) (by omega) fun i p hp e => ?_
  have hi : (L.map fun p => hq P w p.2)[i]? = some (hq P w q) := by rw [List.getElem?_map, hp, ← e]; rfl
  have len : i < t.place.toList.length := by
    have l1 := (List.getElem?_eq_some_iff.mp hp).1
    have l2 := R.tab.sz
    rw [List.length_map] at l2
    rw [Array.length_toList]
    omega
  obtain ⟨c, hc, e2⟩ := R.tab.before h2 hi (List.getElem?_eq_getElem len)
  exact ⟨c, Nat.zero_le _, hc, by rw [List.getElem?_eq_getElem len, e2]⟩
end
end HSK

set_option Elab.async false
set_option linter.all false
set_option maxRecDepth 100000
set_option maxHeartbeats 4000000
namespace HSK
open PySem PySem.Spec PyProof.Rows L2
section
/-- the items at these places -/
def pick {α : Type} (xs : List α) (is : List Nat) : List α := is.filterMap fun i => xs[i]?
theorem pick_take {α : Type} (xs : List α) : ∀ n, n ≤ xs.length → pick xs (List.range n) = xs.take n
  | 0, _ => by simp [pick]
  | n + 1, h => by
    have ih := pick_take xs n (by omega)
    have lt : n < xs.length := by omega
    unfold pick at ih ⊢
    rw [List.range_succ, List.filterMap_append, ih, List.take_add_one, List.filterMap_cons, List.getElem?_eq_getElem lt]
    rfl
theorem pick_perm {α : Type} {xs : List α} {is : List Nat} (h : is.Perm (List.range xs.length)) : (pick xs is).Perm xs := by
  have e := pick_take xs xs.length (Nat.le_refl _)
  rw [List.take_length] at e
  have p : (pick xs is).Perm (pick xs (List.range xs.length)) := h.filterMap _
  rw [e] at p
  exact p
theorem pick_map {α β : Type} (f : α → β) (xs : List α) (is : List Nat) : pick (xs.map f) is = (pick xs is).map f := by
  unfold pick
  rw [List.map_filterMap]
  congr 1
  funext i
  rw [List.getElem?_map]
theorem pick_getD {xs : Array Int} : ∀ {is : List Nat}, (∀ i ∈ is, i < xs.size) → pick xs.toList is = is.map fun i => xs.getD i 0
  | [], _ => rfl
  | i :: is, h => by
    have lt := h i List.mem_cons_self
    have ih := pick_getD (xs := xs) (is := is) fun j hj => h j (List.mem_cons_of_mem _ hj)
    unfold pick at ih ⊢
    have e : xs.toList[i]? = some (xs.getD i 0) := by
      rw [Array.getElem?_toList]
      simp [Array.getD_eq_getD_getElem?, lt]
    rw [List.filterMap_cons, e, List.map_cons, ← ih]
end
section
variable {P : Program} {w : World} {A : Around} {E : Value → Shared → Prop} {s : Shared}
theorem Tk.at {h h' : Heap} {q : List Key} {b : Addr} (x : Tk P w h q b) (e : h'.get? b = h.get? b) : Tk P w h' q b := by
  obtain ⟨o, its, n, ho, r⟩ := x
  exact ⟨o, its, n, e.trans ho, r⟩
theorem Tk.ne {h : Heap} {q : List Key} {a b : Addr} {o : Obj} {es : Array (Int × Value)} {ep : Nat} {t : SetTable} (x : Tk P w h q b) (ho : h.get? a = some o) (hd : o.data = .set es ep t) : b ≠ a := fun e => by
  obtain ⟨o', its, n, ho', _, hd', _⟩ := x
  rw [e, ho] at ho'
  cases ho'
  rw [hd] at hd'
  cases hd'
variable {a : Addr} {L : List (Addr × List Key)} {es : Array (Int × Value)} {ep : Nat} {t : SetTable}
/-- laid anew in a larger table -/
theorem widened {o : Obj} (ho : s.heap.get? a = some o) (hx : o.ExactSet) (hd : o.data = .set es ep t) (rows : es.toList = rws P w L) (T : TabOk t (L.map fun p => hq P w p.2)) (nd : (L.map (·.2)).Nodup) (tup : ∀ p ∈ L, Tk P w s.heap p.2 p.1)
    (few : L.length < 64) (fit : L.length ≤ t.mask) {n M : Nat} (h1 : SetTable.sizeAbove n - 1 = M) (h2 : MaskOk M) (h3 : SetTable.sizeAbove n ≤ 128) (h4 : L.length * 5 < M * 3) {Q : Unit → Shared → Prop}
    (g : ∀ h' L' es' ep' t', Heap.SameBut a s.heap h' → Set3 P w h' a L' es' ep' t' → L'.Perm L → Q () { s with heap := h' }) : wpAny (model P w) A (setRelay a n) Q E s := by
  have sz := rows_size rows
  obtain ⟨t', order, er, perm, T', em, _, _, _⟩ := relaid_ok t (hs := es.map (·.1)) (wanted := n) h1 h2 (by rw [Array.size_map, sz]; omega)
  rw [Array.size_map, sz] at perm
  have inn : ∀ i ∈ order.toList, i < L.length := fun i hi => List.mem_range.mp (perm.mem_iff.mp hi)
  have rows' : (order.filterMap (es[·]?)).toList = rws P w (pick L order.toList) := by
    have e1 : (order.filterMap (es[·]?)).toList = pick es.toList order.toList := by
      unfold pick
      rw [Array.toList_filterMap]
      congr 1
      funext i
      rw [Array.getElem?_toList]
    rw [e1, rows, rws, pick_map]; rfl
  have hashes : ((pick L order.toList).map fun p => hq P w p.2) = order.toList.map fun i => (es.map (·.1)).getD i 0 := by
    rw [← pick_getD (fun i hi => by rw [Array.size_map, sz]; exact inn i hi), ← pick_map]
    congr 1
    rw [Array.toList_map, rows, rws, List.map_map]; rfl
  rw [← hashes] at T'
  have pm := pick_perm perm
  have sz' : (order.filterMap (es[·]?)).size = es.size := by rw [rows_size rows', pm.length_eq, sz]
  rw [setRelay_eq]
  refine wpAny_bind (wpAny_setState_of ho hd (by rw [sz]; exact fits_of T (List.length_map ..) fit) ?_)
  dsimp only
  refine wp_if_neg (by rw [sizeLine_eq]; omega) ?_
  try refine wpAny_bind (wpAny_pure ?_)
  rw [er]
  dsimp only
  refine wpAny_bind (wp_if_neg (by rw [sz']; simp) ?_)
  try refine wpAny_bind (wpAny_pure ?_)
  refine wpAny_pure ?_
  dsimp only
  have sb : Heap.SameBut a s.heap (s.heap.update a (Obj.putSet (order.filterMap (es[·]?)) t')) := Heap.SameBut.update ..
  refine wpAny_storeSet_of ho hd (g _ (pick L order.toList) _ (ep + 1) t' sb ⟨⟨_, store_at ho hd, ⟨hx.1, hx.2.1, hx.2.2⟩, rfl⟩, rows', T', (pm.map (·.2)).nodup_iff.mpr nd, fun p hp => ?_, by rw [pm.length_eq, em]; exact h4, by rw [pm.length_eq]; exact few⟩ pm) (by rw [sz', sz, sizeLine_eq]; omega)
  have x := tup p (pm.mem_iff.mp hp)
  exact x.at (sb.2 _ (x.ne ho hd))
theorem Tab_same {t t2 : SetTable} {hs : List Int} (T : TabOk t hs) (h1 : t2.place = t.place) (h2 : t2.dummies = t.dummies) (h3 : t2.mask = t.mask) : TabOk t2 hs := by
  obtain ⟨a1, a2, a3, a4, a5, a6⟩ := T
  refine ⟨?_, ?_, ?_, ?_, ?_, ?_⟩
  · rw [h1]; exact a1
  · rw [h2]; exact a2
  · rw [h1]; exact a3
  · rw [h3]; exact a4
  · rw [h1, h3]; exact a5
  · rw [h1, h3]; exact a6
/-- one more item asked in -/
theorem added (R : Set3 P w s.heap a L es ep t) {b : Addr} {q : List Key} (ht : Tk P w s.heap q b) (hu : A.units < cLine) (few : L.length + 1 < 64) {Q : Bool → Shared → Prop}
    (g : ∀ c h' L' es' ep' t', Heap.SameBut a s.heap h' → Set3 P w h' a L' es' ep' t' → (q ∈ L.map (·.2) → L' = L) → (q ∉ L.map (·.2) → L'.Perm ((b, q) :: L)) → Q c { s with heap := h' }) :
    wpAny (model P w) A (setAddHashed a (.ref b) (hq P w q)) Q E s := by
  obtain ⟨o, ho, hx, hd⟩ := R.ob
  have sz := rows_size R.rows
  have rm := R.room
  unfold setAddHashed
  refine wpAny_holding ?_
  rw [show (100000 : Nat) = 99999 + 1 from rfl, setAddHashedIn_succ]
  refine wpAny_bind (wpAny_setState_of ho hd R.fits ?_)
  dsimp only
  refine wp_if_neg (by simp [byScan, Value.scannable]) ?_
  try refine wpAny_bind (wpAny_pure ?_)
  refine wpAny_bind (sought R ht hu (fun mem => ?_) fun K mem hK hB => ?_)
  · exact wpAny_pure (g false s.heap L es ep t (Heap.SameBut.refl a s.heap) R (fun _ => rfl) fun z => absurd mem z)
  dsimp only
  refine wpAny_bind (wpAny_setState_of ho hd R.fits ?_)
  dsimp only
  obtain ⟨p1, p2, p3, p4, _, _, _, _, p9⟩ := R.tab.put hK hB
  generalize way t.mask (hq P w q) K = j at p1 p2 p3 p4 p9 ⊢
  generalize t.put j = tp at p1 p3 p4 p9 ⊢
  obtain ⟨t1, k⟩ := tp
  dsimp only at p1 p3 p4 p9 ⊢
  rw [p1]
  generalize SetTable.below t.place j = k0 at p2 p3 ⊢
  have pm : (L.take k0 ++ (b, q) :: L.drop k0).Perm ((b, q) :: L) := by
    have z : (L.take k0 ++ (b, q) :: L.drop k0).Perm ((b, q) :: (L.take k0 ++ L.drop k0)) := List.perm_middle
    rw [List.take_append_drop] at z
    exact z
  have rows1 : (SetTable.insertAt es k0 (hq P w q, Value.ref b)).toList = rws P w (L.take k0 ++ (b, q) :: L.drop k0) := by
    rw [SetTable.toList_insertAt, R.rows]
    unfold rws
    rw [List.map_append, List.map_cons, List.map_take, List.map_drop]
  have tab1 : TabOk t1 ((L.take k0 ++ (b, q) :: L.drop k0).map fun p => hq P w p.2) := by
    rw [List.map_append, List.map_cons, List.map_take, List.map_drop]
    exact p3
  generalize SetTable.insertAt es k0 (hq P w q, Value.ref b) = es1 at rows1 ⊢
  generalize L.take k0 ++ (b, q) :: L.drop k0 = L1 at pm rows1 tab1
  have len1 : L1.length = L.length + 1 := pm.length_eq
  have nd1 : (L1.map (·.2)).Nodup := (pm.map (·.2)).nodup_iff.mpr (List.nodup_cons.mpr ⟨mem, R.nd⟩)
  have fill : t1.fill = L.length + 1 := by rw [p9, List.length_map]
  -- behind the question whether its hash is by value
  have rest : ∀ t2 : SetTable, t2.place = t1.place → t2.dummies = t1.dummies → t2.mask = t1.mask →
      wpAny (model P w) A (do
        storeSet a es1 t2
        if !false && t2.tooFull then setRelay a (SetTable.grown (es.size + 1))
        return true) Q E s := by
    intro t2 g1 g2 g3
    have tab2 := Tab_same tab1 g1 g2 g3
    have sz1 := rows_size rows1
    refine wpAny_bind (wpAny_storeSet_of ho hd ?_ (by rw [sz1, len1, sizeLine_eq]; omega))
    have sb : Heap.SameBut a s.heap (s.heap.update a (Obj.putSet es1 t2)) := Heap.SameBut.update ..
    have ho1 := store_at (es' := es1) (t' := t2) ho hd
    generalize s.heap.update a (Obj.putSet es1 t2) = h1 at sb ho1 ⊢
    have tup1 : ∀ p ∈ L1, Tk P w h1 p.2 p.1 := fun p hp => by
      rcases List.mem_cons.mp (pm.mem_iff.mp hp) with rfl | hp
      · exact ht.at (sb.2 _ (ht.ne ho hd))
      · have x := R.tup p hp
        exact x.at (sb.2 _ (x.ne ho hd))
    have fill2 : t2.fill = L.length + 1 := by
      have : t2.fill = t1.fill := by unfold SetTable.fill; rw [g1, g2]
      rw [this, fill]
    cases full : t2.tooFull with
    | true =>
      have ge : (L.length + 1) * 5 ≥ t2.mask * 3 := by
        have z := full
        unfold SetTable.tooFull at z
        rw [decide_eq_true_eq, fill2] at z
        exact z
      have which : (t.mask = 7 ∧ L.length = 4) ∨ (t.mask = 31 ∧ L.length = 18) := by
        rw [g3, p4] at ge
        rcases R.tab.mok with e | e | e
        · left; rw [e] at ge rm; exact ⟨e, by omega⟩
        · right; rw [e] at ge rm; exact ⟨e, by omega⟩
        · exfalso; rw [e] at ge; omega
      have go : ∀ M, SetTable.sizeAbove (SetTable.grown (L.length + 1)) - 1 = M → MaskOk M → SetTable.sizeAbove (SetTable.grown (L.length + 1)) ≤ 128 → (L.length + 1) * 5 < M * 3 →
          wpAny (model P w) A (setRelay a (SetTable.grown (L.length + 1))) (fun _ s' => wpAny (model P w) A (pure true) Q E s') E { s with heap := h1 } := fun M m1 m2 m3 m4 =>
        widened (s := { s with heap := h1 }) ho1 ⟨hx.1, hx.2.1, hx.2.2⟩ rfl rows1 tab2 nd1 tup1 (by rw [len1]; exact few) (by rw [len1, g3, p4]; rcases which with ⟨e, e2⟩ | ⟨e, e2⟩ <;> omega) m1 m2 m3 (by rw [len1]; exact m4)
          fun h2 L2 es2 ep2 t3 sb2 R2 pm2 => wpAny_pure (g true h2 L2 es2 ep2 t3 (sb.trans sb2) R2 (fun z => absurd z mem) fun _ => pm2.trans pm)
      first
        | (refine wpAny_bind ?_; refine wp_if_pos rfl ?_)
        | (refine wp_if_pos rfl ?_; refine wpAny_bind ?_)
      rw [sz]
      rcases which with ⟨_, e⟩ | ⟨_, e⟩
      · exact go 31 (by rw [e, size_20]) (.inr (.inl rfl)) (by rw [e, size_20]; decide) (by omega)
      · exact go 127 (by rw [e, size_76]) (.inr (.inr rfl)) (by rw [e, size_76]; decide) (by omega)
    | false =>
      have lt : ¬ (L.length + 1) * 5 ≥ t2.mask * 3 := by
        have z := full
        unfold SetTable.tooFull at z
        rw [decide_eq_false_iff_not, fill2] at z
        exact z
      have fin : Q true { s with heap := h1 } := g true h1 L1 es1 (ep + 1) t2 sb ⟨⟨_, ho1, ⟨hx.1, hx.2.1, hx.2.2⟩, rfl⟩, rows1, tab2, nd1, tup1, by rw [len1]; omega, by rw [len1]; exact few⟩ (fun z => absurd z mem) fun _ => pm
      first
        | exact wp_if_neg (by decide) (wpAny_pure fin)
        | exact wpAny_bind (wp_if_neg (by decide) (wpAny_pure (wpAny_pure fin)))
  have tail : ∀ c : Bool, wpAny (model P w) A (do
        storeSet a es1 (if c = true then t1 else { t1 with plain := false })
        if !false && (if c = true then t1 else { t1 with plain := false }).tooFull then setRelay a (SetTable.grown (es.size + 1))
        return true) Q E s := fun c => by
    cases c with
    | true => exact rest t1 rfl rfl rfl
    | false => exact rest { t1 with plain := false } rfl rfl rfl
  cases pl : t1.plain with
  | true =>
    first
      | exact wpAny_bind (wp_if_pos rfl (tk_hsh ht fun c => tail c))
      | exact wp_if_pos rfl (wpAny_bind (tk_hsh ht fun c => tail c))
  | false =>
    first
      | exact wpAny_bind (wp_if_neg (by decide) (wpAny_pure (tail true)))
      | exact wp_if_neg (by decide) (tail true)
end
end HSK

set_option Elab.async false
set_option linter.all false
set_option maxRecDepth 100000
set_option maxHeartbeats 4000000
namespace HSK
open PySem PySem.Spec PyProof.Rows L2
/-- what stands in the set behind the first i items -/
structure Met (ks : List (Addr × List Key)) (i : Nat) (L : List (Addr × List Key)) : Prop where
  sub : ∀ p ∈ L, p ∈ ks.take i
  all : ∀ p ∈ ks.take i, p.2 ∈ L.map (·.2)
  len : L.length ≤ i
theorem Met.none (ks : List (Addr × List Key)) : Met ks 0 [] := ⟨fun _ h => (nomatch h), fun p h => (by simp at h), Nat.le_refl _⟩
theorem take_snoc {α : Type} {l : List α} {i : Nat} {x : α} (h : l[i]? = some x) : l.take (i + 1) = l.take i ++ [x] := by
  rw [List.take_add_one, h]; rfl
theorem Met.next {ks L L' : List (Addr × List Key)} {i : Nat} {x : Addr × List Key} (m : Met ks i L) (h : ks[i]? = some x) (h1 : x.2 ∈ L.map (·.2) → L' = L) (h2 : x.2 ∉ L.map (·.2) → L'.Perm (x :: L)) : Met ks (i + 1) L' := by
  by_cases mem : x.2 ∈ L.map (·.2)
  · rw [h1 mem]
    refine ⟨fun p hp => ?_, fun p hp => ?_, Nat.le_succ_of_le m.len⟩
    · rw [take_snoc h]; exact List.mem_append_left _ (m.sub p hp)
    · rw [take_snoc h] at hp
      rcases List.mem_append.mp hp with z | z
      · exact m.all p z
      · rw [List.mem_singleton.mp z]; exact mem
  · have pm := h2 mem
    refine ⟨fun p hp => ?_, fun p hp => ?_, by rw [pm.length_eq]; exact Nat.succ_le_succ m.len⟩
    · rw [take_snoc h]
      rcases List.mem_cons.mp (pm.mem_iff.mp hp) with rfl | z
      · exact List.mem_append_right _ (List.mem_singleton.mpr rfl)
      · exact List.mem_append_left _ (m.sub p z)
    · rw [(pm.map (·.2)).mem_iff]
      rw [take_snoc h] at hp
      rcases List.mem_append.mp hp with z | z
      · exact List.mem_cons_of_mem _ (m.all p z)
      · rw [List.mem_singleton.mp z]; exact List.mem_cons_self
section
variable {P : Program} {w : World} {A : Around} {E : Value → Shared → Prop} {s : Shared}
theorem Set3.moved {h h' : Heap} {a : Addr} {L : List (Addr × List Key)} {es : Array (Int × Value)} {ep : Nat} {t : SetTable} (R : Set3 P w h a L es ep t) (ha : ∀ o, h.get? a = some o → h'.get? a = some o) (ht : ∀ p ∈ L, Tk P w h' p.2 p.1) : Set3 P w h' a L es ep t := by
  obtain ⟨o, ho, r⟩ := R.ob
  exact { R with ob := ⟨o, ha o ho, r⟩, tup := ht }
theorem fresh3 {h : Heap} {a : Addr} {lead : Bool} (ho : h.get? a = some { cls := .type "set", dict := none, data := .set #[] 0 (.fresh 0 0 lead) }) : Set3 P w h a [] #[] 0 (.fresh 0 0 lead) :=
  ⟨⟨_, ho, ⟨rfl, rfl, rfl⟩, rfl⟩, rfl, ⟨List.Pairwise.nil, rfl, rfl, .inl rfl, fun x hx => (nomatch hx), fun i h j hi => (by simp at hi)⟩, List.nodup_nil, fun p hp => (nomatch hp), by show 0 * 5 < 7 * 3; decide, by show 0 < 64; decide⟩
/-- the loop that asks the items in -/
theorem fill_loop {I : Addr} {fp wr : List Addr} {G : Array GenState → Array GenState → Prop} {n : Nat} {Pv : Nat → Value → Prop} {St : Nat → Shared → Prop} {R : Result → Shared → Prop}
    (W : WalksS P w A.in1 I fp wr G n Pv St) (a : Addr) (out : a ∉ fp) (ks : List (Addr × List Key)) (hn : n = ks.length) (few : ks.length < 64) (val : ∀ i v, Pv i v → ∃ p, ks[i]? = some p ∧ v = .ref p.1)
    (h0 : Heap) (tup : ∀ p ∈ ks, Tk P w h0 p.2 p.1) (new : h0.get? a = none) (neww : ∀ b ∈ wr, h0.get? b = none) (hu : A.in1.units < cLine) :
    ∀ (m i : Nat) (s : Shared), n - i = m → i ≤ n → St i s → (∀ b o, h0.get? b = some o → s.heap.get? b = some o) → (∃ L es ep t, Set3 P w s.heap a L es ep t ∧ Met ks i L) →
      (∀ s' L es ep t, Moved (a :: wr) G s s' → Set3 P w s'.heap a L es ep t → Met ks n L → (∀ b o, h0.get? b = some o → s'.heap.get? b = some o) → R (.ok (.ret .none)) s') →
      codeAny (model P w) A (.builtin "set.update.loop" ⟨[.ref a, .ref I], []⟩) R s := by
  have aw : a ∉ wr := fun z => out (W.sub _ z)
  have low : ∀ {s s' : Shared}, Moved wr G s s' → (∀ b o, h0.get? b = some o → s.heap.get? b = some o) → ∀ b o, h0.get? b = some o → s'.heap.get? b = some o := fun mv k b o e =>
    mv.heap b o (fun z => by rw [neww b z] at e; cases e) (k b o e)
  have at0 : ∀ {h : Heap} {p : Addr × List Key}, p ∈ ks → (∀ b o, h0.get? b = some o → h.get? b = some o) → Tk P w h p.2 p.1 := fun {h p} hp k => by
    obtain ⟨o, its, nn, ho, r⟩ := tup p hp
    exact ⟨o, its, nn, k _ o ho, r⟩
  intro m
  induction m with
  | zero =>
    intro i s hm hi st k ⟨L, es, ep, t, S, met⟩ done
    have e : i = n := by omega
    subst e
    refine codeAny_builtin F.entry_set_update_loop ?_
    rw [Around.under_plainId F.plain_set_update_loop _]
    show wpAny _ A.in1 (pyNext (.ref I) >>= _) _ _ s
    refine wpAny_bind (W.done s _ _ st fun s' mv => ?_)
    have k' := low mv k
    show wpAny _ A.in1 (ret Value.none) _ _ s'
    exact wpAny_pure (done s' L es ep t (mv.mono fun b hb => List.mem_cons_of_mem _ hb) (S.moved (fun o e => mv.heap a o aw e) fun p hp => at0 (List.mem_of_mem_take (met.sub p hp)) k') met k')
  | succ m ih =>
    intro i s hm hi st k ⟨L, es, ep, t, S, met⟩ done
    refine codeAny_builtin F.entry_set_update_loop ?_
    rw [Around.under_plainId F.plain_set_update_loop _]
    show wpAny _ A.in1 (pyNext (.ref I) >>= _) _ _ s
    refine wpAny_bind (W.item i s _ _ (by omega) st fun v s' hv st' mv => ?_)
    obtain ⟨p, hp, rfl⟩ := val i v hv
    have k' := low mv k
    have S' : Set3 P w s'.heap a L es ep t := S.moved (fun o e => mv.heap a o aw e) fun q hq => at0 (List.mem_of_mem_take (met.sub q hq)) k'
    have tp : Tk P w s'.heap p.2 p.1 := at0 (List.mem_of_getElem? hp) k'
    show wpAny _ A.in1 (holding [Value.ref p.1] (setAdd a (.ref p.1)) >>= _) _ _ s'
    refine wpAny_bind (wpAny_holding ?_)
    unfold setAdd
    refine wpAny_holding (wpAny_bind (wpAny_pyHash_tuple hu tp ?_))
    refine added (s := { s' with toks := s'.toks + (p.2.length + 1) }) S' tp hu (by have := met.len; omega) fun c h' L' es' ep' t' sb S2 c1 c2 => ?_
    have k2 : ∀ b o, h0.get? b = some o → h'.get? b = some o := fun b o e => (sb.2 b (fun z => by rw [z, new] at e; cases e)).trans (k' b o e)
    have keep : ∀ b, b ≠ a → h'.get? b = s'.heap.get? b := fun b z => sb.2 b z
    refine wpAny_pure ⟨plainId_quiet F.plain_set_update_loop _, ih (i + 1) _ (by omega) (by omega) (W.frame _ s' _ _ st' (Nat.le_add_right _ _) fun b hb o e => ?_) k2 ⟨L', es', ep', t', S2, met.next hp c1 c2⟩ fun s2 L2 es2 ep2 t2 mv2 S3 met2 k3 => ?_⟩
    · rw [keep b fun z => out (z ▸ hb)]; exact e
    · refine done s2 L2 es2 ep2 t2 (Moved.trans W.gtrans ((mv.mono fun b hb => List.mem_cons_of_mem _ hb).then_heap (Nat.le_add_right _ _) fun b o hb e => ?_) mv2) S3 met2 k3
      rw [keep b fun z => hb (z ▸ List.mem_cons_self)]; exact e
end
end HSK

set_option Elab.async false
set_option linter.all false
set_option maxRecDepth 100000
set_option maxHeartbeats 8000000
namespace HSK
open PySem PySem.Spec PyProof.Rows L2
section
variable {P : Program} {w : World} {A : Around} {E : Value → Shared → Prop} {s : Shared}
/-- set(list of such tuples) -/
theorem made {l : Addr} {items : Array Value} (ks : List (Addr × List Key)) {Q : Value → Shared → Prop} (hh : A.handled = none) (hl : s.heap.IsList l items) (hit : items.toList = ks.map fun p => Value.ref p.1)
    (tup : ∀ p ∈ ks, Tk P w s.heap p.2 p.1) (few : ks.length < 64) (hu : A.units + 3 < cLine)
    (g : ∀ (h' : Heap) (tk : Nat) L es ep t, Set3 P w h' s.heap.objs.size L es ep t → Met ks ks.length L → (∀ b o, s.heap.get? b = some o → h'.get? b = some o) → Q (.ref s.heap.objs.size) { s with heap := h', toks := tk }) :
    wpAny (model P w) A (call (.type "set") [.ref l]) Q E s := by
  have count : items.size = ks.length := by rw [← Array.length_toList, hit, List.length_map]
  generalize hnew : s.heap.objs.size = a at g ⊢
  obtain ⟨c, tl, mro⟩ := F.called_set.mro
  have made := F.called_set.made
  have sub := F.called_set.sub
  refine wpAny_call (codeAny_of_tree ?_)
  show wpAny _ _ (callAny (.type "set") _) _ _ _
  refine wpAny_pure ⟨Code.quiet_builtin _ (by decide +kernel), codeAny_builtin F.entry_type_call ?_⟩
  rw [Around.under_plain (weight_type_call_type "set" [.ref l] []) rfl]
  have nt := F.called_set.notType
  have cc := F.called_set.canCreate
  have tc := F.typeCall_set_1 (.ref l)
  repeat (any_goals (first | assumption | wp_step))
  generalize hob : ({ cls := .type "set", dict := none, data := .set #[] 0 (.fresh 0 0 (!w.params.followText "set-order")) } : Obj) = ob
  have psh : (s.heap.push ob).get? a = some ob := by rw [← hnew]; exact Heap.get?_push_size _ (by rw [← hob]; rfl)
  refine codeAny_mono (code_set_led1 (.ref l) (E := E) (Q₁ := fun v s1 => v = .ref a ∧ s1 = { s with heap := s.heap.push ob }) ⟨by rw [hnew], by rw [hob]⟩) fun r s1 hr => ?_
  cases r with
  | error e => exact hr
  | ok fl =>
    cases fl with
    | ret v =>
      obtain ⟨rfl, rfl⟩ := hr
      have ty : Shared.TypeIs { s with heap := s.heap.push ob } (.ref a) "set" := ⟨_, psh, by rw [← hob]⟩
      have li := F.called_set.init.lookup
      have bi := F.called_set.init.bind (.ref a)
      repeat (any_goals (first | assumption | wp_step))
      refine codeAny_mono (codeAny_call_builtin (R := wants (fun r s2 => r = .none ∧ ∃ h' tk L es ep t, s2 = { s with heap := h', toks := tk } ∧ Set3 P w h' a L es ep t ∧ Met ks ks.length L ∧ (∀ b o, s.heap.get? b = some o → h'.get? b = some o)) E)
        F.called_set.init.plain F.entry_set_init (check_set_init_1 ty ?_)) fun r2 s2 hr2 => ?_
      · have nl : ∀ b, a ≤ b → s.heap.get? b = none := fun b hb => by
          cases q : s.heap.get? b with
          | none => rfl
          | some o => exact absurd (Nat.lt_of_lt_of_le (Heap.lt_size q) (hnew ▸ hb)) (Nat.lt_irrefl _)
        have low : l < a := by
          obtain ⟨o, ho, _⟩ := id hl
          rw [← hnew]; exact Heap.lt_size ho
        have size1 : (s.heap.push ob).objs.size = a + 1 := by rw [Heap.size_push, hnew]
        obtain ⟨⟨oc, od, dt, sl⟩, ho, h1, m, h2⟩ := hl
        dsimp only at h1 h2
        subst h1
        subst h2
        have ho1 : (s.heap.push ob).get? l = some { cls := .type "list", dict := od, data := .seq items m, slots := sl } := Heap.get?_push_of_some _ ho
        have isl : (s.heap.push ob).IsList l items := ⟨_, ho1, rfl, m, rfl⟩
        have q1 := F.sub_list_set
        have q2 := F.sub_list_frozenset
        have q3 : (Value.type "list" == Value.type "dict") = false := by decide
        have ln : l ≠ (s.heap.push ob).objs.size := by rw [size1]; exact Nat.ne_of_lt (Nat.lt_succ_of_lt low)
        have out : a ∉ [(s.heap.push ob).objs.size, l] := by
          rw [size1]
          simp only [List.mem_cons, List.not_mem_nil, or_false, not_or]
          exact ⟨Nat.ne_of_lt (Nat.lt_succ_self _), Nat.ne_of_gt low⟩
        subst hob
        unfold Builtin.«set.__init__» noKeywords Builtin.Frozenset.updateFrom
        generalize hit2 : pyIter = it
        wp_walk
        subst hit2
        refine wpAny_pyIter_list isl ?_
        refine wpAny_bind (wpAny_runValue ?_)
        have calm : A.in1.in1.in1.handled = none := by simp [hh]
        have val : ∀ (i : Nat) (v : Value), items[i]? = some v → ∃ p, ks[i]? = some p ∧ v = .ref p.1 := fun i v hv => by
          have q : items.toList[i]? = some v := by rw [Array.getElem?_toList]; exact hv
          rw [hit, List.getElem?_map] at q
          obtain ⟨p, hp, e⟩ := Option.map_eq_some_iff.mp q
          exact ⟨p, hp, e.symm⟩
        refine fill_loop ((Walks.list calm _ l ln items).toS) a out ks count few val s.heap tup (nl a (Nat.le_refl _)) (fun b hb => nl b (by rw [List.mem_singleton.mp hb, size1]; exact Nat.le_succ _)) hu (items.size - 0) 0 _ (by omega) (Nat.zero_le _)
          ⟨⟨_, Heap.get?_push_size _ rfl, rfl, rfl⟩, isl.push _⟩ (fun b o e => Heap.get?_push_of_some _ (Heap.get?_push_of_some _ e)) ?start ?fin
        case start =>
          exact ⟨[], #[], 0, _, fresh3 (Heap.get?_push_of_some _ psh), Met.none ks⟩
        case fin =>
          rintro ⟨h', g2, d', tk', os'⟩ L es ep t mv S met k
          have e1 : g2 = s.gens := mv.gens
          have e2 : d' = s.drawn := mv.drawn
          have e3 : os' = s.os := mv.os
          subst e1
          subst e2
          subst e3
          show wpAny _ _ _ _ _ _
          refine wpAny_pure ?_
          show wpAny _ _ (ret Value.none) _ _ _
          rw [count] at met
          exact wpAny_pure ⟨rfl, h', tk', L, es, ep, t, rfl, S, met, k⟩
      · cases r2 with
        | error e => exact hr2
        | ok f2 =>
          cases f2 with
          | ret r =>
            obtain ⟨rfl, h', tk, L, es, ep, t, rfl, S, met, k⟩ := hr2
            repeat (any_goals (first | assumption | wp_step))
            exact g _ _ _ _ _ _ S met k
          | _ => exact hr2.elim
    | _ => exact hr.elim
end
end HSK

set_option Elab.async false
set_option linter.all false
set_option maxRecDepth 100000
set_option maxHeartbeats 4000000
namespace HSK
open PySem PySem.Spec PyProof.Rows L2
theorem items_of {P : Program} {w : World} : ∀ {q : List Key} {us : List Value}, Vals (q.map kV) us → ItemsAre (mixKind P w) q us
  | [], _, .nil => .nil
  | n :: q, _, .cons r t => .cons (kV_is r) (items_of t)
theorem refs_of : ∀ {ks : List (Addr × List Key)} {us : List Value}, Vals (ks.map fun p => V.ref p.1) us → us = ks.map fun p => Value.ref p.1
  | [], _, .nil => rfl
  | p :: ks, _, .cons r t => by
    cases (show _ = Value.ref p.1 from r)
    rw [refs_of t]; rfl
theorem le_of_sub {α : Type} [DecidableEq α] : ∀ (xs ys : List α), xs.Nodup → (∀ x ∈ xs, x ∈ ys) → xs.length ≤ ys.length
  | [], _, _, _ => Nat.zero_le _
  | x :: xs, ys, nd, sub => by
    have hx := sub x List.mem_cons_self
    obtain ⟨n1, n2⟩ := List.nodup_cons.mp nd
    have ih := le_of_sub xs (ys.erase x) n2 fun y hy => (List.mem_erase_of_ne (fun e => n1 (by rw [← e]; exact hy))).mpr (sub y (List.mem_cons_of_mem _ hy))
    rw [List.length_erase_of_mem hx] at ih
    have := List.length_pos_of_mem hx
    rw [List.length_cons]
    omega
theorem twice {α : Type} [DecidableEq α] : ∀ ys : List α, ¬ ys.Nodup → ∃ x, x ∈ ys ∧ x ∈ ys.erase x
  | [], h => absurd List.nodup_nil h
  | y :: ys, h => by
    by_cases hy : y ∈ ys
    · exact ⟨y, List.mem_cons_self, by rw [List.erase_cons_head]; exact hy⟩
    · have h2 : ¬ ys.Nodup := fun z => h (List.nodup_cons.mpr ⟨hy, z⟩)
      obtain ⟨x, h3, h4⟩ := twice ys h2
      have ne : ¬ (y == x) = true := fun e => hy (by rw [eq_of_beq e]; exact h3)
      exact ⟨x, List.mem_cons_of_mem _ h3, by rw [List.erase_cons_tail ne]; exact List.mem_cons_of_mem _ h4⟩
theorem same_count {α : Type} [DecidableEq α] (xs ys : List α) (nd : xs.Nodup) (s1 : ∀ x ∈ xs, x ∈ ys) (s2 : ∀ y ∈ ys, y ∈ xs) : xs.length = ys.length ↔ ys.Nodup := by
  have l1 := le_of_sub _ _ nd s1
  constructor
  · intro e
    apply Classical.byContradiction
    intro no
    obtain ⟨x, hx, hx2⟩ := twice _ no
    have l3 := le_of_sub xs (ys.erase x) nd fun y hy => by
      by_cases h : y = x
      · rw [h]; exact hx2
      · exact (List.mem_erase_of_ne h).mpr (s1 y hy)
    rw [List.length_erase_of_mem hx] at l3
    have pos := List.length_pos_of_mem hx
    omega
  · intro nk
    have l2 := le_of_sub _ _ nk s2
    omega
/-- how many different ones -/
def Sorts (ks : List (Addr × List Key)) (n : Nat) : Prop := ∃ L : List (Addr × List Key), (L.map (·.2)).Nodup ∧ L.length = n ∧ (∀ p ∈ L, p ∈ ks) ∧ ∀ p ∈ ks, p.2 ∈ L.map (·.2)
theorem sorts_all {ks : List (Addr × List Key)} {n : Nat} (h : Sorts ks n) : decide (n = ks.length) = decide ((ks.map (·.2)).Nodup) := by
  obtain ⟨L, nd, rfl, sub, all⟩ := h
  have s1 : ∀ k ∈ L.map (·.2), k ∈ ks.map (·.2) := fun k hk => by
    obtain ⟨p, hp, rfl⟩ := List.mem_map.mp hk
    exact List.mem_map.mpr ⟨p, sub p hp, rfl⟩
  have s2 : ∀ k ∈ ks.map (·.2), k ∈ L.map (·.2) := fun k hk => by
    obtain ⟨p, hp, rfl⟩ := List.mem_map.mp hk
    exact all p hp
  rw [Bool.eq_iff_iff, decide_eq_true_eq, decide_eq_true_eq]
  have z := same_count (L.map (·.2)) (ks.map (·.2)) nd s1 s2
  rw [List.length_map, List.length_map] at z
  exact z
/-- len(set(xs)), xs a list of tuples of ints and texts -/
def tLenSetQ (K : PySem.W.Frag) (ta : TE) : TE := fun σ H Q => ta σ H fun x H1 => ∃ (l : Addr) (ks : List (Addr × List Key)), x = V.ref l ∧ SqL K H1 l (ks.map fun p => V.ref p.1) ∧ (∀ p ∈ ks, SqT K H1 p.1 (p.2.map kV)) ∧ ks.length < 64 ∧
  ∀ n : Nat, Sorts ks n → Q (.int n) H1
theorem pe_lenSetQ {X : Cx} {a : Expr} {ta : TE} {p p2 q pos : Pos} (hc : X.calm = true) (hu : X.A.units + 64 < cLine) (hg : Gl X "len") (hm : X.mg "len" = none) (hg2 : Gl X "set") (hm2 : X.mg "set" = none) (ha : PE X a ta)
    (na : starEach [a] X.env = (false, eval a X.env) :: starEach [] X.env := by rfl) : PE X (.Call (.Name "len" p) [.Call (.Name "set" p2) [a] [] q] [] pos) (tLenSetQ X.K ta) := by
  refine ⟨fun pins s σ H Q I h => ?_⟩
  refine Call_ (ld_blt I hg hm PySem.boot_len (PyProof.Rows.callWith_builtin1 (PyProof.Rows.args_cons ?_ rfl) rfl rfl))
  refine Call_ (ld_blt I hg2 hm2 PyProof.Rows.boot_set (PyProof.Rows.callWith_type1 (PyProof.Rows.args_cons (thn (ha.run pins s σ H _ I h) fun v s1 ⟨x, H1, I1, r1, q1⟩ => PyProof.Rows.args_nil ?_) na) na rfl))
  obtain ⟨l, ks, rfl, hl, ht, few, q1⟩ := q1
  cases r1
  obtain ⟨its, rv, pl, _⟩ := I1.list hl
  have tup : ∀ p ∈ ks, Tk X.prog X.w s1.heap p.2 p.1 := fun p hp => by
    obtain ⟨us, r, ⟨o, ho, hcl, n, hd⟩, _⟩ := I1.tuple (ht p hp)
    exact ⟨o, us.toArray, n, ho, hcl, hd, by simpa using items_of r⟩
  refine made ks (I1.ok.hd hc) pl.isList (by simpa using refs_of rv) tup few (by omega) fun h' tk L es ep t S met k => ?_
  refine PyProof.Rows.args_nil ?_
  obtain ⟨o, ho, hx, hd⟩ := S.ob
  have I2 : Inv X pins σ H1 { s1 with heap := h', toks := tk } := I1.kept k
  have sz := rows_size S.rows
  have fits : t.fits es.size = true := Set3.fits (s := { s1 with heap := h', toks := tk }) S
  have l64 := S.few
  refine call_len_set ho hx hd fits (by rw [sz]; omega) ⟨.int L.length, H1, I2.tok _, ⟨_, by rw [sz]⟩, q1 _ ⟨L, S.nd, rfl, fun p hp => ?_, fun p hp => ?_⟩⟩
  · exact List.mem_of_mem_take (met.sub p hp)
  · exact met.all p (by rw [List.take_length]; exact hp)
end HSK

set_option Elab.async false
set_option linter.all false
set_option maxRecDepth 100000
set_option maxHeartbeats 4000000
namespace KA
open PySem PySem.Spec PyProof.Rows L2 LF
open Evl (Ev EvL EvU EvT EvA EvO Ex sq_of st_of)
def lbad (ds : List PyData) (i : Nat) : Bool := (decide (kindOf (ds.getD i .none) = "make") && decide (0 < i)) || (decide (kindOf (ds.getD i .none) = "drop") && decide (i + 1 < ds.length))
theorem links_snoc {ds : List PyData} {i : Nat} (hi : i < ds.length) : linksOf (ds.take (i + 1)) = linksOf (ds.take i) ++ (if kindOf (ds.getD i .none) = "turn" then [keyOf (ds.getD i .none)] else []) := by
  have e : ds.getD i .none = ds[i] := by rw [List.getD_eq_getElem?_getD, List.getElem?_eq_getElem hi]; rfl
  rw [e]
  unfold linksOf
  rw [List.take_add_one, List.filterMap_append, List.getElem?_eq_getElem hi]
  congr 1
  by_cases hk : kindOf ds[i] = "turn"
  · simp [hk]
  · simp [hk]
theorem links_nodup (ds : List PyData) : ∀ n, n ≤ ds.length → ((linksOf (ds.take n)).Nodup ↔ ∀ i, i < n → (decide (kindOf (ds.getD i .none) = "turn") && ((linksOf (ds.take i)).any fun k => decide (k = keyOf (ds.getD i .none)))) = false)
  | 0, _ => by
    rw [List.take_zero]
    exact ⟨fun _ i hi => absurd hi (Nat.not_lt_zero i), fun _ => List.nodup_nil⟩
  | n + 1, h => by
    have ih := links_nodup ds n (by omega)
    rw [links_snoc (by omega)]
    by_cases hk : kindOf (ds.getD n .none) = "turn"
    · rw [if_pos hk, List.nodup_append]
      constructor
      · rintro ⟨h1, _, h2⟩ i hi
        rcases Nat.lt_succ_iff_lt_or_eq.mp hi with hi | rfl
        · exact ih.mp h1 i hi
        · rw [decide_eq_true hk, Bool.true_and]
          refine List.any_eq_false.mpr fun k hkm => ?_
          have := h2 k hkm _ (List.mem_singleton.mpr rfl)
          simpa using this
      · intro hall
        refine ⟨ih.mpr fun i hi => hall i (by omega), List.nodup_cons.mpr ⟨List.not_mem_nil, List.nodup_nil⟩, fun k hkm k' hk' => ?_⟩
        rw [List.mem_singleton.mp hk']
        have := hall n (by omega)
        rw [decide_eq_true hk, Bool.true_and] at this
        have := List.any_eq_false.mp this k hkm
        simpa using this
    · rw [if_neg hk, List.append_nil]
      constructor
      · intro h1 i hi
        rcases Nat.lt_succ_iff_lt_or_eq.mp hi with hi | rfl
        · exact ih.mp h1 i hi
        · rw [decide_eq_false hk, Bool.false_and]
      · exact fun hall => ih.mpr fun i hi => hall i (by omega)
theorem str_law (es : List (Option PyData)) : strD (some es) = (es.all (elG deedD) && (((List.range es.length).all fun i => !lbad (es.map (·.getD .none)) i) && decide (linksOf (es.map (·.getD .none))).Nodup)) := by
  unfold strD
  dsimp only
  congr 1
  generalize hds : es.map (·.getD .none) = ds
  have hl : ds.length = es.length := by rw [← hds, List.length_map]
  have z := links_nodup ds ds.length (Nat.le_refl _)
  rw [List.take_length] at z
  rw [Bool.eq_iff_iff, Bool.and_eq_true, decide_eq_true_eq, z, List.all_eq_true, List.all_eq_true, ← hl]
  have e : ∀ i, badAt ds i = (lbad ds i || (decide (kindOf (ds.getD i .none) = "turn") && ((linksOf (ds.take i)).any fun k => decide (k = keyOf (ds.getD i .none))))) := fun i => by
    unfold badAt lbad; rw [Bool.or_assoc]
  constructor
  · intro h
    refine ⟨fun i hi => ?_, fun i hi => ?_⟩
    · have := h i hi
      rw [e, Bool.not_or, Bool.and_eq_true] at this
      exact this.1
    · have := h i (List.mem_range.mpr hi)
      rw [e, Bool.not_or, Bool.and_eq_true] at this
      exact (Bool.not_eq_true' _).mp this.2
  · rintro ⟨h1, h2⟩ i hi
    have a1 := h1 i hi
    have a2 := h2 i (List.mem_range.mp hi)
    rw [e, a2, Bool.or_false]
    exact a1
abbrev s__law_is_straight : Stmt := topS 31
abbrev N__law_is_straight : List Str := ["_law_thing", "_law_deed", "_law_at", "_law_links"]
theorem sc__law_is_straight : FnScope ["_law_thing", "_law_deed", "_law_at", "_law_links"] ["_law_thing"] (defScope s__law_is_straight) := ⟨rfl, rfl, rfl, by decide +kernel, rfl, by decide +kernel, by decide +kernel⟩
section
variable {P : Program} {w : World} {K : PySem.W.Frag} {mg : Str → Option Value} {base : Heap} {tk1 tk2 tj tn : Tok}
theorem opq_ldeed {f f1 f2 f3 f4 : Addr} {fd fd1 fd2 fd3 fd4 : FuncData} (F : Fun K "_law_is_deed" "_law_is_deed" s__law_is_deed f fd) (T : Txt K mg tk1 tk2) (d__law_is_number : DefAt P w K mg base "_law_is_number" 1 f1 fd1 ["_law_thing"] (spD jtD))
    (d__law_is_word : DefAt P w K mg base "_law_is_word" 1 f2 fd2 ["_law_thing"] (spName K)) (d__law_is_target : DefAt P w K mg base "_law_is_target" 2 f3 fd3 ["_law_thing"] (spD tgD)) (d__law_rows_right : DefAt P w K mg base "_law_rows_right" 3 f4 fd4 ["_law_thing"] (spD lrowD)) (G : FnOk P w K mg base CX0 4 f fd ["_law_thing"] (spD ldeedD)) : FnOk P w K mg base CX0 4 f fd ["_law_thing"] (spE deedD) := by
  have G2 : FnOk P w K mg base CX0 4 f fd ["_law_thing"] (fun vs H Q _ => ∃ x, vs = [x] ∧ Opq H x ∧ ∀ H', Ex H H' → Q (.bl false) H') := by
    refine F.ok sc__law_is_deed (fun vs H Q E h => ?_) (fun cdv A outer s H vs Q E hr h => ?_)
    · obtain ⟨x, rfl, _⟩ := h
      rfl
    have hu := hr.units
    refine ⟨_, (pss_cons (ps_if (PW.pt (pw_or (pt_not (pt_val (pe_callB call_isi (by rfl) T.n_isinstance (by decide +kernel) (pa_cons (pv 0) (pa_cons (pe_bltn (v := .ty "tuple") (by rfl) T.n_tuple (by decide +kernel) rfl) pa_nil))))) (pw_or (pt_cmpR op_notIn_seq (pe_callB call_len_seq (by rfl) T.n_len (by decide +kernel) (pa_cons (pv 0) pa_nil)) (pe_tup (pa_cons pe_int (pa_cons pe_int pa_nil))) (by rfl)) (pw_or1 (pt_not (pt_val (pe_callB call_isi (by rfl) T.n_isinstance (by decide +kernel) (pa_cons (pe_ix ix_tup (pv 0) pe_int (fun _ _ => rfl)) (pa_cons (pe_bltn (v := .ty "str") (by rfl) T.n_str (by decide +kernel) rfl) pa_nil))))))))) (pss_one (ps_ret pe_bl)) pss_nil)
    (pss_cons (ps_if (PW.pt (pw_and (pt_cmpR op_eq (pe_ix ix_tup (pv 0) pe_int (fun _ _ => rfl)) pe_str (nomark _)) (pw_and1 (pt_cmpR op_eq (pe_callB call_len_seq (by rfl) T.n_len (by decide +kernel) (pa_cons (pv 0) pa_nil)) pe_int (nomark _))))) (pss_one (ps_ret (pe_callD d__law_rows_right (hr.mono (by decide)) (pa_cons (pe_ix ix_tup (pv 0) pe_int (fun _ _ => rfl)) pa_nil)))) pss_nil)
    (pss_cons (ps_if (PW.pt (pw_and (pt_cmpR op_eq (pe_ix ix_tup (pv 0) pe_int (fun _ _ => rfl)) pe_str (nomark _)) (pw_and1 (pt_cmpR op_eq (pe_callB call_len_seq (by rfl) T.n_len (by decide +kernel) (pa_cons (pv 0) pa_nil)) pe_int (nomark _))))) (pss_cons (ps_if (PW.pt (pw_or (pt_not (pt_val (pe_callB call_isi (by rfl) T.n_isinstance (by decide +kernel) (pa_cons (pe_ix ix_tup (pv 0) pe_int (fun _ _ => rfl)) (pa_cons (pe_bltn (v := .ty "tuple") (by rfl) T.n_tuple (by decide +kernel) rfl) pa_nil))))) (pw_or (pt_cmpR (op_eqQ hu) (pe_ix ix_tup (pv 0) pe_int (fun _ _ => rfl)) (pe_tup pa_nil) (nomark _)) (pw_or1 (pt_not (pt_val (pe_callB (cr_all rfl) (by rfl) T.n_all (by decide +kernel) (pa_cons (pe_lc (own := [("_law_one", 1)]) rfl sc__law_is_deed.nd (pi_tup (pe_ix ix_tup (pv 0) pe_int (fun _ _ => rfl))) (blkOk_by (N := N__law_is_deed) (sc := defScope s__law_is_deed) (by decide +kernel)) (fun _ _ _ _ _ => pg_name (i := 1) sc__law_is_deed.nd rfl (Or.inl rfl)) (fun _ _ _ _ _ => pts_nil) (fun _ _ _ _ _ => (pe_callD d__law_is_number (hr.mono (by decide)) (pa_cons (pv 1) pa_nil)))) pa_nil)))))))) (pss_one (ps_ret pe_bl)) pss_nil)
    (pss_one (ps_ret (pe_callB (cr_all rfl) (by rfl) T.n_all (by decide +kernel) (pa_cons (pe_lc (own := [("_law_a", 2), ("_law_b", 3)]) rfl sc__law_is_deed.nd (RZ.pi_zipA (by rfl) T.n_zip (pa_cons (pe_ix ix_tup (pv 0) pe_int (fun _ _ => rfl)) (pa_cons (pe_slice sl_tupA (pe_ix ix_tup (pv 0) pe_int (fun _ _ => rfl)) (po_some pe_int) po_none) pa_nil))) (blkOk_by (N := N__law_is_deed) (sc := defScope s__law_is_deed) (by decide +kernel)) (fun _ _ _ _ _ => (show PG _ _ (gTup K 2 (gCons (gName 2) (gCons (gName 3) gNil))) from pg_tup rfl (pgs_cons (pg_name (i := 2) sc__law_is_deed.nd rfl (Or.inl rfl)) (pgs_cons (pg_name (i := 3) sc__law_is_deed.nd rfl (Or.inl rfl)) pgs_nil)))) (fun _ _ _ _ _ => pts_nil) (fun _ _ _ _ _ => (pe_cmpR op_ltV (pv 2) (pv 3) (nomark _)))) pa_nil))))) pss_nil)
    (pss_cons (ps_if (PW.pt (pw_or (pt_cmpR op_ne (pe_ix ix_tup (pv 0) pe_int (fun _ _ => rfl)) pe_str (nomark _)) (pw_or (pt_cmpR op_ne (pe_callB call_len_seq (by rfl) T.n_len (by decide +kernel) (pa_cons (pv 0) pa_nil)) pe_int (nomark _)) (pw_or (pt_val (pe_callB call_isi (by rfl) T.n_isinstance (by decide +kernel) (pa_cons (pe_ix ix_tup (pv 0) pe_int (fun _ _ => rfl)) (pa_cons (pe_bltn (v := .ty "bool") (by rfl) T.n_bool (by decide +kernel) rfl) pa_nil)))) (pw_or1 (pt_not (pt_val (pe_callB call_isi (by rfl) T.n_isinstance (by decide +kernel) (pa_cons (pe_ix ix_tup (pv 0) pe_int (fun _ _ => rfl)) (pa_cons (pe_bltn (v := .ty "int") (by rfl) T.n_int (by decide +kernel) rfl) pa_nil)))))))))) (pss_one (ps_ret pe_bl)) pss_nil)
    (pss_cons (ps_if (pt_cmpR op_eq (pe_ix ix_tup (pv 0) pe_int (fun _ _ => rfl)) (pe_un un_neg pe_int) (nomark _)) (pss_one (ps_ret (pe_and (pe_callB call_isi (by rfl) T.n_isinstance (by decide +kernel) (pa_cons (pe_ix ix_tup (pv 0) pe_int (fun _ _ => rfl)) (pa_cons (pe_bltn (v := .ty "str") (by rfl) T.n_str (by decide +kernel) rfl) pa_nil))) (pe_and (pe_cmpR op_eq (pe_ix ix_tup (pv 0) pe_int (fun _ _ => rfl)) pe_str (nomark _)) (pe_one (pe_callD d__law_is_number (hr.mono (by decide)) (pa_cons (pe_ix ix_tup (pv 0) pe_int (fun _ _ => rfl)) pa_nil))))))) pss_nil)
    (pss_one (ps_ret (pe_and (pe_cmpR op_ge (pe_ix ix_tup (pv 0) pe_int (fun _ _ => rfl)) pe_int (nomark _)) (pe_and (pe_callD d__law_is_word (hr.mono (by decide)) (pa_cons (pe_ix ix_tup (pv 0) pe_int (fun _ _ => rfl)) pa_nil)) (pe_one (pe_or (pe_cmpR op_isN (pe_ix ix_tup (pv 0) pe_int (fun _ _ => rfl)) pe_non (nomark _)) (pe_one (pe_callD d__law_is_target (hr.mono (by decide)) (pa_cons (pe_ix ix_tup (pv 0) pe_int (fun _ _ => rfl)) pa_nil)))))))))))))), ?_⟩
    obtain ⟨x, rfl, hx, hq⟩ := h
    have c0 : Ev (tCB (rIsi K) (tCons (tVar 0) (tCons (tC (.ty "tuple")) tNil))) [some x, none, none, none] H (.bl false) := by
      refine Evl.ev_cb (vs := [x, .ty "tuple"]) (Evl.ea_cons (Evl.ev_var rfl) (Evl.ea_cons Evl.ev_c Evl.ea_nil)) fun H1 e Q q => ?_
      obtain ⟨t, h1, h2⟩ := (hx.same e).ty (K := K)
      exact ⟨_, .ty "tuple", _, _, false, rfl, .ty _, h1, h2, q H1 (Ex.refl H1)⟩
    refine Evl.q_when (Evl.et_or (b := false) (Evl.et_not (Evl.et_B c0)) fun h => nomatch h) (fun _ H1 e1 => ?_) (fun h => nomatch h)
    exact Evl.s_ret Evl.ev_c fun H2 e2 => hq H2 (e1.trans e2)
  have e : ldeedD = deedD := funext ldeed_eq
  rw [e] at G
  exact FnOk.or G G2
/-- what the comprehension has gathered: new pairs, their keys -/
def Gat (H : Hp) (ks : List (Addr × List Key)) : Prop := ∀ p ∈ ks, H p.1 = some (.tup (p.2.map kV))
theorem ok__law_is_straight {f f1 : Addr} {fd fd1 : FuncData} (F : Fun K "_law_is_straight" "_law_is_straight" s__law_is_straight f fd) (T : Txt K mg tk1 tk2) (d__law_is_deed : DefAt P w K mg base "_law_is_deed" 4 f1 fd1 ["_law_thing"] (spE deedD)) :
    FnOk P w K mg base CX0 5 f fd ["_law_thing"] spStr := by
  refine F.ok sc__law_is_straight (fun vs H Q E h => ?_) (fun cdv A outer s H vs Q E hr h => ?_)
  · obtain ⟨x, o, rfl, _⟩ := h
    rfl
  have hu := hr.units
  refine ⟨_, (pss_cons (ps_if (PW.pt (pw_or (pt_not (pt_val (pe_callB call_isi (by rfl) T.n_isinstance (by decide +kernel) (pa_cons (pv 0) (pa_cons (pe_bltn (v := .ty "list") (by rfl) T.n_list (by decide +kernel) rfl) pa_nil))))) (pw_or1 (pt_not (pt_val (pe_callB (cr_all rfl) (by rfl) T.n_all (by decide +kernel) (pa_cons (pe_lc (own := [("_law_deed", 1)]) rfl sc__law_is_straight.nd (pi_list (pv 0)) (blkOk_by (N := N__law_is_straight) (sc := defScope s__law_is_straight) (by decide +kernel)) (fun _ _ _ _ _ => pg_name (i := 1) sc__law_is_straight.nd rfl (Or.inl rfl)) (fun _ _ _ _ _ => pts_nil) (fun _ _ _ _ _ => (pe_callD d__law_is_deed (hr.mono (by decide)) (pa_cons (pv 1) pa_nil)))) pa_nil))))))) (pss_one (ps_ret pe_bl)) pss_nil)
    (pss_cons (ps_for PassesOwn.never rfl (pi_enum (by rfl) T.n_enumerate (pa_cons (pv 0) pa_nil)) (pg_tup (by rfl) (pgs_cons (pg_name (i := 2) sc__law_is_straight.nd rfl (Or.inl rfl)) (pgs_cons (pg_name (i := 1) sc__law_is_straight.nd rfl (Or.inl rfl)) pgs_nil))) (pss_one (ps_if (PW.pt (pw_or (PW.pt (pw_and (pt_cmpR op_eq (pe_ix ix_tup (pv 1) pe_int (fun _ _ => rfl)) pe_str (nomark _)) (pw_and1 (pt_cmpR op_gt (pv 2) pe_int (nomark _))))) (pw_or1 (PW.pt (pw_and (pt_cmpR op_eq (pe_ix ix_tup (pv 1) pe_int (fun _ _ => rfl)) pe_str (nomark _)) (pw_and1 (pt_cmpR op_lt (pe_op op_add (pv 2) pe_int) (pe_callB call_len_seq (by rfl) T.n_len (by decide +kernel) (pa_cons (pv 0) pa_nil)) (nomark _)))))))) (pss_one (ps_ret pe_bl)) pss_nil)))
    (pss_cons (ps_setLc (i := 3) (own := [("_law_deed", 1)]) rfl sc__law_is_straight.nd rfl rfl (sw_true rfl rfl rfl (by decide +kernel)) (pi_list (pv 0)) (blkOk_by (N := N__law_is_straight) (sc := defScope s__law_is_straight) (by decide +kernel)) (fun _ _ _ _ _ => pg_name (i := 1) sc__law_is_straight.nd rfl (Or.inl rfl)) (fun _ _ _ _ _ => (pts_one (pt_cmpR op_eq (pe_ix (show IxR _ (rIxT K) from ix_tup) (pv 1) pe_int (fun _ _ => rfl)) pe_str (nomark _)))) (fun _ _ _ _ _ => (pe_slice (show SlR _ (rSlT K) from sl_tup) (pv 1) (po_some pe_int) (po_some pe_int))))
    (pss_one (ps_ret (pe_cmpR op_eq (HSK.pe_lenSetQ rfl hu (by rfl) T.n_len (by rfl) T.n_set (pv 3)) (pe_callB call_len_seq (by rfl) T.n_len (by decide +kernel) (pa_cons (pv 3) pa_nil)) (nomark _))))))), ?_⟩
  obtain ⟨x, o, rfl, hx, hq⟩ := h
  have v0 : Ev (tVar 0) [some x, none, none, none] H x := Evl.ev_var rfl
  cases o with
  | none =>
    refine Evl.q_when (Evl.et_or (b := false) (Evl.et_not (Evl.et_B (hx.isi v0))) fun h => nomatch h) (fun _ H1 e1 => ?_) (fun h => nomatch h)
    exact Evl.s_ret Evl.ev_c fun H2 e2 => hq H2 (e1.trans e2)
  | some es =>
  have hx' := hx
  obtain ⟨a, xs, rfl, ha, hel, hz⟩ := hx'
  have hlen := hel.len
  rw [str_law] at hq
  refine Evl.q_when (Evl.et_or (Evl.et_not (Evl.et_B (hx.isi v0))) fun _ => Evl.et_not (Evl.et_B (ev_allE (K := K) (j := 1) (elG deedD) v0 ha hel hz fun x o H1 e1 ho _ => ev_callE (E := E0) (Evl.ev_var rfl) ho))) (fun h1 H1 e1 => ?_) (fun h1 H1 e1 => ?_)
  · refine Evl.s_ret Evl.ev_c fun H2 e2 => ?_
    have h2 : es.all (elG deedD) = false := by simpa using h1
    have := hq H2 (e1.trans e2)
    rw [h2] at this
    exact this
  have hall : es.all (elG deedD) = true := by simpa using h1
  rw [hall, Bool.true_and] at hq
  generalize hds : es.map (·.getD .none) = ds at *
  have hdl : ds.length = xs.length := by rw [← hds, List.length_map, hlen]
  have hdeed : ∀ i (hi : i < ds.length), es[i]? = some (some ds[i]) ∧ deedD ds[i] = true := by
    intro i hi
    have hi' : i < es.length := by omega
    have hm := List.all_eq_true.mp hall _ (List.getElem_mem hi')
    have e : ds[i] = (es[i]).getD .none := by simp [← hds]
    cases hc : es[i] with
    | none => rw [hc] at hm; cases hm
    | some d =>
      rw [hc] at hm e
      rw [List.getElem?_eq_getElem hi', hc, e]
      exact ⟨rfl, hm⟩
  have hap : ∀ H', Ex H1 H' → H' a = some (.lst xs) := fun H' e => e _ _ (e1 _ _ ha)
  have hat : ∀ i (hi : i < ds.length) H', Ex H1 H' → ∃ y d, xs[i]? = some y ∧ ds.getD i .none = d ∧ ds[i] = d ∧ Dq H' y d ∧ deedD d = true := by
    intro i hi H' e
    obtain ⟨he, hde⟩ := hdeed i hi
    obtain ⟨y, hy, hyd⟩ := hel.get' i he
    exact ⟨y, ds[i], hy, by rw [List.getD_eq_getElem?_getD, List.getElem?_eq_getElem hi]; rfl, rfl, Dq.same (e1.trans e) _ _ hyd, hde⟩
  have bad : ∀ i, i < ds.length → lbad ds i = true → ∀ H', Ex H1 H' → Q (.bl false) H' := fun i hi hb H' e => by
    have := hq H' (e1.trans e)
    rw [List.all_eq_false.mpr ⟨i, List.mem_range.mpr (by omega), by rw [hb]; decide⟩] at this
    exact this
  refine ⟨.ref a, rfl, a, xs, rfl, sq_of (hap _ (Ex.refl H1)), ?_⟩
  refine for_it walk_enum (fun i σ H' => (∃ v1 v2, σ = [some (V.ref a), v1, v2, none]) ∧ Ex H1 H' ∧ ∀ j, j < i → lbad ds j = false) ⟨⟨_, _, rfl⟩, Ex.refl H1, fun j hj => absurd hj (Nat.not_lt_zero j)⟩ (fun i σ H' _ p => sq_of (hap _ p.2.1)) ?_ ?_
  · rintro i v σ H2 H2' hi ⟨⟨v1, v2, rfl⟩, e2, hgood⟩ ⟨T0, n, x, rfl, hT, rfl, hn, hx⟩
    cases (show some (V.int (i : Nat)) = some n from hn)
    have hi' : i < ds.length := by omega
    have e2' : Ex H1 (upd H2 T0 (.tup [.int (i : Nat), x])) := e2.trans (Ex.new hT)
    obtain ⟨y, d, hy, hgd, _, hyd, hde⟩ := hat i hi' _ e2'
    have hyx : y = x := Option.some.inj (hy.symm.trans hx)
    subst hyx
    obtain ⟨ft, fl, fs, fk⟩ := deed_facts hde
    refine ⟨T0, [.int (i : Nat), y], rfl, st_of upd_same, rfl, .int (i : Nat), [y], rfl, y, [], rfl, rfl, ?_⟩
    generalize upd H2 T0 (.tup [.int (i : Nat), y]) = H3 at e2' hyd
    show tIfS _ _ _ _ [some (V.ref a), some y, some (V.int (i : Nat)), none] H3
    have w1 : ∀ H', Ex H3 H' → EvD (tVar 1) [some (V.ref a), some y, some (V.int (i : Nat)), none] H' d := fun H' e => evd_var rfl (Dq.same e _ _ hyd)
    have k0 : ∀ H', Ex H3 H' → Ev (tOp (rIxT K) (tVar 1) (tC (.int 0))) [some (V.ref a), some y, some (V.int (i : Nat)), none] H' (.str (kindOf d)) := fun H' e => (evd_atT (K := K) (i := 0) (w1 H' e) ft (by omega) Evl.ev_c).strE fs
    have a2 : ∀ H', Ev (tVar 2) [some (V.ref a), some y, some (V.int (i : Nat)), none] H' (.int (i : Nat)) := fun H' => Evl.ev_var rfl
    have r3 := Ex.refl H3
    refine Evl.s_when (b := lbad ds i) (Evl.et_is (Evl.et_or (Evl.et_and (Evl.et_test (ev_eqS (k0 H3 r3) Evl.ev_c)) fun _ => Evl.et_test (Evl.ev_op (a2 H3) Evl.ev_c (Evl.rv_I0 (g := fun i j => .bl (decide (j < i))) (j := 0))))
      fun _ => Evl.et_and (Evl.et_test (ev_eqS (k0 H3 r3) Evl.ev_c)) fun _ => Evl.et_test (Evl.ev_op (Evl.ev_op (a2 H3) Evl.ev_c (Evl.rv_I0 (g := fun i j => .int (i + j)) (j := 1))) (ev_lenX (K := K) (Evl.ev_var rfl) (hap _ e2')) (Evl.rv_I0 (g := fun i j => .bl (decide (i < j)))))) ?_) (fun hb H4 e4 => ?_) (fun hb H4 e4 => ?_)
    · unfold lbad
      rw [hgd]
      congr 2
      · rw [Bool.eq_iff_iff, decide_eq_true_eq, decide_eq_true_eq]; omega
      · rw [Bool.eq_iff_iff, decide_eq_true_eq, decide_eq_true_eq]; omega
    · exact Evl.s_ret Evl.ev_c fun H5 e5 => bad i hi' hb H5 (e2'.trans (e4.trans e5))
    · refine ⟨⟨_, _, rfl⟩, e2'.trans e4, fun j hj => ?_⟩
      rcases Nat.lt_succ_iff_lt_or_eq.mp hj with hj | rfl
      · exact hgood j hj
      · exact hb
  rintro σ H2 ⟨⟨v1, v2, rfl⟩, e2, hgood⟩
  have hlb : ((List.range es.length).all fun i => !lbad ds i) = true := List.all_eq_true.mpr fun i hi => by rw [hgood i (by have := List.mem_range.mp hi; omega)]; rfl
  rw [hlb, Bool.true_and] at hq
  -- the links
  refine ⟨.ref a, rfl, a, rfl, ⟨xs, sq_of (hap _ e2)⟩, fun Dl hD => ?_⟩
  refine lc_it walk_list (fun i H' => Ex H2 H' ∧ ∃ ks, H' Dl = some (.lst (ks.map fun p => V.ref p.1)) ∧ Gat H' ks ∧ ks.map (·.2) = linksOf (ds.take i)) ⟨Ex.new hD, [], upd_same, (fun p hp => (nomatch hp)), by rw [List.take_zero]; rfl⟩ (fun i H' _ p => sq_of (hap _ (e2.trans p.1))) ?_ ?_
  · rintro i x H3 H3' hi ⟨e3, ks, hks, hg, hkl⟩ ⟨rfl, hx⟩
    have hi' : i < ds.length := by omega
    have e13 := e2.trans e3
    obtain ⟨y, d, hy, hgd, _, hyd, hde⟩ := hat i hi' _ e13
    have hyx : y = x := Option.some.inj (hy.symm.trans hx)
    subst hyx
    obtain ⟨ft, fl, fs, fk⟩ := deed_facts hde
    have small : ks.length ≤ 60 := by
      have l1 : (ks.map (·.2)).length = (linksOf (ds.take i)).length := by rw [hkl]
      rw [List.length_map] at l1
      have l2 : (linksOf (ds.take i)).length ≤ (ds.take i).length := List.length_filterMap_le _ _
      rw [List.length_take] at l2
      omega
    have lk := links_snoc hi'
    rw [hgd] at lk
    refine ⟨rfl, ?_⟩
    have w1 : ∀ H', Ex H3' H' → EvD (tVar 1) [some (V.ref a), some y, v2, none] H' d := fun H' e => evd_var rfl (Dq.same e _ _ hyd)
    have t0 : EvT _ [some (V.ref a), some y, v2, none] H3' (decide (kindOf d = "turn")) := Evl.et_test (ev_eqS ((evd_atT (K := K) (i := 0) (w1 H3' (Ex.refl _)) ft (by omega) Evl.ev_c).strE fs) Evl.ev_c)
    refine t0 H3' (Ex.refl _) _ fun H4 e4 => ?_
    refine ifD (fun hk => ?_) (fun hk => ?_)
    · obtain ⟨f1, f2, f3, f4⟩ := fk hk
      obtain ⟨l, ys, rfl, hly, hdy, _, hyl⟩ := (Dq.same e4 _ _ hyd).tupE ft
      obtain ⟨y1, hy1, d1⟩ := hdy.get' 1 (List.getElem?_eq_getElem (show 1 < (items d).length by omega))
      obtain ⟨y2, hy2, d2⟩ := hdy.get' 2 (List.getElem?_eq_getElem (show 2 < (items d).length by omega))
      rw [← LF.at_of rfl (by omega)] at d1 d2
      have q1 := (d1.intE f2 f3).1
      have q2 := (d2.strE f4).1
      have cut : cutV ys (some 1) (some 3) = (keyOf d).map kV := by
        match ys, hyl.trans f1, hy1, hy2 with
        | [u0, u1, u2, u3], _, hy1, hy2 =>
          cases (show some u1 = some y1 from hy1)
          cases (show some u2 = some y2 from hy2)
          rw [q1, q2]; rfl
      refine ⟨.ref l, rfl, 1, rfl, 3, rfl, l, ys, rfl, st_of hly, ?_, fun p hp => ?_⟩
      · rw [show (some (1 : Int)) = some ((1 : Nat) : Int) from rfl, HT.sIx_nat]
        omega
      · rw [cut]
        refine ⟨ks.map fun p => V.ref p.1, (Ex.new hp) _ _ (e4 _ _ hks), ?_, (e3.trans (e4.trans (Ex.new hp))).mut hD, ks ++ [(p, keyOf d)], ?_, ?_, ?_⟩
        · rw [List.length_map]; exact Evl.sz_lt (by omega)
        · rw [upd_same, List.map_append]; rfl
        · intro q hq'
          have ne : ∀ r, upd H4 p (HO.tup ((keyOf d).map kV)) r = some (.tup (q.2.map kV)) → r ≠ Dl := fun r hr e => by
            subst e
            have := (Ex.new hp (o := HO.tup ((keyOf d).map kV))) _ _ (e4 _ _ hks)
            rw [hr] at this
            cases this
          rcases List.mem_append.mp hq' with z | z
          · have z1 := (Ex.new hp (o := HO.tup ((keyOf d).map kV))) _ _ (e4 _ _ (hg q z))
            rw [upd_ne (ne _ z1)]; exact z1
          · rw [List.mem_singleton.mp z] at ne ⊢
            rw [upd_ne (ne _ upd_same)]; exact upd_same
        · rw [List.map_append, hkl, lk, if_pos hk]; rfl
    · refine ⟨e3.trans e4, ks, e4 _ _ hks, fun q hq' => e4 _ _ (hg q hq'), ?_⟩
      rw [lk, if_neg hk, List.append_nil]; exact hkl
  rintro H3 ⟨e3, ks, hks, hg, hkl⟩
  rw [List.take_of_length_le (show ds.length ≤ xs.length by omega)] at hkl
  have small : ks.length < 64 := by
    have l1 : (ks.map (·.2)).length = (linksOf ds).length := by rw [hkl]
    rw [List.length_map] at l1
    have l2 : (linksOf ds).length ≤ ds.length := List.length_filterMap_le _ _
    omega
  refine ⟨.ref Dl, rfl, Dl, ks, rfl, sq_of hks, fun p hp => st_of (hg p hp), small, fun n hn => ?_⟩
  refine ⟨.ref Dl, rfl, Dl, _, rfl, Or.inl (sq_of hks), rfl, ?_⟩
  rw [vint_dec, List.length_map]
  have e9 : decide (((n : Nat) : Int) = ((ks.length : Nat) : Int)) = decide ((linksOf ds).Nodup) := by
    rw [← hkl, ← HSK.sorts_all hn, Bool.eq_iff_iff, decide_eq_true_eq, decide_eq_true_eq]
    omega
  rw [e9]
  exact hq H3 (e1.trans (e2.trans e3))
end
end KA

set_option Elab.async false
set_option linter.all false
set_option maxRecDepth 100000
set_option maxHeartbeats 4000000
namespace LF
open PySem PySem.Spec PyProof.Rows L2
open Evl (Ev EvL EvU EvT EvA EvO Ex sq_of st_of)
/-- the bag of draws, so many drawn at most -/
def BagC (H : Hp) (b : Addr) (N : Nat) : Prop := ∃ d x n : Int, H b = some (.lst [.int d, .int x, .int n]) ∧ 0 ≤ d ∧ 0 ≤ x ∧ x < 2147483648 ∧ 0 ≤ n ∧ n ≤ N
theorem BagC.same {H H' : Hp} {b : Addr} {N : Nat} (h : BagC H b N) (s : Same H H') : BagC H' b N := by
  obtain ⟨d, x, m, e, r⟩ := h
  exact ⟨d, x, m, s _ _ e, r⟩
theorem BagC.ne {H : Hp} {b D : Addr} {N : Nat} (h : BagC H b N) (hD : H D = none) : D ≠ b := by
  obtain ⟨d, x, m, e, r⟩ := h
  exact Ne.symm (ne_of_none e hD)
theorem BagC.more {H : Hp} {b : Addr} {N M : Nat} (h : BagC H b N) (hm : N ≤ M) : BagC H b M := by
  obtain ⟨d, x, m, e, h1, h2, h3, h4, h5⟩ := h
  exact ⟨d, x, m, e, h1, h2, h3, h4, by omega⟩
def spBagC (K : PySem.W.Frag) : Sp := fun vs H Q _ => ∃ (a : Addr) (at' : Int) (ns : List Int), vs = [.ref a, .int at'] ∧ SqL K H a (ns.map V.int) ∧ 0 ≤ at' ∧ at' ≤ 1000 ∧
  ∀ H' p, Same H H' → H p = none → BagC H' p 0 → Q (.ref p) H'
def spTakeC : Sp := fun vs H Q _ => ∃ (b : Addr) (m : Int) (N : Nat), vs = [.ref b, .int m] ∧ BagC H b N ∧ N ≤ 1000000 ∧ 1 ≤ m ∧ m < 1000000 ∧
  ∀ H' r, Keep b H H' → BagC H' b (N + 1) → 0 ≤ r → r < m → Q (.int r) H'
def spPickC (K : PySem.W.Frag) : Sp := fun vs H Q _ => ∃ (b l : Addr) (xs : List V) (N : Nat), vs = [.ref b, .ref l] ∧ BagC H b N ∧ N ≤ 900000 ∧ l ≠ b ∧ SqL K H l xs ∧ 1 ≤ xs.length ∧ xs.length < 1000000 ∧
  ∀ H' v, Keep b H H' → BagC H' b (N + 1) → v ∈ xs → Q v H'
/-! readings that draw from the bag at b, while the objects at B may change -/
def wo (B : List Addr) (H : Hp) : Hp := fun a => if a ∈ B then none else H a
theorem wo_get {B : List Addr} {H : Hp} {a : Addr} {o : HO} (h : wo B H a = some o) : a ∉ B ∧ H a = some o := by
  unfold wo at h
  split at h
  · cases h
  · rename_i n; exact ⟨n, h⟩
theorem wo_put {B : List Addr} {H : Hp} {a : Addr} {o : HO} (n : a ∉ B) (h : H a = some o) : wo B H a = some o := by
  unfold wo
  rw [if_neg n]; exact h
theorem wo_ex {B : List Addr} {H : Hp} : Ex (wo B H) H := fun a o h => (wo_get h).2
theorem wo_keep {b : Addr} {B : List Addr} {H H' : Hp} (hb : b ∈ B) (k : Keep b H H') : Ex (wo B H) (wo B H') := fun a o h => by
  obtain ⟨n, h⟩ := wo_get h
  exact wo_put n (k a o (fun e => n (e ▸ hb)) h)
theorem wo_less {B B' : List Addr} {H : Hp} (h : ∀ a ∈ B', a ∈ B) : Ex (wo B H) (wo B' H) := fun a o e => by
  obtain ⟨n, e⟩ := wo_get e
  exact wo_put (fun m => n (h a m)) e
structure BgAt (b : Addr) (B : List Addr) (N : Nat) (H : Hp) : Prop where
  bag : BagC H b N
  inB : b ∈ B
  live : ∀ a ∈ B, ∃ o, H a = some o
theorem BgAt.keep {b : Addr} {B : List Addr} {H H' : Hp} {N M : Nat} (g : BgAt b B N H) (k : Keep b H H') (h : BagC H' b M) : BgAt b B M H' :=
  ⟨h, g.inB, fun a ha => by
    by_cases e : a = b
    · subst e
      obtain ⟨_, _, _, h, _⟩ := h
      exact ⟨_, h⟩
    · obtain ⟨o, ho⟩ := g.live a ha
      exact ⟨o, k a o e ho⟩⟩
theorem BgAt.new {b : Addr} {B : List Addr} {H : Hp} {N : Nat} {p : Addr} {o : HO} (g : BgAt b B N H) (hp : H p = none) : p ∉ B ∧ BgAt b B N (upd H p o) ∧ Keep b H (upd H p o) := by
  refine ⟨fun m => ?_, g.keep (Same.keep (same_new hp)) (g.bag.same (same_new hp)), Same.keep (same_new hp)⟩
  obtain ⟨o, ho⟩ := g.live p m
  rw [hp] at ho; cases ho
/-- te reads something of which P holds, by m draws at most -/
def EK (b : Addr) (B : List Addr) (m : Nat) (te : TE) (σ : L2.St) (H : Hp) (P : V → Hp → Prop) : Prop := ∀ N H1, N + m ≤ 900000 → Keep b H H1 → BgAt b B N H1 → ∀ Q : VK, (∀ x H2 M, M ≤ N + m → Keep b H1 H2 → BgAt b B M H2 → P x H2 → Q x H2) → te σ H1 Q
def EKA (b : Addr) (B : List Addr) (m : Nat) (ta : TA) (σ : L2.St) (H : Hp) (P : List V → Hp → Prop) : Prop := ∀ N H1, N + m ≤ 900000 → Keep b H H1 → BgAt b B N H1 → ∀ Q : List V → Hp → Prop, (∀ x H2 M, M ≤ N + m → Keep b H1 H2 → BgAt b B M H2 → P x H2 → Q x H2) → ta σ H1 Q
def EKT (b : Addr) (B : List Addr) (m : Nat) (tt : TT) (σ : L2.St) (H : Hp) : Prop := ∀ N H1, N + m ≤ 900000 → Keep b H H1 → BgAt b B N H1 → ∀ Q : Bool → Hp → Prop, (∀ x H2 M, M ≤ N + m → Keep b H1 H2 → BgAt b B M H2 → Q x H2) → tt σ H1 Q
/-- all is as it was, but what stands at B -/
def KeepB (B : List Addr) (H H' : Hp) : Prop := ∀ a o, a ∉ B → H a = some o → H' a = some o
theorem KeepB.refl (B : List Addr) (H : Hp) : KeepB B H H := fun _ _ _ e => e
theorem KeepB.trans {B : List Addr} {H H1 H2 : Hp} (x : KeepB B H H1) (y : KeepB B H1 H2) : KeepB B H H2 := fun a o n e => y a o n (x a o n e)
theorem kb {b : Addr} {B : List Addr} {H H' : Hp} (hb : b ∈ B) (k : Keep b H H') : KeepB B H H' := fun a o n e => k a o (fun z => n (z ▸ hb)) e
theorem wo_keepB {B : List Addr} {H H' : Hp} (k : KeepB B H H') : Ex (wo B H) (wo B H') := fun a o h => by
  obtain ⟨n, h⟩ := wo_get h
  exact wo_put n (k a o n h)
def Stb (B : List Addr) (P : V → Hp → Prop) : Prop := ∀ x H H', P x H → KeepB B H H' → P x H'
def AllG (G : V → Hp → Prop) (n : Nat) : List V → Hp → Prop := fun vs H => (∀ v ∈ vs, G v H) ∧ vs.length = n
def Gd (B : List Addr) : V → Hp → Prop := fun x H => ∃ d, Dq (wo B H) x d
def GE (B : List Addr) : V → Hp → Prop := fun x H => ∃ o, El (wo B H) x o
def Ls (G : V → Hp → Prop) (B : List Addr) (n : Nat) : V → Hp → Prop := fun x H => ∃ p xs, x = .ref p ∧ p ∉ B ∧ H p = some (.lst xs) ∧ AllG G n xs H
section
variable {K : PySem.W.Frag} {b : Addr} {B : List Addr} {σ : L2.St} {H H' : Hp} {ta tb te : TE} {tr : TA} {tt : TT} {x y z v : V} {P P' : V → Hp → Prop} {G : V → Hp → Prop} {n n' m m' N : Nat}
theorem gd_stb : Stb B (Gd B) := fun x H H' ⟨d, h⟩ k => ⟨d, Dq.same (wo_keepB k) _ _ h⟩
theorem ge_stb : Stb B (GE B) := fun x H H' ⟨d, h⟩ k => ⟨d, El.same h (wo_keepB k)⟩
theorem all_stb (h : Stb B G) {vs : List V} (g : AllG G n vs H) (k : KeepB B H H') : AllG G n vs H' := ⟨fun v hv => h v H H' (g.1 v hv) k, g.2⟩
theorem ls_stb (hG : Stb B G) : Stb B (Ls G B n) := fun x H H' ⟨p, xs, e, hp, h, g⟩ k => ⟨p, xs, e, hp, k _ _ hp h, all_stb hG g k⟩
theorem gd_ge (h : Gd B x H) : GE B x H := by obtain ⟨d, h⟩ := h; exact ⟨some d, h⟩
theorem ek_w (h : EK b B m te σ H P) (w : ∀ x H, P x H → P' x H) : EK b B m te σ H P' := fun N H1 l k g Q q => h N H1 l k g Q fun x H2 M lm k2 g2 p => q x H2 M lm k2 g2 (w x H2 p)
theorem ek_ge (h : EK b B m te σ H (Gd B)) : EK b B m te σ H (GE B) := ek_w h fun _ _ => gd_ge
theorem ek_mono (h : EK b B m te σ H P) (k : Keep b H H') : EK b B m te σ H' P := fun N H1 l k1 g Q q => h N H1 l (k.trans k1) g Q q
theorem ek_c (p : ∀ H, P v H) : EK b B 0 (tC v) σ H P := fun N H1 l k g Q q => q v H1 N (Nat.le_refl _) (Keep.refl b H1) g (p H1)
theorem ek_v {i : Nat} (h : σ[i]? = some (some v)) (p : ∀ H1, Keep b H H1 → P v H1) : EK b B 0 (tVar i) σ H P := fun N H1 l k g Q q => ⟨v, h, q v H1 N (Nat.le_refl _) (Keep.refl b H1) g (p H1 k)⟩
theorem gd_non : Gd B .non H := ⟨_, .non⟩
theorem gd_bl (c : Bool) : Gd B (.bl c) H := ⟨_, .bl c⟩
theorem gd_int (i : Int) : Gd B (.int i) H := ⟨_, .int i⟩
theorem gd_str {z : Str} (h : z.length ≤ 1000 ∧ PyData.strOk z = true) : Gd B (.str z) H := ⟨_, .str z h.1 h.2⟩
theorem eka_nil {G : V → Hp → Prop} : EKA b B 0 tNil σ H (AllG G 0) := fun N H1 l k g Q q => q [] H1 N (Nat.le_refl _) (Keep.refl b H1) g ⟨fun v hv => (nomatch hv), rfl⟩
theorem eka_cons (hb : b ∈ B) (hG : Stb B G) (h : EK b B m te σ H G) (hr : EKA b B m' tr σ H (AllG G n)) : EKA b B (m + m') (tCons te tr) σ H (AllG G (n + 1)) := fun N H1 l k g Q q =>
  h N H1 (by omega) k g _ fun x H2 M lm k2 g2 p => hr M H2 (by omega) (k.trans k2) g2 _ fun vs H3 M3 lm3 k3 g3 pr => q (x :: vs) H3 M3 (by omega) (k2.trans k3) g3 ⟨fun v hv => by
    rcases List.mem_cons.mp hv with rfl | hv
    · exact hG _ _ _ p (kb hb k3)
    · exact pr.1 v hv, by rw [List.length_cons, pr.2]⟩
theorem dqAll_of {H : Hp} : ∀ {vs : List V}, (∀ v ∈ vs, ∃ d, Dq H v d) → ∃ ds, DqAll H vs ds
  | [], _ => ⟨[], .nil⟩
  | v :: vs, h => by
    obtain ⟨d, hd⟩ := h v List.mem_cons_self
    obtain ⟨ds, hs⟩ := dqAll_of fun u hu => h u (List.mem_cons_of_mem _ hu)
    exact ⟨d :: ds, .cons hd hs⟩
theorem elAll_of {H : Hp} : ∀ {vs : List V}, (∀ v ∈ vs, ∃ d, El H v d) → ∃ ds, ElAll H vs ds
  | [], _ => ⟨[], .nil⟩
  | v :: vs, h => by
    obtain ⟨d, hd⟩ := h v List.mem_cons_self
    obtain ⟨ds, hs⟩ := elAll_of fun u hu => h u (List.mem_cons_of_mem _ hu)
    exact ⟨d :: ds, .cons hd hs⟩
theorem ek_tup (hb : b ∈ B) (h : EKA b B m tr σ H (AllG (Gd B) n)) (hn : n ≤ 1000) : EK b B m (tTup tr) σ H (Gd B) := fun N H1 l k g Q q =>
  h N H1 l k g _ fun vs H2 M lm k2 g2 p => ⟨Evl.sz_of (by rw [p.2]; omega), fun r hr => by
    obtain ⟨n1, g3, k3⟩ := g2.new (o := .tup vs) hr
    have p3 := all_stb gd_stb p (kb hb k3)
    obtain ⟨ds, hds⟩ := dqAll_of p3.1
    exact q _ _ M lm (k2.trans k3) g3 ⟨.tuple ds, .tup (wo_put n1 upd_same) hds (by rw [p.2]; exact hn)⟩⟩
theorem ek_lstD (hb : b ∈ B) (h : EKA b B m tr σ H (AllG (Gd B) n)) (hn : n ≤ 1000) : EK b B m (tLst tr) σ H (Gd B) := fun N H1 l k g Q q =>
  h N H1 l k g _ fun vs H2 M lm k2 g2 p => ⟨Evl.sz_of (by rw [p.2]; omega), fun r hr => by
    obtain ⟨n1, g3, k3⟩ := g2.new (o := .lst vs) hr
    have p3 := all_stb gd_stb p (kb hb k3)
    obtain ⟨ds, hds⟩ := dqAll_of p3.1
    exact q _ _ M lm (k2.trans k3) g3 ⟨.list ds, .lst (wo_put n1 upd_same) hds (by rw [p.2]; exact hn)⟩⟩
theorem ek_lst (hb : b ∈ B) (hG : Stb B G) (h : EKA b B m tr σ H (AllG G n)) (hn : n ≤ 1000) : EK b B m (tLst tr) σ H (Ls G B n) := fun N H1 l k g Q q =>
  h N H1 l k g _ fun vs H2 M lm k2 g2 p => ⟨Evl.sz_of (by rw [p.2]; omega), fun r hr => by
    obtain ⟨n1, g3, k3⟩ := g2.new (o := .lst vs) hr
    exact q _ _ M lm (k2.trans k3) g3 ⟨r, vs, rfl, n1, upd_same, all_stb hG p (kb hb k3)⟩⟩
theorem ek_dnew : EK b B 0 tDNewK σ H (GE B) := fun N H1 l k g Q q p hp => by
  obtain ⟨n1, g3, k3⟩ := g.new (o := .dK []) hp
  exact q _ _ N (Nat.le_refl _) k3 g3 ⟨none, p, rfl, Or.inr ⟨[], wo_put n1 upd_same⟩⟩
theorem ek_cat (hb : b ∈ B) (hG : Stb B G) (h : EK b B m ta σ H (Ls G B n)) (h' : EK b B m' tb σ H (Ls G B n')) (hn : n + n' ≤ 1000) : EK b B (m + m') (tOp rCat ta tb) σ H (Ls G B (n + n')) := fun N H1 l k g Q q =>
  h N H1 (by omega) k g _ fun x H2 M lm k2 g2 p => h' M H2 (by omega) (k.trans k2) g2 _ fun y H3 M3 lm3 k3 g3 p' => by
    obtain ⟨l1, xs, rfl, n1, hl, gx, lx⟩ := ls_stb hG _ _ _ p (kb hb k3)
    obtain ⟨l2, ys, rfl, n2, hl', gy, ly⟩ := p'
    refine ⟨l1, l2, xs, ys, rfl, rfl, hl, hl', Evl.sz_of (by omega), fun r hr => ?_⟩
    obtain ⟨n3, g4, k4⟩ := g3.new (o := .lst (xs ++ ys)) hr
    refine q _ _ M3 (by omega) ((k2.trans k3).trans k4) g4 ⟨r, xs ++ ys, rfl, n3, upd_same, fun v hv => ?_, by rw [List.length_append, lx, ly]⟩
    rcases List.mem_append.mp hv with hv | hv
    · exact hG _ _ _ (gx v hv) (kb hb k4)
    · exact hG _ _ _ (gy v hv) (kb hb k4)
theorem ek_take {i : Nat} {c : Int} {E : XK} (hi : σ[i]? = some (some (.ref b))) (h1 : 1 ≤ c ∧ c < 1000000) : EK b B 1 (tCall spTakeC [] E (tCons (tVar i) (tCons (tC (.int c)) tNil))) σ H (fun x _ => ∃ r, x = .int r ∧ 0 ≤ r ∧ r < c) := fun N H1 l k g Q q =>
  ⟨_, hi, b, c, N, rfl, g.bag, by omega, h1.1, h1.2, fun H' r k' g' r0 r1 => q _ _ (N + 1) (Nat.le_refl _) k' (g.keep k' g') ⟨r, rfl, r0, r1⟩⟩
theorem ek_pick {i : Nat} {E : XK} (hb : b ∈ B) (hG : Stb B G) (hi : σ[i]? = some (some (.ref b))) (h : EK b B m te σ H (Ls G B n)) (hn : 1 ≤ n ∧ n ≤ 1000) : EK b B (m + 1) (tCall (spPickC K) [] E (tCons (tVar i) (tCons te tNil))) σ H G := fun N H1 l k g Q q =>
  ⟨_, hi, h N H1 (by omega) k g _ fun x H2 M lm k2 g2 p => by
    obtain ⟨l1, xs, rfl, n1, hl, gx, lx⟩ := p
    refine ⟨b, l1, xs, M, rfl, g2.bag, by omega, fun e => n1 (e ▸ hb), SqL.of hl, by omega, by omega, fun H' v k' g' hv => q _ _ (M + 1) (by omega) (k2.trans k') (g2.keep k' g') (hG _ _ _ (gx v hv) (kb hb k'))⟩⟩
theorem ek_neg {i : Int} (p : ∀ H, P (.int (-i)) H) : EK b B 0 (tUn (rU fun i => .int (-i)) (tC (.int i))) σ H P := fun N H1 l k g Q q => ⟨i, rfl, q _ H1 N (Nat.le_refl _) (Keep.refl b H1) g (p H1)⟩
theorem eka_cons0 (hb : b ∈ B) (hG : Stb B G) (h : EK b B 0 te σ H G) (hr : EKA b B 0 tr σ H (AllG G n)) : EKA b B 0 (tCons te tr) σ H (AllG G (n + 1)) := eka_cons hb hG h hr
theorem ek_cat0 (hb : b ∈ B) (hG : Stb B G) (h : EK b B 0 ta σ H (Ls G B n)) (h' : EK b B 0 tb σ H (Ls G B n')) (hn : n + n' ≤ 1000) : EK b B 0 (tOp rCat ta tb) σ H (Ls G B (n + n')) := ek_cat hb hG h h' hn
/-- an item of a list, by a number within -/
theorem ek_ixL (hb : b ∈ B) (hG : Stb B G) (h : EK b B m ta σ H (Ls G B n)) (h' : EK b B m' tb σ H (fun x _ => ∃ r, x = .int r ∧ 0 ≤ r ∧ r < n)) : EK b B (m + m') (tOp (rIxL K) ta tb) σ H G := fun N H1 l k g Q q =>
  h N H1 (by omega) k g _ fun x H2 M lm k2 g2 p => h' M H2 (by omega) (k.trans k2) g2 _ fun y H3 M3 lm3 k3 g3 ⟨r, e, r0, r1⟩ => by
    subst e
    obtain ⟨l1, xs, rfl, n1, hl, gx, lx⟩ := ls_stb hG _ _ _ p (kb hb k3)
    have lt : r.toNat < xs.length := by omega
    have er : r = ((r.toNat : Nat) : Int) := by omega
    have z := atI_nat (xs := xs) (j := r.toNat) (v := xs[r.toNat]) (List.getElem?_eq_getElem lt)
    rw [← er] at z
    exact ⟨l1, xs, r, xs[r.toNat], rfl, rfl, SqL.of hl, z, q _ H3 M3 (by omega) (k2.trans k3) g3 (gx _ (List.getElem_mem lt))⟩
/-- a take compared with a number -/
theorem ekt_take {i : Nat} {c d : Int} {E : XK} (hi : σ[i]? = some (some (.ref b))) (h1 : 1 ≤ c ∧ c < 1000000) : EKT b B 1 (tTest (tOp rEq (tCall spTakeC [] E (tCons (tVar i) (tCons (tC (.int c)) tNil))) (tC (.int d)))) σ H := fun N H1 l k g Q q =>
  ek_take (B := B) (H := H) hi h1 N H1 l k g _ fun x H2 M lm k2 g2 ⟨r, e, _⟩ => by
    subst e
    exact ⟨rfl, _, rfl, q _ H2 M lm k2 g2⟩
variable {D : Ends} {tz : TS}
theorem sk_asg {i : Nat} (g : BgAt b B N H) (hN : N + m ≤ 900000) (h : EK b B m te σ H P) (k : ∀ x H1 M, M ≤ N + m → Keep b H H1 → BgAt b B M H1 → P x H1 → tz D (σ.set i (some x)) H1) : tSeq (tAsg te (gName i)) tz D σ H := h N H hN (Keep.refl b H) g _ k
theorem sk_ret (g : BgAt b B N H) (hN : N + m ≤ 900000) (h : EK b B m te σ H P) (k : ∀ x H1 M, M ≤ N + m → Keep b H H1 → BgAt b B M H1 → P x H1 → D.rt x H1) : tRet te D σ H := h N H hN (Keep.refl b H) g _ k
theorem sk_par {i j : Nat} (g : BgAt b B N H) (hN : N + (m + m') ≤ 900000) (hb : b ∈ B) (hP : Stb B P) (h : EK b B m ta σ H P) (h' : EK b B m' tb σ H P') (k : ∀ x y H1 M, M ≤ N + (m + m') → Keep b H H1 → BgAt b B M H1 → P x H1 → P' y H1 → tz D ((σ.set i (some x)).set j (some y)) H1) :
    tSeq (tPar i j (tCons ta (tCons tb tNil))) tz D σ H :=
  h N H (by omega) (Keep.refl b H) g _ fun x H2 M lm k2 g2 p => h' M H2 (by omega) k2 g2 _ fun y H3 M3 lm3 k3 g3 p' => ⟨x, y, rfl, k x y H3 M3 (by omega) (k2.trans k3) g3 (hP _ _ _ p (kb hb k3)) p'⟩
end
end LF

set_option Elab.async false
set_option linter.all false
set_option maxRecDepth 100000
set_option maxHeartbeats 4000000
namespace KA
open PySem PySem.Spec PyProof.Rows L2 LF
abbrev s__law_bag : Stmt := topS 29
abbrev N__law_bag : List Str := ["_law_script", "_law_at", "_law_cell", "_law_digits"]
theorem sc__law_bag : FnScope ["_law_script", "_law_at", "_law_cell", "_law_digits"] ["_law_script", "_law_at"] (defScope s__law_bag) := ⟨rfl, rfl, rfl, by decide +kernel, rfl, by decide +kernel, by decide +kernel⟩
abbrev s__law_take : Stmt := topS 26
abbrev N__law_take : List Str := ["_law_bag_here", "_law_many", "_law_digit", "_law_mixed"]
theorem sc__law_take : FnScope ["_law_bag_here", "_law_many", "_law_digit", "_law_mixed"] ["_law_bag_here", "_law_many"] (defScope s__law_take) := ⟨rfl, rfl, rfl, by decide +kernel, rfl, by decide +kernel, by decide +kernel⟩
abbrev s__law_pick : Stmt := topS 27
abbrev N__law_pick : List Str := ["_law_bag_here", "_law_items"]
theorem sc__law_pick : FnScope ["_law_bag_here", "_law_items"] ["_law_bag_here", "_law_items"] (defScope s__law_pick) := ⟨rfl, rfl, rfl, by decide +kernel, rfl, by decide +kernel, by decide +kernel⟩
section
variable {P : Program} {w : World} {K : PySem.W.Frag} {mg : Str → Option Value} {base : Heap} {tk1 tk2 : Tok}
theorem ok_take {f : Addr} {fd : FuncData} (F : Fun K "_law_take" "_law_take" s__law_take f fd) (T : Txt K mg tk1 tk2) : FnOk P w K mg base CX0 1 f fd ["_law_bag_here", "_law_many"] spTakeC := by
  refine F.ok sc__law_take (fun vs H Q E h => ?_) (fun cdv A outer s H vs Q E hr h => ?_)
  · obtain ⟨b, m, N, rfl, _⟩ := h
    rfl
  refine ⟨_, (pss_cons (ps_if (pt_cmpR op_gt (pe_ix ix_list (pv 0) pe_int (fun _ _ => rfl)) pe_int (nomark _)) (pss_cons (ps_set (i := 2) sc__law_take.nd rfl (Or.inl rfl) (pe_op op_mod (pe_callTy call_int1 (by rfl) T.n_int (by decide +kernel) (pa_cons (pe_ix ix_list (pv 0) pe_int (fun _ _ => rfl)) pa_nil)) (pv 1)))
    (pss_cons (ps_asg (pe_op op_fdiv (pe_ix ix_list (pv 0) pe_int (fun _ _ => rfl)) (pv 1)) (pg_sub (pv 0) pe_int set_list))
    (pss_one (ps_ret (pv 2))))) pss_nil)
    (pss_cons (ps_asg (pe_op op_add (pe_ix ix_list (pv 0) pe_int (fun _ _ => rfl)) pe_int) (pg_sub (pv 0) pe_int set_list))
    (pss_cons (ps_asg (pe_op op_mod (pe_callTy call_int1 (by rfl) T.n_int (by decide +kernel) (pa_cons (pe_op op_add (pe_op op_add (pe_op op_mul (pe_ix ix_list (pv 0) pe_int (fun _ _ => rfl)) pe_int) (pe_op op_mul (pe_op op_mul pe_int (pe_ix ix_list (pv 0) pe_int (fun _ _ => rfl))) (pe_ix ix_list (pv 0) pe_int (fun _ _ => rfl)))) pe_int) pa_nil)) pe_int) (pg_sub (pv 0) pe_int set_list))
    (pss_cons (ps_set (i := 3) sc__law_take.nd rfl (Or.inl rfl) (pe_op op_mod (pe_callTy call_int1 (by rfl) T.n_int (by decide +kernel) (pa_cons (pe_op op_add (pe_op op_pow (pe_op op_fdiv (pe_ix ix_list (pv 0) pe_int (fun _ _ => rfl)) pe_int) pe_int) (pe_op op_mul pe_int (pe_ix ix_list (pv 0) pe_int (fun _ _ => rfl)))) pa_nil)) pe_int))
    (pss_one (ps_ret (pe_op op_mod (pe_callTy call_int1 (by rfl) T.n_int (by decide +kernel) (pa_cons (pe_op op_fdiv (pv 3) pe_int) pa_nil)) (pv 1)))))))), ?_⟩
  obtain ⟨b, m, N, rfl, ⟨d, x, n, hb, hd, hx0, hx1, hn0, hn1⟩, hN, hm1, hm2, hq⟩ := h
  refine ⟨_, rfl, b, _, _, _, rfl, rfl, SqL.of hb, rfl, _, _, rfl, rfl, _, rfl, ?_⟩
  refine ifD (fun h1 => ?_) (fun h1 => ?_)
  · refine ⟨_, rfl, b, _, _, _, rfl, rfl, SqL.of hb, rfl, Or.inl ⟨_, rfl, ?_⟩⟩
    refine ⟨_, rfl, _, _, rfl, rfl, (by show (0 : Int) < m; omega), ?_⟩
    refine ⟨_, rfl, b, _, _, _, rfl, rfl, SqL.of hb, rfl, _, rfl, _, _, rfl, rfl, ⟨by show (0 : Int) < m; omega, by show m < 1073741824; omega⟩, ?_⟩
    refine ⟨_, rfl, b, _, _, _, rfl, rfl, hb, rfl, ?_⟩
    refine ⟨_, rfl, ?_⟩
    refine hq _ _ (keep_put (Keep.refl b H)) ⟨d / m, x, n, upd_same, ?_, hx0, hx1, hn0, by omega⟩ (Int.emod_nonneg _ (by omega)) (Int.emod_lt_of_pos _ (by omega))
    exact Int.ediv_nonneg hd (by omega)
  · refine ⟨_, rfl, b, _, _, _, rfl, rfl, SqL.of hb, rfl, _, _, rfl, rfl, ?_⟩
    refine ⟨_, rfl, b, _, _, _, rfl, rfl, hb, rfl, ?_⟩
    have p64 : (2 : Int) ^ 64 = 18446744073709551616 := by decide
    refine ⟨_, rfl, b, _, _, _, rfl, rfl, SqL.of upd_same, rfl, _, _, rfl, rfl, Or.inr ⟨by decide, by decide⟩, ?_⟩
    refine ⟨_, rfl, b, _, _, _, rfl, rfl, SqL.of upd_same, rfl, _, _, rfl, rfl, Or.inl ⟨by decide, by decide⟩, ?_⟩
    refine ⟨_, rfl, b, _, _, _, rfl, rfl, SqL.of upd_same, rfl, _, _, rfl, rfl, Or.inl ⟨by show -(2 ^ 64 : Int) < 7919 * (n + 1); omega, by show 7919 * (n + 1) < (2 ^ 64 : Int); omega⟩, ?_⟩
    refine ⟨_, _, rfl, rfl, ?_⟩
    refine ⟨_, _, rfl, rfl, ?_⟩
    refine Or.inl ⟨_, rfl, ?_⟩
    refine ⟨_, _, rfl, rfl, (by show (0 : Int) < 2147483647; decide), ?_⟩
    refine ⟨_, rfl, b, _, _, _, rfl, rfl, upd_same, rfl, ?_⟩
    have n1 := Int.emod_nonneg (x * 69621 + 7919 * (n + 1) * (n + 1) + 31) (show (2147483647 : Int) ≠ 0 by decide)
    have n2 := Int.emod_lt_of_pos (x * 69621 + 7919 * (n + 1) * (n + 1) + 31) (show (0 : Int) < 2147483647 by decide)
    refine ⟨_, rfl, b, _, _, _, rfl, rfl, SqL.of upd_same, rfl, _, _, rfl, rfl, ⟨by decide, by decide⟩, ?_⟩
    have q1 : ((x * 69621 + 7919 * (n + 1) * (n + 1) + 31) % 2147483647 / 16).natAbs < 2 ^ 64 := by
      generalize (x * 69621 + 7919 * (n + 1) * (n + 1) + 31) % 2147483647 = y at n1 n2
      have h8 : 0 ≤ y / 16 ∧ y / 16 < 2147483647 := by omega
      have h7 : (2 : Nat) ^ 64 = 18446744073709551616 := by decide
      omega
    refine ⟨_, _, rfl, rfl, ⟨by decide, by decide, q1⟩, ?_⟩
    refine ⟨_, rfl, b, _, _, _, rfl, rfl, SqL.of upd_same, rfl, _, _, rfl, rfl, Or.inl ⟨by decide, by decide⟩, ?_⟩
    refine ⟨_, _, rfl, rfl, ?_⟩
    refine Or.inl ⟨_, rfl, ?_⟩
    refine ⟨_, _, rfl, rfl, (by show (0 : Int) < 2147483587; decide), ?_⟩
    refine ⟨_, rfl, _, _, rfl, rfl, ⟨by decide, by decide⟩, ?_⟩
    refine Or.inl ⟨_, rfl, ?_⟩
    refine ⟨_, rfl, _, _, rfl, rfl, (by show (0 : Int) < m; omega), ?_⟩
    exact hq _ _ (keep_put (keep_put (Keep.refl b H))) ⟨_, _, _, upd_same, hd, n1, Int.lt_trans n2 (by decide), by omega, by omega⟩ (Int.emod_nonneg _ (by omega)) (Int.emod_lt_of_pos _ (by omega))
theorem ok_pick {f f1 : Addr} {fd fd1 : FuncData} (F : Fun K "_law_pick" "_law_pick" s__law_pick f fd) (T : Txt K mg tk1 tk2) (d__law_take : DefAt P w K mg base "_law_take" 1 f1 fd1 ["_law_bag_here", "_law_many"] spTakeC) :
    FnOk P w K mg base CX0 2 f fd ["_law_bag_here", "_law_items"] (spPickC K) := by
  refine F.ok sc__law_pick (fun vs H Q E h => ?_) (fun cdv A outer s H vs Q E hr h => ?_)
  · obtain ⟨b, l, xs, N, rfl, _⟩ := h
    rfl
  refine ⟨_, (pss_one (ps_ret (pe_ix ix_list (pv 1) (pe_callD d__law_take (hr.mono (by decide)) (pa_cons (pv 0) (pa_cons (pe_callB call_len_seq (by rfl) T.n_len (by decide +kernel) (pa_cons (pv 1) pa_nil)) pa_nil))) (fun _ _ => rfl)))), ?_⟩
  obtain ⟨b, l, xs, N, rfl, hb, hN, hlb, hl, h1, h2, hq⟩ := h
  refine ⟨_, rfl, _, rfl, _, rfl, l, _, rfl, Or.inl hl, ?_⟩
  refine ⟨b, _, N, rfl, hb, by omega, by omega, by omega, fun H' r kp bg r0 r1 => ?_⟩
  have lt : r.toNat < xs.length := by omega
  have e : r = ((r.toNat : Nat) : Int) := by omega
  have z := atI_nat (xs := xs) (j := r.toNat) (v := xs[r.toNat]) (List.getElem?_eq_getElem lt)
  rw [← e] at z
  exact ⟨l, _, _, _, rfl, rfl, keep_seq kp hlb hl, z, hq H' _ kp bg (List.getElem_mem lt)⟩
theorem md (e : Int) : 0 ≤ e % 2147483629 + 1 ∧ e % 2147483629 + 1 < 2147483648 := by
  have n1 := Int.emod_nonneg e (show (2147483629 : Int) ≠ 0 by decide)
  have n2 := Int.emod_lt_of_pos e (show (0 : Int) < 2147483629 by decide)
  omega
theorem absNN (c : Int) : 0 ≤ (if c < 0 then -c else c) := by split <;> omega
theorem ok_bag {f : Addr} {fd : FuncData} (F : Fun K "_law_bag" "_law_bag" s__law_bag f fd) (T : Txt K mg tk1 tk2) : FnOk P w K mg base CX0 1 f fd ["_law_script", "_law_at"] (spBagC K) := by
  refine F.ok sc__law_bag (fun vs H Q E h => ?_) (fun cdv A outer s H vs Q E hr h => ?_)
  · obtain ⟨a, at', ns, rfl, _⟩ := h
    rfl
  refine ⟨_, (pss_cons (ps_set (i := 2) sc__law_bag.nd rfl (Or.inl rfl) (pe_ifExp (pt_cmpR op_lt (pv 1) (pe_callB call_len_seq (by rfl) T.n_len (by decide +kernel) (pa_cons (pv 0) pa_nil)) (nomark _)) (pe_ix ix_list (pv 0) (pv 1) (fun _ _ => rfl)) pe_int))
    (pss_cons (ps_set (i := 3) sc__law_bag.nd rfl (Or.inl rfl) (pe_ifExp (pt_cmpR op_ge (pe_callB call_abs (by rfl) T.n_abs (by decide +kernel) (pa_cons (pv 2) pa_nil)) (pe_op op_pow pe_int pe_int) (nomark _)) (pe_callB call_abs (by rfl) T.n_abs (by decide +kernel) (pa_cons (pv 2) pa_nil)) pe_int))
    (pss_one (ps_ret (pe_lst (pa_cons (pv 3) (pa_cons (pe_op op_add (pe_op op_mod (pe_callTy call_int1 (by rfl) T.n_int (by decide +kernel) (pa_cons (pe_op op_add (pe_op op_add (pe_op op_add (pe_op op_mul (pv 2) pe_int) (pe_op op_mul (pe_op op_mul pe_int (pv 1)) (pv 1))) (pe_op op_mul pe_int (pv 1))) pe_int) pa_nil)) pe_int) pe_int) (pa_cons pe_int pa_nil)))))))), ?_⟩
  obtain ⟨a, at', ns, rfl, hS, hat, hat2, hq⟩ := h
  have p64 : (2 : Int) ^ 64 = 18446744073709551616 := by decide
  refine ⟨_, rfl, _, rfl, a, _, rfl, Or.inl hS, _, _, rfl, rfl, _, rfl, ?_⟩
  refine ifD (fun h1 => ?_) (fun h1 => ?_)
  · rw [List.length_map] at h1
    have h2 : at'.toNat < ns.length := by omega
    have hix : atI (ns.map V.int) at' = some (.int ns[at'.toNat]) := by
      have e : at' = ((at'.toNat : Nat) : Int) := by omega
      have z := atI_nat (xs := ns.map V.int) (j := at'.toNat) (v := .int ns[at'.toNat]) (by rw [List.getElem?_map, List.getElem?_eq_getElem h2]; rfl)
      rw [← e] at z
      exact z
    refine ⟨_, rfl, _, rfl, a, _, _, .int ns[at'.toNat], rfl, rfl, hS, hix, ?_⟩
    refine ⟨_, rfl, _, rfl, _, _, rfl, rfl, ⟨by decide, by decide, by decide⟩, _, _, rfl, rfl, _, rfl, ?_⟩
    refine ifD (fun _ => ⟨_, rfl, _, rfl, ?_⟩) (fun _ => ?_)
    all_goals
      refine ⟨_, rfl, _, rfl, _, _, rfl, rfl, Or.inr ⟨by decide, by decide⟩, ?_⟩
      refine ⟨_, rfl, _, _, rfl, rfl, Or.inl ⟨by decide, by decide⟩, ?_⟩
      refine ⟨_, rfl, _, _, rfl, rfl, Or.inr ⟨by show -(2 ^ 64 : Int) < at'; omega, by show at' < (2 ^ 64 : Int); omega⟩, ?_⟩
      refine ⟨_, _, rfl, rfl, _, rfl, _, _, rfl, rfl, Or.inl ⟨by decide, by decide⟩, ?_⟩
      refine ⟨_, _, rfl, rfl, _, _, rfl, rfl, Or.inl ⟨_, rfl, ?_⟩⟩
      refine ⟨_, _, rfl, rfl, (by show (0 : Int) < 2147483629; decide), _, _, rfl, rfl, ?_⟩
      exact ⟨(by show 3 ≤ sizeLine; decide), fun p hp => hq _ p (same_new hp) hp ⟨_, _, 0, upd_same, by first | exact absNN _ | exact Int.le_refl 0, (md _).1, (md _).2, by decide, by decide⟩⟩
  · refine ⟨_, rfl, _, rfl, _, _, rfl, rfl, ⟨by decide, by decide, by decide⟩, _, _, rfl, rfl, _, rfl, ?_⟩
    refine ifD (fun _ => ⟨_, rfl, _, rfl, ?_⟩) (fun _ => ?_)
    all_goals
      refine ⟨_, rfl, _, rfl, _, _, rfl, rfl, Or.inr ⟨by decide, by decide⟩, ?_⟩
      refine ⟨_, rfl, _, _, rfl, rfl, Or.inl ⟨by decide, by decide⟩, ?_⟩
      refine ⟨_, rfl, _, _, rfl, rfl, Or.inr ⟨by show -(2 ^ 64 : Int) < at'; omega, by show at' < (2 ^ 64 : Int); omega⟩, ?_⟩
      refine ⟨_, _, rfl, rfl, _, rfl, _, _, rfl, rfl, Or.inl ⟨by decide, by decide⟩, ?_⟩
      refine ⟨_, _, rfl, rfl, _, _, rfl, rfl, Or.inl ⟨_, rfl, ?_⟩⟩
      refine ⟨_, _, rfl, rfl, (by show (0 : Int) < 2147483629; decide), _, _, rfl, rfl, ?_⟩
      exact ⟨(by show 3 ≤ sizeLine; decide), fun p hp => hq _ p (same_new hp) hp ⟨_, _, 0, upd_same, by first | exact absNN _ | exact Int.le_refl 0, (md _).1, (md _).2, by decide, by decide⟩⟩
end
end KA

set_option Elab.async false
set_option linter.all false
set_option maxRecDepth 100000
set_option maxHeartbeats 4000000
namespace KA
open PySem PySem.Spec PyProof.Rows L2 LF
open Evl (Ex sq_of st_of)
/-- a short text, an int -/
def okS : V → Hp → Prop := fun x _ => ∃ z : Str, x = .str z ∧ z.length ≤ 8 ∧ PyData.strOk z = true
def okI : V → Hp → Prop := fun x _ => ∃ i : Int, x = .int i
def okA : V → Hp → Prop := fun _ _ => True
theorem okS_stb {B : List Addr} : Stb B okS := fun _ _ _ h _ => h
theorem okI_stb {B : List Addr} : Stb B okI := fun _ _ _ h _ => h
theorem okA_stb {B : List Addr} : Stb B okA := fun _ _ _ h _ => h
/-- the words drawn: the dict at p -/
def Wd (B : List Addr) (p : Addr) (H : Hp) : Prop := ∃ kvs vf vk, H p = some (.dK kvs) ∧ p ∉ B ∧ valV kvs (.inr "folders") = some vf ∧ valV kvs (.inr "packages") = some vk ∧ Ls okS B 3 vf H ∧ Ls okS B 3 vk H
theorem Wd.stb {B : List Addr} {p : Addr} {H H' : Hp} (h : Wd B p H) (k : KeepB B H H') : Wd B p H' := by
  obtain ⟨kvs, vf, vk, h1, h2, h3, h4, h5, h6⟩ := h
  exact ⟨kvs, vf, vk, k _ _ h2 h1, h2, h3, h4, ls_stb okS_stb _ _ _ h5 k, ls_stb okS_stb _ _ _ h6 k⟩
def spWords : Sp := fun vs H Q _ => ∃ (b : Addr) (N : Nat), vs = [.ref b] ∧ BagC H b N ∧ N ≤ 800000 ∧ ∀ H' p M, M ≤ N + 4 → Keep b H H' → BagC H' b M → Wd [b] p H' → Q (.ref p) H'
theorem bgAt1 {b : Addr} {N : Nat} {H : Hp} (h : BagC H b N) : BgAt b [b] N H := ⟨h, List.mem_singleton.mpr rfl, fun a ha => by
  rw [List.mem_singleton.mp ha]
  obtain ⟨_, _, _, e, _⟩ := h
  exact ⟨_, e⟩⟩
theorem Ls_less {G : V → Hp → Prop} {B B' : List Addr} {n : Nat} {x : V} {H : Hp} (h : ∀ a ∈ B', a ∈ B) (l : Ls G B n x H) : Ls G B' n x H := by
  obtain ⟨p, xs, e, hp, r⟩ := l
  exact ⟨p, xs, e, fun m => hp (h p m), r⟩
theorem sk_dput {b p : Addr} {B : List Addr} {σ : L2.St} {H : Hp} {N m i : Nat} {tv : TE} {tz : TS} {D : Ends} {key : Str} {kvs : List (Key × V)} {P : V → Hp → Prop} (g : BgAt b B N H) (hN : N + m ≤ 900000) (hp : p ∈ B) (np : p ≠ b) (hi : σ[i]? = some (some (.ref p))) (hd : H p = some (.dK kvs)) (hl : kvs.length < 100)
    (hP : Stb B P) (h : EK b B m tv σ H P) (k : ∀ v H2 M, M ≤ N + m → BgAt b B M H2 → KeepB B H H2 → (∀ a o, a ≠ b → a ≠ p → H a = some o → H2 a = some o) → H2 p = some (.dK (putK kvs (.inr key) v)) → P v H2 → tz D σ H2) :
    tSeq (sDPut (tVar i) (tC (.str key)) tv) tz D σ H :=
  h N H hN (Keep.refl b H) g _ fun v H1 M lm k1 g1 pv => ⟨_, hi, p, _, rfl, DPut.k (k := .inr key) (k1 _ _ np hd) (Nat.lt_of_lt_of_le hl (by decide)), by
    have kk : KeepB B H1 (upd H1 p (.dK (putK kvs (.inr key) v))) := fun a u n e => by
      rw [upd_ne (fun z => n (by rw [z]; exact hp))]; exact e
    refine k v _ M lm ⟨?_, g1.inB, fun a ha => ?_⟩ ((kb g1.inB k1).trans kk) (fun a o n1 n2 e => by rw [upd_ne n2]; exact k1 a o n1 e) upd_same (hP _ _ _ pv kk)
    · obtain ⟨d, x, n, e, r⟩ := g1.bag
      exact ⟨d, x, n, by rw [upd_ne np.symm]; exact e, r⟩
    · by_cases e : a = p
      · subst e; exact ⟨_, upd_same⟩
      · obtain ⟨u, hu⟩ := g1.live a ha
        exact ⟨u, by rw [upd_ne e]; exact hu⟩⟩
def w0 (vf : V) : List (Key × V) := [(.inr "folders", vf)]
def w1 (vf vi : V) : List (Key × V) := [(.inr "folders", vf), (.inr "files", vi)]
def w2 (vf vi vk : V) : List (Key × V) := [(.inr "folders", vf), (.inr "files", vi), (.inr "packages", vk)]
theorem pw0 (vf : V) : putK ([] : List (Key × V)) (.inr "folders") vf = w0 vf := rfl
theorem kne {a b : Str} (h : a ≠ b) : ¬ ((Sum.inr a : Key) = Sum.inr b) := fun e => h (Sum.inr.inj e)
theorem n1 : ("folders" : Str) ≠ "files" := by decide +kernel
theorem n2 : ("folders" : Str) ≠ "packages" := by decide +kernel
theorem n3 : ("files" : Str) ≠ "packages" := by decide +kernel
theorem n4 : ("folders" : Str) ≠ "contents" := by decide +kernel
theorem n5 : ("files" : Str) ≠ "contents" := by decide +kernel
theorem n6 : ("packages" : Str) ≠ "contents" := by decide +kernel
theorem pw1 (vf vi : V) : putK (w0 vf) (.inr "files") vi = w1 vf vi := by simp [putK, w0, w1, kne n1]
theorem pw2 (vf vi vk : V) : putK (w1 vf vi) (.inr "packages") vk = w2 vf vi vk := by simp [putK, w1, w2, kne n2, kne n3]
theorem vw3 (vf vi vk : V) : valV (w2 vf vi vk) (.inr "files") = some vi := by simp [valV, w2, kne n1]
theorem paired_of {α β : Type} {F : α → β → Prop} : ∀ L : List (α × β), (∀ e ∈ L, F e.1 e.2) → Paired F (L.map (·.1)) (L.map (·.2))
  | [], _ => .nil
  | e :: L, h => .cons (h e List.mem_cons_self) (paired_of L fun x hx => h x (List.mem_cons_of_mem _ hx))
theorem vw1 (vf vi : V) : valV (w1 vf vi) (.inr "files") = some vi := by simp [valV, w1, kne n1]
theorem vw2 (vf vi vk vc : V) : valV (putK (w2 vf vi vk) (.inr "contents") vc) (.inr "folders") = some vf ∧ valV (putK (w2 vf vi vk) (.inr "contents") vc) (.inr "packages") = some vk := by
  constructor <;> simp [putK, valV, w2, kne n4, kne n5, kne n6, kne n2, kne n3]
abbrev s__law_words : Stmt := topS 30
abbrev N__law_words : List Str := ["_law_bag_here", "_law_way", "_law_words_here", "_law_some_here", "_law_name"]
theorem sc__law_words : FnScope ["_law_bag_here", "_law_way", "_law_words_here", "_law_some_here", "_law_name"] ["_law_bag_here"] (defScope s__law_words) := ⟨rfl, rfl, rfl, by decide +kernel, rfl, by decide +kernel, by decide +kernel⟩
section
variable {P : Program} {w : World} {K : PySem.W.Frag} {mg : Str → Option Value} {base : Heap} {tk1 tk2 : Tok}
theorem ok_words {f f1 f2 : Addr} {fd fd1 fd2 : FuncData} (F : Fun K "_law_words" "_law_words" s__law_words f fd) (T : Txt K mg tk1 tk2) (d__law_take : DefAt P w K mg base "_law_take" 1 f1 fd1 ["_law_bag_here", "_law_many"] spTakeC)
    (d__law_pick : DefAt P w K mg base "_law_pick" 2 f2 fd2 ["_law_bag_here", "_law_items"] (spPickC K)) : FnOk P w K mg base CX0 3 f fd ["_law_bag_here"] spWords := by
  refine F.ok sc__law_words (fun vs H Q E h => ?_) (fun cdv A outer s H vs Q E hr h => ?_)
  · obtain ⟨b, N, rfl, _⟩ := h
    rfl
  have hu1 := hu_of hr
  refine ⟨_, (pss_cons (ps_par (i := 1) (j := 2) (by rfl) sc__law_words.nd rfl rfl (by decide) rfl rfl (pa_cons (pe_callD d__law_take (hr.mono (by decide)) (pa_cons (pv 0) (pa_cons pe_int pa_nil))) (pa_cons pe_dnewK pa_nil)) (by rfl))
    (pss_cons (ps_dput hu1 (pv 2) pe_str (pe_ix ix_list (pe_lst (pa_cons (pe_lst (pa_cons pe_str (pa_cons pe_str (pa_cons pe_str pa_nil)))) (pa_cons (pe_lst (pa_cons pe_str (pa_cons pe_str (pa_cons pe_str pa_nil)))) (pa_cons (pe_lst (pa_cons pe_str (pa_cons pe_str (pa_cons pe_str pa_nil)))) (pa_cons (pe_lst (pa_cons pe_str (pa_cons pe_str (pa_cons pe_str pa_nil)))) pa_nil))))) (pv 1) (fun _ _ => rfl)) rfl)
    (pss_cons (ps_dput hu1 (pv 2) pe_str (pe_ix ix_list (pe_lst (pa_cons (pe_lst (pa_cons pe_str (pa_cons pe_str pa_nil))) (pa_cons (pe_lst (pa_cons pe_str (pa_cons pe_str pa_nil))) (pa_cons (pe_lst (pa_cons pe_str (pa_cons pe_str pa_nil))) (pa_cons (pe_lst (pa_cons pe_str (pa_cons pe_str pa_nil))) pa_nil))))) (pv 1) (fun _ _ => rfl)) rfl)
    (pss_cons (ps_dput hu1 (pv 2) pe_str (pe_ix ix_list (pe_lst (pa_cons (pe_lst (pa_cons pe_str (pa_cons pe_str (pa_cons pe_str pa_nil)))) (pa_cons (pe_lst (pa_cons pe_str (pa_cons pe_str (pa_cons pe_str pa_nil)))) (pa_cons (pe_lst (pa_cons pe_str (pa_cons pe_str (pa_cons pe_str pa_nil)))) pa_nil)))) (pe_callD d__law_take (hr.mono (by decide)) (pa_cons (pv 0) (pa_cons pe_int pa_nil))) (fun _ _ => rfl)) rfl)
    (pss_cons (ps_set (i := 3) sc__law_words.nd rfl (Or.inr rfl) (pe_lst (pa_cons pe_int (pa_cons pe_int (pa_cons pe_int (pa_cons (pe_un un_neg pe_int) (pa_cons (pe_op op_sub (pe_op op_pow pe_int pe_int) pe_int) (pa_cons (pe_op op_sub pe_int (pe_op op_pow pe_int pe_int)) pa_nil))))))))
    (pss_cons (ps_dput hu1 (pv 2) pe_str (pe_callTy (call_dictP rfl) (by rfl) T.n_dict (by decide +kernel) (pa_cons (pe_lc (own := [("_law_name", 4)]) rfl sc__law_words.nd (pi_list (pe_dget hu1 (pv 2) pe_str (fun _ _ => rfl))) (blkOk_by (N := N__law_words) (sc := defScope s__law_words) (by decide +kernel)) (fun _ _ _ _ _ => pg_name (i := 4) sc__law_words.nd rfl (Or.inl rfl)) (fun _ _ _ _ _ => pts_nil) (fun _ _ _ _ _ => (pe_tup (pa_cons (pv 4) (pa_cons (pe_callD d__law_pick (hr.mono (by decide)) (pa_cons (pv 0) (pa_cons (pv 3) pa_nil))) pa_nil))))) pa_nil)) rfl)
    (pss_one (ps_ret (pv 2))))))))), ?_⟩
  obtain ⟨b, N, rfl, hbag, hN, hq⟩ := h
  have hb : b ∈ [b] := List.mem_singleton.mpr rfl
  refine sk_par (B := [b]) (m := 1) (m' := 0) (bgAt1 hbag) (by omega) hb (fun _ _ _ h _ => h) (ek_take (c := 4) rfl (by decide)) (P' := fun x H' => ∃ p, x = .ref p ∧ H' p = some (.dK []) ∧ p ∉ [b] ∧ ∀ a o, a ≠ b → H a = some o → a ≠ p) (fun N H1 l k g Q q p hp => by
    obtain ⟨n1, g3, k3⟩ := g.new (o := .dK []) hp
    exact q _ _ N (Nat.le_refl _) k3 g3 ⟨p, rfl, upd_same, n1, fun a o na e z => by
      have z1 := k a o na e
      rw [z, hp] at z1; cases z1⟩) fun x y H1 M1 l1 k1 g1 ⟨r, ex, r0, r1⟩ ⟨p, ey, hp, np, fresh⟩ => ?_
  subst ex
  subst ey
  have np' : p ≠ b := fun e => np (List.mem_singleton.mpr e)
  have G1 : BgAt b [b, p] M1 H1 := ⟨g1.bag, List.mem_cons_self, fun a ha => by
    rcases List.mem_cons.mp ha with rfl | ha
    · exact g1.live _ hb
    · rw [List.mem_singleton.mp ha]; exact ⟨_, hp⟩⟩
  have K1 : KeepB [b, p] H H1 := kb List.mem_cons_self k1
  clear hb
  have hb : b ∈ [b, p] := List.mem_cons_self
  have hpB : p ∈ [b, p] := by simp
  have c4 : ∀ {H}, EK b [b, p] 0 (tVar 1) [some (V.ref b), some (V.int r), some (V.ref p), none, none] H (fun x _ => ∃ r, x = .int r ∧ 0 ≤ r ∧ r < (4 : Nat)) := fun {H} => ek_v rfl fun _ _ => ⟨r, rfl, r0, by exact_mod_cast r1⟩
  refine sk_dput (m := 0) (P := Ls okS [b, p] 3) G1 (by omega) hpB np' rfl hp (by decide) (ls_stb okS_stb) (by exact ek_ixL (K := K) (m := 0) (m' := 0) (n := 4) hb (ls_stb okS_stb) (ek_lst hb (ls_stb okS_stb) (eka_cons0 hb (ls_stb okS_stb) (ek_lst hb okS_stb (eka_cons0 hb okS_stb (ek_c fun _ => ⟨_, rfl, by decide +kernel, by decide +kernel⟩) (eka_cons0 hb okS_stb (ek_c fun _ => ⟨_, rfl, by decide +kernel, by decide +kernel⟩) (eka_cons0 hb okS_stb (ek_c fun _ => ⟨_, rfl, by decide +kernel, by decide +kernel⟩) eka_nil))) (by decide)) (eka_cons0 hb (ls_stb okS_stb) (ek_lst hb okS_stb (eka_cons0 hb okS_stb (ek_c fun _ => ⟨_, rfl, by decide +kernel, by decide +kernel⟩) (eka_cons0 hb okS_stb (ek_c fun _ => ⟨_, rfl, by decide +kernel, by decide +kernel⟩) (eka_cons0 hb okS_stb (ek_c fun _ => ⟨_, rfl, by decide +kernel, by decide +kernel⟩) eka_nil))) (by decide)) (eka_cons0 hb (ls_stb okS_stb) (ek_lst hb okS_stb (eka_cons0 hb okS_stb (ek_c fun _ => ⟨_, rfl, by decide +kernel, by decide +kernel⟩) (eka_cons0 hb okS_stb (ek_c fun _ => ⟨_, rfl, by decide +kernel, by decide +kernel⟩) (eka_cons0 hb okS_stb (ek_c fun _ => ⟨_, rfl, by decide +kernel, by decide +kernel⟩) eka_nil))) (by decide)) (eka_cons0 hb (ls_stb okS_stb) (ek_lst hb okS_stb (eka_cons0 hb okS_stb (ek_c fun _ => ⟨_, rfl, by decide +kernel, by decide +kernel⟩) (eka_cons0 hb okS_stb (ek_c fun _ => ⟨_, rfl, by decide +kernel, by decide +kernel⟩) (eka_cons0 hb okS_stb (ek_c fun _ => ⟨_, rfl, by decide +kernel, by decide +kernel⟩) eka_nil))) (by decide)) eka_nil)))) (by decide)) c4) fun vf H2 M2 l2 g2 k2 q2 d2 p2 => ?_
  rw [pw0] at d2
  refine sk_dput (m := 0) (P := Ls okS [b, p] 2) g2 (by omega) hpB np' rfl d2 (by show 1 < 100; decide) (ls_stb okS_stb) (by exact ek_ixL (K := K) (m := 0) (m' := 0) (n := 4) hb (ls_stb okS_stb) (ek_lst hb (ls_stb okS_stb) (eka_cons0 hb (ls_stb okS_stb) (ek_lst hb okS_stb (eka_cons0 hb okS_stb (ek_c fun _ => ⟨_, rfl, by decide +kernel, by decide +kernel⟩) (eka_cons0 hb okS_stb (ek_c fun _ => ⟨_, rfl, by decide +kernel, by decide +kernel⟩) eka_nil)) (by decide)) (eka_cons0 hb (ls_stb okS_stb) (ek_lst hb okS_stb (eka_cons0 hb okS_stb (ek_c fun _ => ⟨_, rfl, by decide +kernel, by decide +kernel⟩) (eka_cons0 hb okS_stb (ek_c fun _ => ⟨_, rfl, by decide +kernel, by decide +kernel⟩) eka_nil)) (by decide)) (eka_cons0 hb (ls_stb okS_stb) (ek_lst hb okS_stb (eka_cons0 hb okS_stb (ek_c fun _ => ⟨_, rfl, by decide +kernel, by decide +kernel⟩) (eka_cons0 hb okS_stb (ek_c fun _ => ⟨_, rfl, by decide +kernel, by decide +kernel⟩) eka_nil)) (by decide)) (eka_cons0 hb (ls_stb okS_stb) (ek_lst hb okS_stb (eka_cons0 hb okS_stb (ek_c fun _ => ⟨_, rfl, by decide +kernel, by decide +kernel⟩) (eka_cons0 hb okS_stb (ek_c fun _ => ⟨_, rfl, by decide +kernel, by decide +kernel⟩) eka_nil)) (by decide)) eka_nil)))) (by decide)) c4) fun vi H3 M3 l3 g3 k3 q3 d3 p3 => ?_
  rw [pw1] at d3
  refine sk_dput (m := 1) (P := Ls okS [b, p] 3) g3 (by omega) hpB np' rfl d3 (by show 2 < 100; decide) (ls_stb okS_stb) (by exact ek_ixL (K := K) (m := 0) (m' := 1) (n := 3) hb (ls_stb okS_stb) (ek_lst hb (ls_stb okS_stb) (eka_cons0 hb (ls_stb okS_stb) (ek_lst hb okS_stb (eka_cons0 hb okS_stb (ek_c fun _ => ⟨_, rfl, by decide +kernel, by decide +kernel⟩) (eka_cons0 hb okS_stb (ek_c fun _ => ⟨_, rfl, by decide +kernel, by decide +kernel⟩) (eka_cons0 hb okS_stb (ek_c fun _ => ⟨_, rfl, by decide +kernel, by decide +kernel⟩) eka_nil))) (by decide)) (eka_cons0 hb (ls_stb okS_stb) (ek_lst hb okS_stb (eka_cons0 hb okS_stb (ek_c fun _ => ⟨_, rfl, by decide +kernel, by decide +kernel⟩) (eka_cons0 hb okS_stb (ek_c fun _ => ⟨_, rfl, by decide +kernel, by decide +kernel⟩) (eka_cons0 hb okS_stb (ek_c fun _ => ⟨_, rfl, by decide +kernel, by decide +kernel⟩) eka_nil))) (by decide)) (eka_cons0 hb (ls_stb okS_stb) (ek_lst hb okS_stb (eka_cons0 hb okS_stb (ek_c fun _ => ⟨_, rfl, by decide +kernel, by decide +kernel⟩) (eka_cons0 hb okS_stb (ek_c fun _ => ⟨_, rfl, by decide +kernel, by decide +kernel⟩) (eka_cons0 hb okS_stb (ek_c fun _ => ⟨_, rfl, by decide +kernel, by decide +kernel⟩) eka_nil))) (by decide)) eka_nil))) (by decide)) (ek_take (c := 3) rfl (by decide))) fun vk H4 M4 l4 g4 k4 q4 d4 p4 => ?_
  rw [pw2] at d4
  have i1 : EK b [b, p] 0 (tC (.int 0)) [some (V.ref b), some (V.int r), some (V.ref p), none, none] H4 okI := ek_c fun _ => ⟨_, rfl⟩
  refine sk_asg (m := 0) (P := Ls okI [b, p] 6) g4 (by omega) (by exact ek_lst hb okI_stb (eka_cons0 hb okI_stb (ek_c fun _ => ⟨_, rfl⟩) (eka_cons0 hb okI_stb (ek_c fun _ => ⟨_, rfl⟩) (eka_cons0 hb okI_stb (ek_c fun _ => ⟨_, rfl⟩) (eka_cons0 hb okI_stb (ek_neg fun _ => ⟨_, rfl⟩)
    (eka_cons0 hb okI_stb (fun N H1 l k g Q q => ⟨_, _, rfl, rfl, ⟨by decide, by decide, by decide⟩, _, _, rfl, rfl, q _ H1 N (Nat.le_refl _) (Keep.refl b H1) g ⟨_, rfl⟩⟩) (eka_cons0 hb okI_stb (fun N H1 l k g Q q => ⟨_, _, rfl, rfl, ⟨by decide, by decide, by decide⟩, _, _, rfl, rfl, q _ H1 N (Nat.le_refl _) (Keep.refl b H1) g ⟨_, rfl⟩⟩) eka_nil)))))) (by decide)) fun y H5 M5 l5 k5 g5 p5 => ?_
  have d5 : H5 p = some (.dK (w2 vf vi vk)) := k5 _ _ np' d4
  obtain ⟨lf, xf, rfl, nf, hlf, gf, lnf⟩ := (ls_stb okS_stb _ _ _ p3 (k4.trans (kb hb k5)) : Ls okS [b, p] 2 vi H5)
  obtain ⟨ly, xy, rfl, ny, hly, gy, lny⟩ := p5
  refine sk_dput (m := 2) (P := okA) g5 (by omega) hpB np' rfl d5 (by show 3 < 100; decide) okA_stb ?_ fun vc H6 M6 l6 g6 k6 q6 d6 p6 => ?_
  · intro N7 H7 lN7 k7 g7 Q7 q7
    have d7 := k7 _ _ np' d5
    have hf7 := k7 _ _ (fun e => nf (by rw [e]; simp)) hlf
    have hy7 := k7 _ _ (fun e => ny (by rw [e]; simp)) hly
    have dg : DGet H7 p (.str "files") (some (.ref lf)) := by
      have := DGet.k (k := .inr "files") d7
      rw [vw3] at this
      exact this
    refine ⟨.ref p, rfl, p, .ref lf, rfl, dg, lf, rfl, ⟨xf, SqL.of hf7⟩, fun Dl hD => ?_⟩
    have nDb : Dl ≠ b := BagC.ne g7.bag hD
    refine lc_it walk_list (fun i H' => ∃ M, M ≤ N7 + i ∧ BgAt b [b, p] M H' ∧ Keep b H7 H' ∧ ∃ L : List (Addr × (Key × V)), H' Dl = some (.lst ((L.map (·.1)).map V.ref)) ∧ (∀ e ∈ L, H' e.1 = some (.tup [kV e.2.1, e.2.2]) ∧ e.1 ≠ Dl ∧ e.1 ≠ b) ∧ L.length = i)
      ⟨N7, Nat.le_refl _, (g7.new hD).2.1, (g7.new hD).2.2, [], upd_same, (fun e he => (nomatch he)), rfl⟩ (fun i H' _ ⟨M, _, _, k, _⟩ => SqL.of (k _ _ (fun e => nf (by rw [e]; simp)) hf7)) ?_ ?_
    · rintro i x H8 H8' hi ⟨M8, l8, g8, k8, L, hL, hE, hn⟩ ⟨rfl, hx⟩
      obtain ⟨z, rfl, hz⟩ := gf x (List.mem_of_getElem? hx)
      refine ⟨rfl, ?_⟩
      have hy8 := k8 _ _ (fun e => ny (by rw [e]; simp)) hy7
      refine ⟨_, rfl, _, rfl, _, rfl, b, ly, xy, M8, rfl, g8.bag, by omega, fun e => ny (by rw [e]; simp), SqL.of hy8, by omega, by omega, fun H9 v k9 g9 hv => ?_⟩
      refine ⟨by show 2 ≤ sizeLine; decide, fun q hq' => ?_⟩
      have G9 : BgAt b [b, p] (M8 + 1) H9 := g8.keep k9 g9
      have hD9 := k9 _ _ nDb hL
      obtain ⟨nq, G10, k10⟩ := G9.new (o := .tup [.str z, v]) hq'
      have nqD : q ≠ Dl := fun e => by rw [e, hD9] at hq'; cases hq'
      have nqb : q ≠ b := fun e => nq (by rw [e]; simp)
      have kD : Keep b (upd H9 q (.tup [.str z, v])) (upd (upd H9 q (.tup [.str z, v])) Dl (.lst ((L.map (·.1)).map V.ref ++ [.ref q]))) → True := fun _ => trivial
      refine ⟨(L.map (·.1)).map V.ref, k10 _ _ nDb hD9, ?_, M8 + 1, by omega, ⟨?_, hb, fun a ha => ?_⟩, fun a o na e => ?_, L ++ [(q, (.inr z, v))], ?_, fun e he => ?_, ?_⟩
      · rw [List.length_map, List.length_map]; exact Evl.sz_lt (by omega)
      · obtain ⟨d, x, n, e, r⟩ := G10.bag
        exact ⟨d, x, n, by rw [upd_ne nDb.symm]; exact e, r⟩
      · obtain ⟨u, hu⟩ := G10.live a ha
        by_cases e : a = Dl
        · subst e; exact ⟨_, upd_same⟩
        · exact ⟨u, by rw [upd_ne e]; exact hu⟩
      · have nDa : a ≠ Dl := fun z => by rw [z, hD] at e; cases e
        rw [upd_ne nDa]
        exact k10 _ _ na (k9 _ _ na (k8 _ _ na e))
      · rw [upd_same, List.map_append, List.map_append]; rfl
      · rcases List.mem_append.mp he with he | he
        · obtain ⟨a1, a2, a3⟩ := hE e he
          exact ⟨by rw [upd_ne a2]; exact k10 _ _ a3 (k9 _ _ a3 a1), a2, a3⟩
        · rw [List.mem_singleton.mp he]
          exact ⟨by rw [upd_ne nqD]; exact upd_same, nqD, nqb⟩
      · rw [List.length_append, hn]; rfl
    · rintro H8 ⟨M8, l8, g8, k8, L, hL, hE, hn⟩
      refine ⟨Dl, L.map (·.1), L.map (·.2), rfl, SqL.of hL, paired_of L fun e he => SqT.of (hE e he).1, fun r hr' => ?_⟩
      obtain ⟨_, G9, k9⟩ := g8.new (o := .dK (mergeK [] (L.map (·.2)))) hr'
      exact q7 _ _ M8 (by omega) (k8.trans k9) G9 trivial
  · have kk : Keep b H H6 := fun a o na e => by
      have npa : a ≠ p := fresh a o na e
      exact q6 _ _ na npa (k5 _ _ na (q4 _ _ na npa (q3 _ _ na npa (q2 _ _ na npa (k1 _ _ na e)))))
    have vv := vw2 vf (.ref lf) vk vc
    exact sk_ret (m := 0) (P := fun x _ => x = .ref p) g6 (by omega) (ek_v rfl fun _ _ => rfl) fun x H7 M7 l7 k7 g7 e => by
      subst e
      have d7 := k7 _ _ np' d6
      refine hq H7 p M7 (by omega) (kk.trans k7) g7.bag ⟨_, vf, vk, d7, np, vv.1, vv.2, ?_, ?_⟩
      · exact Ls_less (fun a ha => by rw [List.mem_singleton.mp ha]; simp) (ls_stb okS_stb _ _ _ p2 ((((k3.trans k4).trans (kb hb k5)).trans k6).trans (kb hb k7)))
      · exact Ls_less (fun a ha => by rw [List.mem_singleton.mp ha]; simp) (ls_stb okS_stb _ _ _ p4 (((kb hb k5).trans k6).trans (kb hb k7)))
end
end KA

set_option Elab.async false
set_option linter.all false
set_option maxRecDepth 100000
set_option maxHeartbeats 8000000
namespace KA
open PySem PySem.Spec PyProof.Rows L2 LF
open Evl (Ex sq_of st_of)
def spOdd : Sp := fun vs H Q _ => ∃ (b o dd p : Addr) (x0 : V) (kvs : List (Key × V)) (N : Nat), vs = [.ref b, .ref o, .ref p] ∧ BagC H b N ∧ N + 4 ≤ 900000 ∧ Wd [b] p H ∧ H o = some (.tup [.ref dd, x0]) ∧ H dd = some (.dK kvs) ∧ kvs.map (·.1) = [.inl 0, .inl 1] ∧
  ∀ H' v M, M ≤ N + 4 → Keep b H H' → BagC H' b M → GE [b] v H' → Q v H'
abbrev s__law_odd_deed : Stmt := topS 28
abbrev N__law_odd_deed : List Str := ["_law_bag_here", "_law_old", "_law_words_here", "_law_joints", "_law_name", "_law_one", "_law_other", "_law_some_here"]
theorem sc__law_odd_deed : FnScope ["_law_bag_here", "_law_old", "_law_words_here", "_law_joints", "_law_name", "_law_one", "_law_other", "_law_some_here"] ["_law_bag_here", "_law_old", "_law_words_here"] (defScope s__law_odd_deed) := ⟨rfl, rfl, rfl, by decide +kernel, rfl, by decide +kernel, by decide +kernel⟩
section
variable {P : Program} {w : World} {K : PySem.W.Frag} {mg : Str → Option Value} {base : Heap} {tk1 tk2 : Tok}
theorem ok_odd {f f2 : Addr} {fd fd2 : FuncData} (F : Fun K "_law_odd_deed" "_law_odd_deed" s__law_odd_deed f fd) (T : Txt K mg tk1 tk2) (d__law_pick : DefAt P w K mg base "_law_pick" 2 f2 fd2 ["_law_bag_here", "_law_items"] (spPickC K)) :
    FnOk P w K mg base CX0 3 f fd ["_law_bag_here", "_law_old", "_law_words_here"] spOdd := by
  refine F.ok sc__law_odd_deed (fun vs H Q E h => ?_) (fun cdv A outer s H vs Q E hr h => ?_)
  · obtain ⟨b, o, dd, p, x0, kvs, N, rfl, _⟩ := h
    rfl
  have hu1 := hu_of hr
  refine ⟨_, (pss_cons (ps_par (i := 3) (j := 4) (by rfl) sc__law_odd_deed.nd rfl rfl (by decide) rfl rfl (pa_cons (pe_op op_cat (pe_callB (call_sortedDI rfl) (by rfl) T.n_sorted (by decide +kernel) (pa_cons (pe_ix ix_tup (pv 1) pe_int (fun _ _ => rfl)) pa_nil)) (pe_lst (pa_cons pe_int (pa_cons pe_int pa_nil)))) (pa_cons (pe_callD d__law_pick (hr.mono (by decide)) (pa_cons (pv 0) (pa_cons (pe_op op_cat (pe_dget hu1 (pv 2) pe_str (fun _ _ => rfl)) (pe_lst (pa_cons pe_str (pa_cons pe_str pa_nil)))) pa_nil))) pa_nil)) (by rfl))
    (pss_cons (ps_par (i := 5) (j := 6) (by rfl) sc__law_odd_deed.nd rfl rfl (by decide) rfl rfl (pa_cons (pe_callD d__law_pick (hr.mono (by decide)) (pa_cons (pv 0) (pa_cons (pv 3) pa_nil))) (pa_cons (pe_callD d__law_pick (hr.mono (by decide)) (pa_cons (pv 0) (pa_cons (pv 3) pa_nil))) pa_nil)) (by rfl))
    (pss_cons (ps_set (i := 7) sc__law_odd_deed.nd rfl (Or.inl rfl) (pe_lst (pa_cons pe_non (pa_cons pe_bl (pa_cons pe_str (pa_cons (pe_tup pa_nil) (pa_cons (pe_lst pa_nil) (pa_cons (pe_tup (pa_cons pe_str pa_nil)) (pa_cons (pe_tup (pa_cons pe_str (pa_cons (pe_tup pa_nil) pa_nil))) (pa_cons (pe_tup (pa_cons pe_str (pa_cons (pe_tup pa_nil) pa_nil))) (pa_cons (pe_tup (pa_cons pe_str (pa_cons (pv 5) pa_nil))) (pa_cons (pe_tup (pa_cons pe_str (pa_cons (pv 5) pa_nil))) (pa_cons pe_dnewK pa_nil)))))))))))))
    (pss_cons (ps_set (i := 7) sc__law_odd_deed.nd rfl (Or.inl rfl) (pe_op op_cat (pv 7) (pe_lst (pa_cons (pe_tup (pa_cons pe_str (pa_cons (pe_tup (pa_cons (pe_tup (pa_cons pe_int (pa_cons (pe_tup pa_nil) pa_nil))) pa_nil)) pa_nil))) (pa_cons (pe_tup (pa_cons pe_str (pa_cons (pe_tup (pa_cons (pe_tup (pa_cons pe_int (pa_cons (pe_tup (pa_cons (pe_tup (pa_cons (pv 4) (pa_cons pe_int pa_nil))) pa_nil)) pa_nil))) (pa_cons (pe_tup (pa_cons pe_int (pa_cons (pe_tup (pa_cons (pe_tup (pa_cons (pv 4) (pa_cons pe_int pa_nil))) pa_nil)) pa_nil))) pa_nil))) pa_nil))) pa_nil)))))
    (pss_cons (ps_set (i := 7) sc__law_odd_deed.nd rfl (Or.inl rfl) (pe_op op_cat (pv 7) (pe_lst (pa_cons (pe_tup (pa_cons pe_str (pa_cons (pe_tup (pa_cons (pe_tup (pa_cons (pv 5) (pa_cons (pe_tup pa_nil) pa_nil))) pa_nil)) pa_nil))) (pa_cons (pe_tup (pa_cons pe_str (pa_cons (pe_tup (pa_cons (pe_tup (pa_cons pe_int (pa_cons (pe_tup (pa_cons (pe_tup (pa_cons (pv 4) (pa_cons pe_int pa_nil))) pa_nil)) pa_nil))) pa_nil)) pa_nil))) (pa_cons (pe_tup (pa_cons pe_str (pa_cons (pe_tup (pa_cons (pe_tup (pa_cons pe_int (pa_cons (pe_tup pa_nil) pa_nil))) (pa_cons (pe_tup (pa_cons pe_int (pa_cons (pe_tup pa_nil) pa_nil))) pa_nil))) pa_nil))) pa_nil))))))
    (pss_cons (ps_set (i := 7) sc__law_odd_deed.nd rfl (Or.inl rfl) (pe_op op_cat (pv 7) (pe_lst (pa_cons (pe_tup (pa_cons pe_str (pa_cons (pe_lst (pa_cons (pe_tup (pa_cons pe_int (pa_cons (pe_tup pa_nil) pa_nil))) pa_nil)) pa_nil))) (pa_cons (pe_lst (pa_cons pe_str (pa_cons (pe_tup (pa_cons (pv 5) pa_nil)) pa_nil))) (pa_cons (pe_tup (pa_cons pe_str (pa_cons (pe_tup (pa_cons (pe_tup (pa_cons pe_int (pa_cons (pe_tup (pa_cons (pe_tup (pa_cons pe_str (pa_cons pe_int pa_nil))) (pa_cons (pe_tup (pa_cons pe_str (pa_cons pe_int pa_nil))) pa_nil))) pa_nil))) pa_nil)) pa_nil))) pa_nil))))))
    (pss_cons (ps_set (i := 7) sc__law_odd_deed.nd rfl (Or.inl rfl) (pe_op op_cat (pv 7) (pe_lst (pa_cons (pe_tup (pa_cons pe_str (pa_cons (pe_tup (pa_cons (pe_tup (pa_cons pe_bl (pa_cons (pe_tup pa_nil) pa_nil))) pa_nil)) pa_nil))) (pa_cons (pe_tup (pa_cons pe_str (pa_cons (pe_tup (pa_cons (pv 5) (pa_cons (pv 6) pa_nil))) pa_nil))) (pa_cons (pe_tup (pa_cons pe_str (pa_cons (pe_tup (pa_cons (pv 5) pa_nil)) pa_nil))) (pa_cons (pe_tup (pa_cons pe_str (pa_cons (pe_tup (pa_cons (pe_un un_neg pe_int) pa_nil)) pa_nil))) pa_nil)))))))
    (pss_cons (ps_set (i := 7) sc__law_odd_deed.nd rfl (Or.inl rfl) (pe_op op_cat (pv 7) (pe_lst (pa_cons (pe_tup (pa_cons pe_str (pa_cons (pv 5) (pa_cons (pv 4) (pa_cons (pv 6) pa_nil))))) (pa_cons (pe_tup (pa_cons pe_str (pa_cons (pv 5) (pa_cons (pv 4) (pa_cons pe_non pa_nil))))) (pa_cons (pe_tup (pa_cons pe_str (pa_cons (pe_un un_neg pe_int) (pa_cons pe_str (pa_cons (pv 5) pa_nil))))) pa_nil))))))
    (pss_cons (ps_set (i := 7) sc__law_odd_deed.nd rfl (Or.inl rfl) (pe_op op_cat (pv 7) (pe_lst (pa_cons (pe_tup (pa_cons pe_str (pa_cons (pe_un un_neg pe_int) (pa_cons (pv 4) (pa_cons (pv 5) pa_nil))))) (pa_cons (pe_tup (pa_cons pe_str (pa_cons (pe_un un_neg pe_int) (pa_cons pe_str (pa_cons pe_non pa_nil))))) (pa_cons (pe_tup (pa_cons pe_str (pa_cons pe_bl (pa_cons (pv 4) (pa_cons (pv 5) pa_nil))))) pa_nil))))))
    (pss_cons (ps_set (i := 7) sc__law_odd_deed.nd rfl (Or.inl rfl) (pe_op op_cat (pv 7) (pe_lst (pa_cons (pe_tup (pa_cons pe_str (pa_cons (pv 5) (pa_cons (pv 4) (pa_cons pe_bl pa_nil))))) (pa_cons (pe_tup (pa_cons pe_str (pa_cons (pv 5) (pa_cons (pv 4) (pa_cons (pe_un un_neg pe_int) pa_nil))))) (pa_cons (pe_tup (pa_cons pe_str (pa_cons (pv 5) (pa_cons (pv 4) (pa_cons (pe_tup (pa_cons pe_str (pa_cons pe_str pa_nil))) pa_nil))))) pa_nil))))))
    (pss_cons (ps_set (i := 7) sc__law_odd_deed.nd rfl (Or.inl rfl) (pe_op op_cat (pv 7) (pe_lst (pa_cons (pe_tup (pa_cons pe_str (pa_cons (pv 5) (pa_cons (pv 4) (pa_cons (pe_tup (pa_cons pe_str (pa_cons pe_str pa_nil))) pa_nil))))) (pa_cons (pe_tup (pa_cons pe_str (pa_cons (pv 5) (pa_cons (pv 4) (pa_cons (pe_tup (pa_cons pe_str (pa_cons pe_str pa_nil))) pa_nil))))) (pa_cons (pe_tup (pa_cons pe_str (pa_cons (pv 5) (pa_cons (pv 4) (pa_cons (pv 6) pa_nil))))) pa_nil))))))
    (pss_one (ps_ret (pe_callD d__law_pick (hr.mono (by decide)) (pa_cons (pv 0) (pa_cons (pe_op op_cat (pv 7) (pe_lst (pa_cons (pe_tup (pa_cons pe_str (pa_cons (pv 5) (pa_cons (pv 4) (pa_cons (pv 6) (pa_cons pe_int pa_nil)))))) pa_nil))) pa_nil)))))))))))))))), ?_⟩
  obtain ⟨b, o, dd, p, x0, kvs, N, rfl, hbag, hN, hw, ho, hdd, hkeys, hq⟩ := h
  have hb : b ∈ [b] := List.mem_singleton.mpr rfl
  have nob : o ≠ b := fun e => by
    obtain ⟨_, _, _, h, _⟩ := hbag
    rw [e, h] at ho; cases ho
  have ndb : dd ≠ b := fun e => by
    obtain ⟨_, _, _, h, _⟩ := hbag
    rw [e, h] at hdd; cases hdd
  refine sk_par (B := [b]) (m := 0) (m' := 1) (P' := okS) (bgAt1 hbag) (by omega) hb (ls_stb okI_stb (n := 4)) (by
      refine ek_cat0 (n := 2) (n' := 2) hb okI_stb (fun N1 H1 l1 k1 g1 Q1 q1 => ?_) (ek_lst hb okI_stb (eka_cons0 hb okI_stb (ek_c fun _ => ⟨_, rfl⟩) (eka_cons0 hb okI_stb (ek_c fun _ => ⟨_, rfl⟩) eka_nil)) (by decide)) (by decide)
      refine ⟨.ref o, rfl, o, _, 0, .ref dd, rfl, rfl, SqT.of (k1 _ _ nob ho), rfl, dd, kvs, [0, 1], rfl, Or.inl (k1 _ _ ndb hdd), hkeys, by decide, fun ys p hy _ hp => ?_⟩
      obtain ⟨n1, g2, k2⟩ := g1.new (o := .lst (ys.map V.int)) hp
      refine q1 _ _ N1 (Nat.le_refl _) k2 g2 ⟨p, ys.map V.int, rfl, n1, upd_same, fun v hv => ?_, by rw [List.length_map, hy.length_eq]; rfl⟩
      obtain ⟨i, _, rfl⟩ := List.mem_map.mp hv
      exact ⟨i, rfl⟩) (by
      refine ek_pick (K := K) (m := 0) (n := 5) (G := okS) hb okS_stb rfl (ek_cat0 (n := 3) (n' := 2) hb okS_stb (fun N1 H1 l1 k1 g1 Q1 q1 => ?_) (ek_lst hb okS_stb (eka_cons0 hb okS_stb (ek_c fun _ => ⟨_, rfl, by decide +kernel, by decide +kernel⟩) (eka_cons0 hb okS_stb (ek_c fun _ => ⟨_, rfl, by decide +kernel, by decide +kernel⟩) eka_nil)) (by decide)) (by decide)) (by decide)
      obtain ⟨kvs', vf, vk, h1, h2, h3, h4, h5, h6⟩ := hw.stb (kb hb k1)
      have dg := DGet.k (k := .inr "folders") h1
      rw [h3] at dg
      exact ⟨.ref p, rfl, p, vf, rfl, dg, q1 vf H1 N1 (Nat.le_refl _) (Keep.refl b H1) g1 h5⟩) fun y2 z2 H2 M2 l2 k2 g2 p2 ⟨name, ez, hname8, hnameo⟩ => ?_
  subst ez
  have hname : name.length ≤ 1000 ∧ PyData.strOk name = true := ⟨by omega, hnameo⟩
  have pk : ∀ {H H'}, Ls okI [b] 4 y2 H → Keep b H H' → Ls okI [b] 4 y2 H' := fun h k => ls_stb okI_stb _ _ _ h (kb hb k)
  refine sk_par (B := [b]) (m := 1) (m' := 1) (P := okI) (P' := okI) g2 (by omega) hb okI_stb (by exact ek_pick (K := K) (m := 0) (n := 4) hb okI_stb rfl (ek_v rfl fun H1 k => pk p2 k) (by decide)) (by exact ek_pick (K := K) (m := 0) (n := 4) (G := okI) hb okI_stb rfl (ek_v rfl fun H1 k => pk p2 k) (by decide)) fun y3 z3 H3 M3 l3 k3 g3 ⟨one, e3⟩ ⟨other, e3'⟩ => ?_
  subst e3
  subst e3'
  refine sk_asg (m := 0) (P := Ls (GE [b]) [b] 11) g3 (by omega) (by exact (ek_lst (n := 11) hb ge_stb (by
      repeat' (first
        | exact eka_nil
        | apply eka_cons0 hb ge_stb
        | apply eka_cons0 hb gd_stb
        | exact ek_dnew
        | refine ek_ge ?_
        | apply ek_tup hb
        | apply ek_lstD hb
        | exact ek_c fun _ => gd_non
        | exact ek_c fun _ => gd_bl _
        | exact ek_c fun _ => gd_int _
        | exact ek_c fun _ => gd_str ⟨by decide +kernel, by decide +kernel⟩
        | exact ek_neg fun _ => gd_int _
        | exact ek_v rfl fun _ _ => gd_int _
        | exact ek_v rfl fun _ _ => gd_str hname
        | decide)) (by decide))) fun y4 H4 M4 l4 k4 g4 p4 => ?_
  refine sk_asg (m := 0) (P := Ls (GE [b]) [b] 13) g4 (by omega) (by exact (ek_cat0 (n := 11) (n' := 2) hb ge_stb (ek_v rfl fun H1 k => ls_stb ge_stb _ _ _ p4 (kb hb k)) (ek_lst (n := 2) hb ge_stb (by
      repeat' (first
        | exact eka_nil
        | apply eka_cons0 hb ge_stb
        | apply eka_cons0 hb gd_stb
        | exact ek_dnew
        | refine ek_ge ?_
        | apply ek_tup hb
        | apply ek_lstD hb
        | exact ek_c fun _ => gd_non
        | exact ek_c fun _ => gd_bl _
        | exact ek_c fun _ => gd_int _
        | exact ek_c fun _ => gd_str ⟨by decide +kernel, by decide +kernel⟩
        | exact ek_neg fun _ => gd_int _
        | exact ek_v rfl fun _ _ => gd_int _
        | exact ek_v rfl fun _ _ => gd_str hname
        | decide)) (by decide)) (by decide))) fun y5 H5 M5 l5 k5 g5 p5 => ?_
  refine sk_asg (m := 0) (P := Ls (GE [b]) [b] 16) g5 (by omega) (by exact (ek_cat0 (n := 13) (n' := 3) hb ge_stb (ek_v rfl fun H1 k => ls_stb ge_stb _ _ _ p5 (kb hb k)) (ek_lst (n := 3) hb ge_stb (by
      repeat' (first
        | exact eka_nil
        | apply eka_cons0 hb ge_stb
        | apply eka_cons0 hb gd_stb
        | exact ek_dnew
        | refine ek_ge ?_
        | apply ek_tup hb
        | apply ek_lstD hb
        | exact ek_c fun _ => gd_non
        | exact ek_c fun _ => gd_bl _
        | exact ek_c fun _ => gd_int _
        | exact ek_c fun _ => gd_str ⟨by decide +kernel, by decide +kernel⟩
        | exact ek_neg fun _ => gd_int _
        | exact ek_v rfl fun _ _ => gd_int _
        | exact ek_v rfl fun _ _ => gd_str hname
        | decide)) (by decide)) (by decide))) fun y6 H6 M6 l6 k6 g6 p6 => ?_
  refine sk_asg (m := 0) (P := Ls (GE [b]) [b] 19) g6 (by omega) (by exact (ek_cat0 (n := 16) (n' := 3) hb ge_stb (ek_v rfl fun H1 k => ls_stb ge_stb _ _ _ p6 (kb hb k)) (ek_lst (n := 3) hb ge_stb (by
      repeat' (first
        | exact eka_nil
        | apply eka_cons0 hb ge_stb
        | apply eka_cons0 hb gd_stb
        | exact ek_dnew
        | refine ek_ge ?_
        | apply ek_tup hb
        | apply ek_lstD hb
        | exact ek_c fun _ => gd_non
        | exact ek_c fun _ => gd_bl _
        | exact ek_c fun _ => gd_int _
        | exact ek_c fun _ => gd_str ⟨by decide +kernel, by decide +kernel⟩
        | exact ek_neg fun _ => gd_int _
        | exact ek_v rfl fun _ _ => gd_int _
        | exact ek_v rfl fun _ _ => gd_str hname
        | decide)) (by decide)) (by decide))) fun y7 H7 M7 l7 k7 g7 p7 => ?_
  refine sk_asg (m := 0) (P := Ls (GE [b]) [b] 23) g7 (by omega) (by exact (ek_cat0 (n := 19) (n' := 4) hb ge_stb (ek_v rfl fun H1 k => ls_stb ge_stb _ _ _ p7 (kb hb k)) (ek_lst (n := 4) hb ge_stb (by
      repeat' (first
        | exact eka_nil
        | apply eka_cons0 hb ge_stb
        | apply eka_cons0 hb gd_stb
        | exact ek_dnew
        | refine ek_ge ?_
        | apply ek_tup hb
        | apply ek_lstD hb
        | exact ek_c fun _ => gd_non
        | exact ek_c fun _ => gd_bl _
        | exact ek_c fun _ => gd_int _
        | exact ek_c fun _ => gd_str ⟨by decide +kernel, by decide +kernel⟩
        | exact ek_neg fun _ => gd_int _
        | exact ek_v rfl fun _ _ => gd_int _
        | exact ek_v rfl fun _ _ => gd_str hname
        | decide)) (by decide)) (by decide))) fun y8 H8 M8 l8 k8 g8 p8 => ?_
  refine sk_asg (m := 0) (P := Ls (GE [b]) [b] 26) g8 (by omega) (by exact (ek_cat0 (n := 23) (n' := 3) hb ge_stb (ek_v rfl fun H1 k => ls_stb ge_stb _ _ _ p8 (kb hb k)) (ek_lst (n := 3) hb ge_stb (by
      repeat' (first
        | exact eka_nil
        | apply eka_cons0 hb ge_stb
        | apply eka_cons0 hb gd_stb
        | exact ek_dnew
        | refine ek_ge ?_
        | apply ek_tup hb
        | apply ek_lstD hb
        | exact ek_c fun _ => gd_non
        | exact ek_c fun _ => gd_bl _
        | exact ek_c fun _ => gd_int _
        | exact ek_c fun _ => gd_str ⟨by decide +kernel, by decide +kernel⟩
        | exact ek_neg fun _ => gd_int _
        | exact ek_v rfl fun _ _ => gd_int _
        | exact ek_v rfl fun _ _ => gd_str hname
        | decide)) (by decide)) (by decide))) fun y9 H9 M9 l9 k9 g9 p9 => ?_
  refine sk_asg (m := 0) (P := Ls (GE [b]) [b] 29) g9 (by omega) (by exact (ek_cat0 (n := 26) (n' := 3) hb ge_stb (ek_v rfl fun H1 k => ls_stb ge_stb _ _ _ p9 (kb hb k)) (ek_lst (n := 3) hb ge_stb (by
      repeat' (first
        | exact eka_nil
        | apply eka_cons0 hb ge_stb
        | apply eka_cons0 hb gd_stb
        | exact ek_dnew
        | refine ek_ge ?_
        | apply ek_tup hb
        | apply ek_lstD hb
        | exact ek_c fun _ => gd_non
        | exact ek_c fun _ => gd_bl _
        | exact ek_c fun _ => gd_int _
        | exact ek_c fun _ => gd_str ⟨by decide +kernel, by decide +kernel⟩
        | exact ek_neg fun _ => gd_int _
        | exact ek_v rfl fun _ _ => gd_int _
        | exact ek_v rfl fun _ _ => gd_str hname
        | decide)) (by decide)) (by decide))) fun y10 H10 M10 l10 k10 g10 p10 => ?_
  refine sk_asg (m := 0) (P := Ls (GE [b]) [b] 32) g10 (by omega) (by exact (ek_cat0 (n := 29) (n' := 3) hb ge_stb (ek_v rfl fun H1 k => ls_stb ge_stb _ _ _ p10 (kb hb k)) (ek_lst (n := 3) hb ge_stb (by
      repeat' (first
        | exact eka_nil
        | apply eka_cons0 hb ge_stb
        | apply eka_cons0 hb gd_stb
        | exact ek_dnew
        | refine ek_ge ?_
        | apply ek_tup hb
        | apply ek_lstD hb
        | exact ek_c fun _ => gd_non
        | exact ek_c fun _ => gd_bl _
        | exact ek_c fun _ => gd_int _
        | exact ek_c fun _ => gd_str ⟨by decide +kernel, by decide +kernel⟩
        | exact ek_neg fun _ => gd_int _
        | exact ek_v rfl fun _ _ => gd_int _
        | exact ek_v rfl fun _ _ => gd_str hname
        | decide)) (by decide)) (by decide))) fun y11 H11 M11 l11 k11 g11 p11 => ?_
  refine sk_asg (m := 0) (P := Ls (GE [b]) [b] 35) g11 (by omega) (by exact (ek_cat0 (n := 32) (n' := 3) hb ge_stb (ek_v rfl fun H1 k => ls_stb ge_stb _ _ _ p11 (kb hb k)) (ek_lst (n := 3) hb ge_stb (by
      repeat' (first
        | exact eka_nil
        | apply eka_cons0 hb ge_stb
        | apply eka_cons0 hb gd_stb
        | exact ek_dnew
        | refine ek_ge ?_
        | apply ek_tup hb
        | apply ek_lstD hb
        | exact ek_c fun _ => gd_non
        | exact ek_c fun _ => gd_bl _
        | exact ek_c fun _ => gd_int _
        | exact ek_c fun _ => gd_str ⟨by decide +kernel, by decide +kernel⟩
        | exact ek_neg fun _ => gd_int _
        | exact ek_v rfl fun _ _ => gd_int _
        | exact ek_v rfl fun _ _ => gd_str hname
        | decide)) (by decide)) (by decide))) fun y12 H12 M12 l12 k12 g12 p12 => ?_
  exact sk_ret (m := 1) (P := GE [b]) g12 (by omega) (by exact (ek_pick (K := K) (m := 0) (n := 36) hb ge_stb rfl (ek_cat0 (n := 35) (n' := 1) hb ge_stb (ek_v rfl fun H1 k => ls_stb ge_stb _ _ _ p12 (kb hb k)) (ek_lst (n := 1) hb ge_stb (by
      repeat' (first
        | exact eka_nil
        | apply eka_cons0 hb ge_stb
        | apply eka_cons0 hb gd_stb
        | exact ek_dnew
        | refine ek_ge ?_
        | apply ek_tup hb
        | apply ek_lstD hb
        | exact ek_c fun _ => gd_non
        | exact ek_c fun _ => gd_bl _
        | exact ek_c fun _ => gd_int _
        | exact ek_c fun _ => gd_str ⟨by decide +kernel, by decide +kernel⟩
        | exact ek_neg fun _ => gd_int _
        | exact ek_v rfl fun _ _ => gd_int _
        | exact ek_v rfl fun _ _ => gd_str hname
        | decide)) (by decide)) (by decide)) (by decide))) fun v H99 M99 l99 k99 g99 p99 => hq H99 v M99 (by omega) ((((((((((((k2).trans k3).trans k4).trans k5).trans k6).trans k7).trans k8).trans k9).trans k10).trans k11).trans k12).trans k99) g99.bag p99
end
end KA

set_option Elab.async false
set_option linter.all false
set_option maxRecDepth 100000
set_option maxHeartbeats 4000000
namespace LF
open PySem PySem.Spec PyProof.Rows L2
open Evl (Ev EvL EvU EvT EvA EvO Ex sq_of st_of)
def rNeQ (K : PySem.W.Frag) : R2 := fun x y H Q => ∃ d e, Dp K H x d ∧ Dp K H y e ∧ d.canLay0 = true ∧ e.canLay0 = true ∧ e.depth ≤ 60 ∧ Q (.bl (!PyData.eqv d e)) H
theorem op_neQ {X : Cx} (hu : X.A.units + 64 < cLine) : OpR X (compareOp .NotEq) (rNeQ X.K) := by
  intro pins s σ H x y v u Q I rx ry h
  obtain ⟨d, e, hd, he, sd, se, hz, q⟩ := h
  obtain ⟨as, r1⟩ := Dp.reads I d x v hd rx
  obtain ⟨bs, r2⟩ := Dp.reads I e y u he ry
  have h2 : min d.depth e.depth ≤ e.depth := Nat.min_le_right _ _
  exact SeqAt.compareNe_reads r1 r2 sd se (by omega) ⟨.bl _, H, I, rfl, q⟩
/-- a list, of so many items at most -/
def LsM (G : V → Hp → Prop) (B : List Addr) (n : Nat) : V → Hp → Prop := fun x H => ∃ p xs, x = .ref p ∧ p ∉ B ∧ H p = some (.lst xs) ∧ (∀ v ∈ xs, G v H) ∧ xs.length ≤ n
/-- a list that was not there before -/
def NewL (b : Addr) (B : List Addr) (H0 : Hp) (n : Nat) : V → Hp → Prop := fun x H => ∃ f xs, x = .ref f ∧ f ∉ B ∧ H f = some (.lst xs) ∧ (∀ v ∈ xs, Gd (B ++ [f]) v H) ∧ xs.length ≤ n ∧ ∀ a o, a ≠ b → H0 a = some o → a ≠ f
section
variable {K : PySem.W.Frag} {b : Addr} {B : List Addr} {σ : L2.St} {H H' : Hp} {ta tb te : TE} {tr : TA} {tt : TT} {x y z v : V} {P P' : V → Hp → Prop} {G : V → Hp → Prop} {n n' m m' N : Nat}
theorem wo_new {r : Addr} {o : HO} (hr : H r = none) : Ex (wo B H) (wo (B ++ [r]) (upd H r o)) := fun a u h => by
  obtain ⟨n, h⟩ := wo_get h
  have ne : a ≠ r := fun e => by rw [e, hr] at h; cases h
  exact wo_put (by simp [n, ne]) (by rw [upd_ne ne]; exact h)
theorem ek_lstF (h : EKA b B m tr σ H (AllG (Gd B) n')) (hn : n' ≤ n) (hz : n ≤ 1000) : EK b B m (tLst tr) σ H (NewL b B H n) := fun N H1 l k g Q q =>
  h N H1 l k g _ fun vs H2 M lm k2 g2 p => ⟨Evl.sz_of (by rw [p.2]; omega), fun r hr => by
    obtain ⟨n1, g3, k3⟩ := g2.new (o := .lst vs) hr
    refine q _ _ M lm (k2.trans k3) g3 ⟨r, vs, rfl, n1, upd_same, fun v hv => ?_, by rw [p.2]; exact hn, fun a o na e z => ?_⟩
    · obtain ⟨d, hd⟩ := p.1 v hv
      exact ⟨d, Dq.same (wo_new hr) _ _ hd⟩
    · have := k2 a o na (k a o na e)
      rw [z, hr] at this; cases this⟩
theorem ek_if (ht : EKT b B m tt σ H) (ha : EK b B m' ta σ H P) (hc : EK b B m' tb σ H P) : EK b B (m + m') (tIf tt ta tb) σ H P := fun N H1 l k g Q q =>
  ht N H1 (by omega) k g _ fun c H2 M lm k2 g2 => by
    have q' : ∀ x H3 M3, M3 ≤ M + m' → Keep b H2 H3 → BgAt b B M3 H3 → P x H3 → Q x H3 := fun x H3 M3 l3 k3 g3 p => q x H3 M3 (by omega) (k2.trans k3) g3 p
    cases c with
    | true => exact iteT (ha M H2 (by omega) (k.trans k2) g2 Q q')
    | false => exact iteF (hc M H2 (by omega) (k.trans k2) g2 Q q')
theorem lsm_stb (hG : Stb B G) : Stb B (LsM G B n) := fun x H H' ⟨p, xs, e, hp, h, g, l⟩ k => ⟨p, xs, e, hp, k _ _ hp h, fun v hv => hG v H H' (g v hv) k, l⟩
theorem ls_lsm (h : Ls G B n x H) : LsM G B n x H := by
  obtain ⟨p, xs, e, hp, h, g, l⟩ := h
  exact ⟨p, xs, e, hp, h, g, by omega⟩
theorem lsm_w {G' : V → Hp → Prop} (h : LsM G B n x H) (hn : n ≤ n') (w : ∀ v, G v H → G' v H) : LsM G' B n' x H := by
  obtain ⟨p, xs, e, hp, h, g, l⟩ := h
  exact ⟨p, xs, e, hp, h, fun v hv => w v (g v hv), by omega⟩
theorem ls_w {G' : V → Hp → Prop} (h : Ls G B n x H) (w : ∀ v, G v H → G' v H) : Ls G' B n x H := by
  obtain ⟨p, xs, e, hp, h, g, l⟩ := h
  exact ⟨p, xs, e, hp, h, fun v hv => w v (g v hv), l⟩
theorem mem_cut {xs : List V} {lo hi : Option Int} {v : V} (h : v ∈ cutV xs lo hi) : v ∈ xs := List.mem_of_mem_drop (List.mem_of_mem_take h)
theorem len_cut {xs : List V} {lo hi : Option Int} : (cutV xs lo hi).length ≤ xs.length := by
  unfold cutV
  rw [List.length_take, List.length_drop]; omega
/-- a part, drawn or not -/
def EKO (b : Addr) (B : List Addr) (m : Nat) (to : TO) (σ : L2.St) (H : Hp) : Prop := ∀ N H1, N + m ≤ 900000 → Keep b H H1 → BgAt b B N H1 → ∀ Q : Option Int → Hp → Prop, (∀ x H2 M, M ≤ N + m → Keep b H1 H2 → BgAt b B M H2 → Q x H2) → to σ H1 Q
theorem eko_none : EKO b B 0 tNoPart σ H := fun N H1 l k g Q q => q none H1 N (Nat.le_refl _) (Keep.refl b H1) g
theorem eko_some (h : EK b B m te σ H (fun x _ => ∃ i, x = .int i)) : EKO b B m (tPart te) σ H := fun N H1 l k g Q q => h N H1 l k g _ fun x H2 M lm k2 g2 ⟨i, e⟩ => ⟨i, e, q _ H2 M lm k2 g2⟩
theorem ek_slM {tl th : TO} (hb : b ∈ B) (hG : Stb B G) (h : EK b B 0 te σ H (LsM G B n)) (h1 : EKO b B m tl σ H) (h2 : EKO b B m' th σ H) : EK b B (m + m') (tSl (rSlL K) te tl th) σ H (LsM G B n) := fun N H1 l k g Q q =>
  h N H1 (by omega) k g _ fun x H2 M lm k2 g2 p => h1 M H2 (by omega) (k.trans k2) g2 _ fun lo H3 M3 l3 k3 g3 => h2 M3 H3 (by omega) ((k.trans k2).trans k3) g3 _ fun hi H4 M4 l4 k4 g4 => by
    obtain ⟨a, xs, rfl, na, ha, gx, lx⟩ := lsm_stb hG _ _ _ p ((kb hb k3).trans (kb hb k4))
    refine ⟨a, xs, rfl, SqL.of ha, fun r hr => ?_⟩
    obtain ⟨n1, g5, k5⟩ := g4.new (o := .lst (cutV xs lo hi)) hr
    exact q _ _ M4 (by omega) (((k2.trans k3).trans k4).trans k5) g5 ⟨r, _, rfl, n1, upd_same, fun v hv => hG _ _ _ (gx v (mem_cut hv)) (kb hb k5), Nat.le_trans len_cut lx⟩
theorem ek_catM (hb : b ∈ B) (hG : Stb B G) (h : EK b B m ta σ H (LsM G B n)) (h' : EK b B m' tb σ H (LsM G B n')) (hn : n + n' ≤ 1000) : EK b B (m + m') (tOp rCat ta tb) σ H (LsM G B (n + n')) := fun N H1 l k g Q q =>
  h N H1 (by omega) k g _ fun x H2 M lm k2 g2 p => h' M H2 (by omega) (k.trans k2) g2 _ fun y H3 M3 lm3 k3 g3 p' => by
    obtain ⟨l1, xs, rfl, n1, hl, gx, lx⟩ := lsm_stb hG _ _ _ p (kb hb k3)
    obtain ⟨l2, ys, rfl, n2, hl', gy, ly⟩ := p'
    refine ⟨l1, l2, xs, ys, rfl, rfl, hl, hl', Evl.sz_of (by omega), fun r hr => ?_⟩
    obtain ⟨n3, g4, k4⟩ := g3.new (o := .lst (xs ++ ys)) hr
    refine q _ _ M3 (by omega) ((k2.trans k3).trans k4) g4 ⟨r, xs ++ ys, rfl, n3, upd_same, fun v hv => ?_, by rw [List.length_append]; omega⟩
    rcases List.mem_append.mp hv with hv | hv
    · exact hG _ _ _ (gx v hv) (kb hb k4)
    · exact hG _ _ _ (gy v hv) (kb hb k4)
/-- a take of a number that is read -/
theorem ek_takeR {i : Nat} {E : XK} {c : Int} (hi : σ[i]? = some (some (.ref b))) (h : EK b B m te σ H (fun x _ => x = .int c)) (h1 : 1 ≤ c ∧ c < 1000000) : EK b B (m + 1) (tCall spTakeC [] E (tCons (tVar i) (tCons te tNil))) σ H (fun x _ => ∃ r, x = .int r) := fun N H1 l k g Q q =>
  ⟨_, hi, h N H1 (by omega) k g _ fun x H2 M lm k2 g2 e => by
    subst e
    exact ⟨b, c, M, rfl, g2.bag, by omega, h1.1, h1.2, fun H' r k' g' r0 r1 => q _ _ (M + 1) (by omega) (k2.trans k') (g2.keep k' g') ⟨r, rfl⟩⟩⟩
theorem ek_nm0 {i : Nat} (hb : b ∈ B) (hi : σ[i]? = some (some v)) (h : Ls KA.okS B (n + 1) v H) : EK b B 0 (tOp (rIxL K) (tVar i) (tC (.int 0))) σ H (Gd B) :=
  ek_w (ek_ixL (m := 0) (m' := 0) (n := n + 1) (G := KA.okS) hb KA.okS_stb (ek_v hi fun H1 k => ls_stb KA.okS_stb _ _ _ h (kb hb k)) (ek_c fun _ => ⟨0, rfl, by decide, by omega⟩)) fun x H ⟨z, e, h1, h2⟩ => by
    subst e
    exact gd_str ⟨by omega, h2⟩
theorem ek_nmK {i : Nat} {p : Addr} (hb : b ∈ B) (hi : σ[i]? = some (some (.ref p))) (h : KA.Wd B p H) : EK b B 0 (tOp (rIxL K) (tDGet (tVar i) (tC (.str "packages"))) (tC (.int 0))) σ H (Gd B) :=
  ek_w (ek_ixL (m := 0) (m' := 0) (n := 3) (G := KA.okS) hb KA.okS_stb (fun N1 H1 l1 k1 g1 Q1 q1 => by
    obtain ⟨kvs', vf, vk, h1, h2, h3, h4, h5, h6⟩ := h.stb (kb hb k1)
    have dg := DGet.k (k := .inr "packages") h1
    rw [h4] at dg
    exact ⟨.ref p, hi, p, vk, rfl, dg, q1 vk H1 N1 (Nat.le_refl _) (Keep.refl b H1) g1 h6⟩) (ek_c fun _ => ⟨0, rfl, by decide, by decide⟩)) fun x H ⟨z, e, h1, h2⟩ => by
    subst e
    exact gd_str ⟨by omega, h2⟩
variable {D : Ends} {tz tu tw : TS}
theorem sk_if (g : BgAt b B N H) (hN : N + m ≤ 900000) (h : EKT b B m tt σ H) (kt : ∀ H2 M, M ≤ N + m → Keep b H H2 → BgAt b B M H2 → tu D σ H2) (kf : ∀ H2 M, M ≤ N + m → Keep b H H2 → BgAt b B M H2 → tw D σ H2) : tIfS tt tu tw D σ H := h N H hN (Keep.refl b H) g _ fun c H2 M lm k2 g2 => by
  cases c with
  | true => exact iteT (kt H2 M lm k2 g2)
  | false => exact iteF (kf H2 M lm k2 g2)
theorem sk_asg1 {i : Nat} (g : BgAt b B N H) (hN : N + m ≤ 900000) (h : EK b B m te σ H P) (k : ∀ x H1 M, M ≤ N + m → Keep b H H1 → BgAt b B M H1 → P x H1 → D.nx (σ.set i (some x)) H1) : tAsg te (gName i) D σ H := h N H hN (Keep.refl b H) g _ k
theorem sk_rng {i : Nat} {c : Int} {E : XK} {R : It → Hp → Prop} (g : BgAt b B N H) (hN : N + 1 ≤ 900000) (hi : σ[i]? = some (some (.ref b))) (h1 : 1 ≤ c ∧ c < 1000000) (k : ∀ r H2 M, M ≤ N + 1 → Keep b H H2 → BgAt b B M H2 → 0 ≤ r → r < c → R (Itr 0 r.toNat) H2) :
    iRng1 (tCons (tCall spTakeC [] E (tCons (tVar i) (tCons (tC (.int c)) tNil))) tNil) σ H R := ek_take (B := B) (H := H) hi h1 N H hN (Keep.refl b H) g _ fun x H2 M lm k2 g2 ⟨r, e, r0, r1⟩ => by
  subst e
  exact ⟨r, rfl, by omega, by omega, k r H2 M lm k2 g2 r0 r1⟩
end
end LF
namespace KA
open PySem PySem.Spec PyProof.Rows L2 LF
open Evl (Ex sq_of st_of)
/-- the list under way at f -/
structure Sm (b f p : Addr) (vj vn : V) (N n : Nat) (H : Hp) : Prop where
  bag : BgAt b [b, f] N H
  lst : ∃ xs, H f = some (.lst xs) ∧ (∀ v ∈ xs, Gd [b, f] v H) ∧ xs.length ≤ n
  hj : Ls okI [b, f] 3 vj H
  hn : Ls okS [b, f] 3 vn H
  wd : Wd [b, f] p H
  nf : f ≠ b
section
variable {b f p : Addr} {vj vn : V} {N n M m : Nat} {H H' : Hp}
theorem Sm.keep (s : Sm b f p vj vn N n H) (k : Keep b H H') (g : BgAt b [b, f] M H') : Sm b f p vj vn M n H' := by
  have kk : KeepB [b, f] H H' := kb List.mem_cons_self k
  obtain ⟨xs, h1, h2, h3⟩ := s.lst
  exact ⟨g, ⟨xs, k _ _ s.nf h1, fun v hv => gd_stb _ _ _ (h2 v hv) kk, h3⟩, ls_stb okI_stb _ _ _ s.hj kk, ls_stb okS_stb _ _ _ s.hn kk, s.wd.stb kk, s.nf⟩
theorem Sm.more (s : Sm b f p vj vn N n H) (h : n ≤ m) : Sm b f p vj vn N m H := by
  obtain ⟨xs, h1, h2, h3⟩ := s.lst
  exact ⟨s.bag, ⟨xs, h1, h2, by omega⟩, s.hj, s.hn, s.wd, s.nf⟩
theorem Sm.put {xs : List V} {v : V} (s : Sm b f p vj vn N n H) (h : H f = some (.lst xs)) (hv : Gd [b, f] v H) : Sm b f p vj vn N (n + 1) (upd H f (.lst (xs ++ [v]))) := by
  have kk : KeepB [b, f] H (upd H f (.lst (xs ++ [v]))) := fun a o na e => by
    rw [upd_ne (fun z => na (by rw [z]; simp))]; exact e
  obtain ⟨ys, h1, h2, h3⟩ := s.lst
  rw [h] at h1
  cases h1
  refine ⟨⟨?_, s.bag.inB, fun a ha => ?_⟩, ⟨_, upd_same, fun u hu => ?_, by rw [List.length_append]; simp; omega⟩, ls_stb okI_stb _ _ _ s.hj kk, ls_stb okS_stb _ _ _ s.hn kk, s.wd.stb kk, s.nf⟩
  · obtain ⟨d, x, n, e, r⟩ := s.bag.bag
    exact ⟨d, x, n, by rw [upd_ne s.nf.symm]; exact e, r⟩
  · by_cases e : a = f
    · subst e; exact ⟨_, upd_same⟩
    · obtain ⟨o, ho⟩ := s.bag.live a ha
      exact ⟨o, by rw [upd_ne e]; exact ho⟩
  · rcases List.mem_append.mp hu with hu | hu
    · exact gd_stb _ _ _ (h2 u hu) kk
    · rw [List.mem_singleton.mp hu]; exact gd_stb _ _ _ hv kk
variable {K : PySem.W.Frag} {σ : L2.St} {te : TE} {tt : TT} {D : Ends} {tu tw : TS} {i : Nat}
theorem sk_app (s : Sm b f p vj vn N n H) (hi : σ[i]? = some (some (.ref f))) (hN : N + m ≤ 900000) (hn : n ≤ 100) (h : EK b [b, f] m te σ H (Gd [b, f])) (k : ∀ H2 M, M ≤ N + m → Sm b f p vj vn M (n + 1) H2 → (∀ a o, a ≠ b → a ≠ f → H a = some o → H2 a = some o) → D.nx σ H2) :
    tDrop (tBM K "list" rAppend (tVar i) (tCons te tNil)) D σ H := by
  obtain ⟨xs, h1, h2, h3⟩ := s.lst
  refine ⟨_, hi, Or.inl ⟨rfl, _, SqL.of h1⟩, h N H hN (Keep.refl b H) s.bag _ fun v H2 M lm k2 g2 pv => ?_⟩
  have h4 := k2 _ _ s.nf h1
  exact ⟨f, xs, v, rfl, rfl, h4, Evl.sz_lt (by omega), k _ M lm ((s.keep k2 g2).put h4 pv) fun a o n1 n2 e => by rw [upd_ne n2]; exact k2 a o n1 e⟩
theorem sk_ifAnd (s : Sm b f p vj vn N n H) (hn : n ≤ 100) (hi : σ[i]? = some (some (.ref f))) (hN : N + m ≤ 900000) (h : EKT b [b, f] m tt σ H) (kt : ∀ H2 M, M ≤ N + m → Keep b H H2 → Sm b f p vj vn M n H2 → (∀ xs, H2 f = some (.lst xs) → xs ≠ []) → tu D σ H2) (kf : ∀ H2 M, M ≤ N + m → Keep b H H2 → Sm b f p vj vn M n H2 → tw D σ H2) :
    tIfS (tAnd tt (tTest (tOp (rNeQ K) (tVar i) (tLst tNil)))) tu tw D σ H := h N H hN (Keep.refl b H) s.bag _ fun c H2 M lm k2 g2 => by
  have s2 := s.keep k2 g2
  cases c with
  | false => exact iteF (iteF (kf H2 M lm k2 s2))
  | true =>
    refine iteT ⟨_, hi, by decide, fun r hr => ?_⟩
    obtain ⟨n1, g3, k3⟩ := g2.new (o := .lst []) hr
    have s3 := s2.keep k3 g3
    obtain ⟨xs, h1, h2, h3⟩ := s3.lst
    obtain ⟨ds, hds⟩ := dqAll_of (H := upd H2 r (.lst [])) (vs := xs) fun v hv => by
      obtain ⟨d, hd⟩ := h2 v hv
      exact ⟨d, Dq.same wo_ex _ _ hd⟩
    have hl := hds.len
    have hD : Dq (upd H2 r (.lst [])) (.ref f) (.list ds) := .lst h1 hds (by omega)
    refine ⟨.list ds, .list [], Dq.dp _ _ hD, .lst (SqL.of upd_same) .nil, Dq.lay _ _ hD, by simp [PyData.canLay0, PyData.canLayAll0], by simp [PyData.depth, PyData.depthAll], ⟨_, rfl, ?_⟩⟩
    cases ds with
    | nil =>
      have : (!PyData.eqv (.list []) (.list [])) = false := by simp [PyData.eqv, PyData.eqvAll]
      rw [this]
      exact iteF (kf _ M lm (k2.trans k3) s3)
    | cons d ds =>
      have : (!PyData.eqv (.list (d :: ds)) (.list [])) = true := by simp [PyData.eqv, PyData.eqvAll]
      rw [this]
      refine iteT (kt _ M lm (k2.trans k3) s3 fun ys hy e => ?_)
      rw [h1] at hy
      cases hy
      rw [e] at hl; simp at hl
end
end KA

set_option Elab.async false
set_option linter.all false
set_option maxRecDepth 100000
set_option maxHeartbeats 0
namespace KA
open PySem PySem.Spec PyProof.Rows L2 LF
open Evl (Ex sq_of st_of)
def spSome : Sp := fun vs H Q _ => ∃ (b p : Addr) (N : Nat), vs = [.ref b, .ref p] ∧ BagC H b N ∧ N ≤ 700000 ∧ Wd [b] p H ∧
  ∀ H' v M, M ≤ N + 40 → Keep b H H' → BagC H' b M → LsM (GE [b]) [b] 20 v H' → Q v H'
abbrev s__law_some : Stmt := topS 32
abbrev N__law_some : List Str := ["_law_bag_here", "_law_words_here", "_law_joints", "_law_own_names", "_law_found", "_law_turn", "_law_target", "_law_at"]
theorem sc__law_some : FnScope ["_law_bag_here", "_law_words_here", "_law_joints", "_law_own_names", "_law_found", "_law_turn", "_law_target", "_law_at"] ["_law_bag_here", "_law_words_here"] (defScope s__law_some) := ⟨rfl, rfl, rfl, by decide +kernel, rfl, by decide +kernel, by decide +kernel⟩
theorem ek_odd {b p : Addr} {σ : L2.St} {H : Hp} {E : XK} (i0 : σ[0]? = some (some (.ref b))) (i1 : σ[1]? = some (some (.ref p))) (hw : Wd [b] p H) :
    EK b [b] 4 (tCall spOdd [] E (tCons (tVar 0) (tCons (tTup (tCons (tDisp [(tC (.int 0), tDNewK), (tC (.int 1), tDNewK)]) (tCons (tC (.int 0)) tNil))) (tCons (tVar 1) tNil)))) σ H (GE [b]) := fun N H1 l k g Q q => by
  refine ⟨_, i0, fun dd hdd d1 hd1 d2 hd2 => ?_⟩
  obtain ⟨n1, g1, k1⟩ := g.new (o := .dK []) hdd
  obtain ⟨n2, g2, k2⟩ := g1.new (o := .dK []) hd1
  obtain ⟨n3, g3, k3⟩ := g2.new (o := .dK []) hd2
  have nb : dd ≠ b := fun e => n1 (by rw [e]; simp)
  have d3 := k3 _ _ nb (k2 _ _ nb upd_same)
  refine ⟨d3, [(.inl 0, .ref d1), (.inl 1, .ref d2)], rfl, by show 2 ≤ 15; decide, ?_⟩
  refine ⟨by show 2 ≤ sizeLine; decide, fun o ho => ?_⟩
  refine ⟨_, i1, ?_⟩
  have kk : Keep b H1 (upd (upd (upd (upd H1 dd (.dK [])) d1 (.dK [])) d2 (.dK [])) dd (.dK (mergeK [] [(.inl 0, .ref d1), (.inl 1, .ref d2)]))) := fun a u na e => by
    have ne : a ≠ dd := fun z => by rw [z, hdd] at e; cases e
    rw [upd_ne ne]
    exact k3 _ _ na (k2 _ _ na (k1 _ _ na e))
  have gg := g3
  have g4 : BgAt b [b] N (upd (upd (upd (upd H1 dd (.dK [])) d1 (.dK [])) d2 (.dK [])) dd (.dK (mergeK [] [(.inl 0, .ref d1), (.inl 1, .ref d2)]))) := ⟨by
      obtain ⟨d, x, n, e, r⟩ := g3.bag
      exact ⟨d, x, n, by rw [upd_ne nb.symm]; exact e, r⟩, g3.inB, fun a ha => by
      obtain ⟨u, hu⟩ := g3.live a ha
      have : a ≠ dd := fun z => n1 (by rw [← z]; exact ha)
      exact ⟨u, by rw [upd_ne this]; exact hu⟩⟩
  obtain ⟨n5, g5, k5⟩ := g4.new (o := .tup [.ref dd, .int 0]) ho
  refine ⟨b, o, dd, p, .int 0, _, N, rfl, g5.bag, by omega, hw.stb (kb List.mem_cons_self ((k.trans kk).trans k5)), upd_same, k5 _ _ nb upd_same, ?_, fun H' v M lm kM bM hv => q v H' M lm ((kk.trans k5).trans kM) (g5.keep kM bM) hv⟩
  simp [mergeK, putK]
section
variable {P : Program} {w : World} {K : PySem.W.Frag} {mg : Str → Option Value} {base : Heap} {tk1 tk2 : Tok}
theorem ok_some {f f1 f2 f3 : Addr} {fd fd1 fd2 fd3 : FuncData} (F : Fun K "_law_some" "_law_some" s__law_some f fd) (T : Txt K mg tk1 tk2) (d__law_take : DefAt P w K mg base "_law_take" 1 f1 fd1 ["_law_bag_here", "_law_many"] spTakeC)
    (d__law_pick : DefAt P w K mg base "_law_pick" 2 f2 fd2 ["_law_bag_here", "_law_items"] (spPickC K)) (d__law_odd_deed : DefAt P w K mg base "_law_odd_deed" 3 f3 fd3 ["_law_bag_here", "_law_old", "_law_words_here"] spOdd) :
    FnOk P w K mg base CX0 4 f fd ["_law_bag_here", "_law_words_here"] spSome := by
  refine F.ok sc__law_some (fun vs H Q E h => ?_) (fun cdv A outer s H vs Q E hr h => ?_)
  · obtain ⟨b, p, N, rfl, _⟩ := h
    rfl
  have hu1 := hu_of hr
  have hu := hr.units
  refine ⟨_, (pss_cons (ps_par (i := 2) (j := 3) (by rfl) sc__law_some.nd rfl rfl (by decide) rfl rfl (pa_cons (pe_lst (pa_cons pe_int (pa_cons pe_int (pa_cons pe_int pa_nil)))) (pa_cons (pe_dget hu1 (pv 1) pe_str (fun _ _ => rfl)) pa_nil)) (by rfl))
    (pss_cons (ps_set (i := 4) sc__law_some.nd rfl (Or.inl rfl) (pe_ifExp (pt_cmpR op_eq (pe_callD d__law_take (hr.mono (by decide)) (pa_cons (pv 0) (pa_cons pe_int pa_nil))) pe_int (nomark _)) (pe_lst (pa_cons (pe_tup (pa_cons pe_str (pa_cons (pe_tup (pa_cons (pe_tup (pa_cons pe_int (pa_cons (pe_tup pa_nil) pa_nil))) (pa_cons (pe_tup (pa_cons pe_int (pa_cons (pe_tup (pa_cons (pe_tup (pa_cons (pe_ix ix_list (pv 3) pe_int (fun _ _ => rfl)) (pa_cons pe_int pa_nil))) pa_nil)) pa_nil))) pa_nil))) pa_nil))) pa_nil)) (pe_lst pa_nil)))
    (Evl.pss_cut (ps_for PassesOwn.never rfl (pi_range1 (by rfl) T.n_range (pa_cons (pe_callD d__law_take (hr.mono (by decide)) (pa_cons (pv 0) (pa_cons pe_int pa_nil))) pa_nil)) (pg_name (i := 5) sc__law_some.nd rfl (Or.inl rfl)) (pss_cons (ps_set (i := 6) sc__law_some.nd rfl (Or.inl rfl) (pe_callD d__law_pick (hr.mono (by decide)) (pa_cons (pv 0) (pa_cons (pe_op op_cat (pv 2) (pe_lst (pa_cons pe_non (pa_cons (pe_tup (pa_cons (pe_ix ix_list (pe_dget hu1 (pv 1) pe_str (fun _ _ => rfl)) pe_int (fun _ _ => rfl)) (pa_cons (pe_ix ix_list (pv 3) pe_int (fun _ _ => rfl)) pa_nil))) pa_nil)))) pa_nil))))
    (pss_one (ps_expr (pe_bm PySem.F.plainAttrs_list PySem.F.slot_list_append PySem.F.type_list_append mt_append (pv 4) (pa_cons (pe_tup (pa_cons pe_str (pa_cons (pe_callD d__law_pick (hr.mono (by decide)) (pa_cons (pv 0) (pa_cons (pv 2) pa_nil))) (pa_cons (pe_callD d__law_pick (hr.mono (by decide)) (pa_cons (pv 0) (pa_cons (pv 3) pa_nil))) (pa_cons (pv 6) pa_nil))))) pa_nil))))))
    (Evl.pss_cut (ps_if (pt_cmpR op_eq (pe_callD d__law_take (hr.mono (by decide)) (pa_cons (pv 0) (pa_cons pe_int pa_nil))) pe_int (nomark _)) (pss_one (ps_expr (pe_bm PySem.F.plainAttrs_list PySem.F.slot_list_append PySem.F.type_list_append mt_append (pv 4) (pa_cons (pe_tup (pa_cons pe_str (pa_cons (pe_un un_neg pe_int) (pa_cons pe_str (pa_cons (pe_callD d__law_pick (hr.mono (by decide)) (pa_cons (pv 0) (pa_cons (pv 2) pa_nil))) pa_nil))))) pa_nil)))) pss_nil)
    (Evl.pss_cut (ps_if (pt_cmpR op_eq (pe_callD d__law_take (hr.mono (by decide)) (pa_cons (pv 0) (pa_cons pe_int pa_nil))) pe_int (nomark _)) (pss_one (ps_expr (pe_bm PySem.F.plainAttrs_list PySem.F.slot_list_append PySem.F.type_list_append mt_append (pv 4) (pa_cons (pe_tup (pa_cons pe_str (pa_cons (pe_tup (pa_cons pe_int (pa_cons pe_int pa_nil))) pa_nil))) pa_nil)))) pss_nil)
    (Evl.pss_cut (ps_if (PW.pt (pw_and (pt_cmpR op_eq (pe_callD d__law_take (hr.mono (by decide)) (pa_cons (pv 0) (pa_cons pe_int pa_nil))) pe_int (nomark _)) (pw_and1 (pt_cmpR (op_neQ hu) (pv 4) (pe_lst pa_nil) (nomark _))))) (pss_cons (ps_set (i := 7) sc__law_some.nd rfl (Or.inl rfl) (pe_callD d__law_take (hr.mono (by decide)) (pa_cons (pv 0) (pa_cons (pe_callB call_len_seq (by rfl) T.n_len (by decide +kernel) (pa_cons (pv 4) pa_nil)) pa_nil))))
    (pss_one (ps_set (i := 4) sc__law_some.nd rfl (Or.inl rfl) (pe_op op_cat (pe_op op_cat (pe_slice sl_list (pv 4) po_none (po_some (pv 7))) (pe_lst (pa_cons (pe_callD d__law_odd_deed (hr.mono (by decide)) (pa_cons (pv 0) (pa_cons (pe_tup (pa_cons (pe_disp (pps_cons pe_int pe_dnewK (pps_cons pe_int pe_dnewK pps_nil)) (by rfl) (by rfl) (fun z => by cases z) (by decide)) (pa_cons pe_int pa_nil))) (pa_cons (pv 1) pa_nil)))) pa_nil))) (pe_slice sl_list (pv 4) (po_some (pe_op op_add (pv 7) (pe_callD d__law_take (hr.mono (by decide)) (pa_cons (pv 0) (pa_cons pe_int pa_nil))))) po_none))))) pss_nil)
    (pss_one (ps_ret (pv 4))))))))), ?_⟩
  obtain ⟨b, p, N, rfl, hbag, hN, hw, hq⟩ := h
  have hb : b ∈ [b] := List.mem_singleton.mpr rfl
  refine sk_par (B := [b]) (m := 0) (m' := 0) (P := Ls okI [b] 3) (P' := Ls okS [b] 3) (bgAt1 hbag) (by omega) hb (ls_stb okI_stb (n := 3)) (by exact ek_lst hb okI_stb (eka_cons0 hb okI_stb (ek_c fun _ => ⟨_, rfl⟩) (eka_cons0 hb okI_stb (ek_c fun _ => ⟨_, rfl⟩) (eka_cons0 hb okI_stb (ek_c fun _ => ⟨_, rfl⟩) eka_nil))) (by decide)) (fun N1 H1 l1 k1 g1 Q1 q1 => by
    obtain ⟨kvs', vf, vk, h1, h2, h3, h4, h5, h6⟩ := hw.stb (kb hb k1)
    have dg := DGet.k (k := .inr "folders") h1
    rw [h3] at dg
    exact ⟨.ref p, rfl, p, vf, rfl, dg, q1 vf H1 N1 (Nat.le_refl _) (Keep.refl b H1) g1 h5⟩) fun vj vn H1 M1 l1 k1 g1 pj pn => ?_
  refine sk_asg (m := 1) (P := NewL b [b] H1 1) g1 (by omega) (by
    exact ek_if (m := 1) (m' := 0) (ekt_take rfl (by decide)) (ek_lstF (n' := 1) (eka_cons0 hb gd_stb (ek_tup hb (eka_cons0 hb gd_stb (ek_c fun _ => gd_str ⟨by decide +kernel, by decide +kernel⟩) (eka_cons0 hb gd_stb (ek_tup hb (eka_cons0 hb gd_stb (ek_tup hb (eka_cons0 hb gd_stb (ek_c fun _ => gd_int _) (eka_cons0 hb gd_stb (ek_tup hb eka_nil (by decide)) eka_nil)) (by decide)) (eka_cons0 hb gd_stb (ek_tup hb (eka_cons0 hb gd_stb (ek_c fun _ => gd_int _) (eka_cons0 hb gd_stb (ek_tup hb (eka_cons0 hb gd_stb (ek_tup hb (eka_cons0 hb gd_stb (ek_nm0 (n := 2) hb rfl pn) (eka_cons0 hb gd_stb (ek_c fun _ => gd_int _) eka_nil)) (by decide)) eka_nil) (by decide)) eka_nil)) (by decide)) eka_nil)) (by decide)) eka_nil)) (by decide)) eka_nil) (by decide) (by decide)) (ek_lstF (n' := 0) eka_nil (by decide) (by decide))) fun y2 H2 M2 l2 k2 g2 p2 => ?_
  obtain ⟨f, xs0, rfl, nfB, hf, gx, lx, fresh⟩ := p2
  have nf : f ≠ b := fun e => nfB (by rw [e]; simp)
  have fresh' : ∀ a o, a ≠ b → H a = some o → a ≠ f := fun a o na e => fresh a o na (k1 a o na e)
  have kk2 : Keep b H H2 := k1.trans k2
  have up : ∀ {G : V → Hp → Prop} {n : Nat} {x : V}, Stb [b, f] G → (∃ q xs, x = .ref q ∧ H1 q = some (.lst xs) ∧ q ≠ b ∧ (∀ v ∈ xs, ∀ H', G v H') ∧ xs.length = n) → Ls G [b, f] n x H2 := fun hG ⟨q, xs, e, h1, h2, h3, h4⟩ =>
    ⟨q, xs, e, by simp [h2, fresh _ _ h2 h1], k2 _ _ h2 h1, fun v hv => h3 v hv _, h4⟩
  have s2 : Sm b f p vj vn M2 1 H2 := by
    obtain ⟨q1, x1, e1, m1, h1, a1, c1⟩ := pj
    obtain ⟨q2, x2, e2, m2, h2, a2, c2⟩ := pn
    obtain ⟨kvs, vf, vk, w1, w2, w3, w4, w5, w6⟩ := hw
    have wls : ∀ {v : V}, Ls okS [b] 3 v H → Ls okS [b, f] 3 v H2 := fun ⟨q, xs, e, m, h, a, c⟩ => by
      have nq : q ≠ b := fun e => m (by rw [e]; simp)
      exact up okS_stb ⟨q, xs, e, k1 _ _ nq h, nq, fun v hv _ => a v hv, c⟩
    have np : p ≠ b := fun e => w2 (by rw [e]; simp)
    refine ⟨⟨g2.bag, by simp, fun a ha => ?_⟩, ⟨xs0, hf, gx, lx⟩, up okI_stb ⟨q1, x1, e1, h1, fun e => m1 (by rw [e]; simp), fun v hv _ => a1 v hv, c1⟩, up okS_stb ⟨q2, x2, e2, h2, fun e => m2 (by rw [e]; simp), fun v hv _ => a2 v hv, c2⟩,
      ⟨kvs, vf, vk, kk2 _ _ np w1, by simp [np, fresh' _ _ np w1], w3, w4, wls w5, wls w6⟩, nf⟩
    rcases List.mem_cons.mp ha with rfl | ha
    · exact g2.live _ hb
    · rw [List.mem_singleton.mp ha]; exact ⟨_, hf⟩
  clear hb
  have hb : b ∈ [b, f] := List.mem_cons_self
  refine ⟨fun σ' H' => ∃ v5 v6 M, M ≤ N + 20 ∧ σ' = [some (.ref b), some (.ref p), some vj, some vn, some (.ref f), v5, v6, none] ∧ Sm b f p vj vn M 6 H' ∧ (∀ a o, a ≠ b → H a = some o → H' a = some o), ?_, ?_⟩
  · refine sk_rng (B := [b, f]) s2.bag (by omega) rfl (by decide) fun r H3 M3 l3 k3 g3 r0 r6 => ?_
    refine for_range (lo := 0) (fun i σ' H' => ∃ v5 v6 M, M ≤ M3 + 3 * i ∧ σ' = [some (.ref b), some (.ref p), some vj, some vn, some (.ref f), v5, v6, none] ∧ Sm b f p vj vn M (1 + i) H' ∧ (∀ a o, a ≠ b → H a = some o → H' a = some o)) ⟨_, _, M3, by omega, rfl, s2.keep k3 g3, kk2.trans k3⟩ ?_ ?_
    · rintro i σ' H4 hi ⟨v5, v6, M4, l4, rfl, s4, k4⟩
      have lm : i < 5 := by omega
      refine sk_asg (m := 1) (P := Gd [b, f]) s4.bag (by omega) (by
        exact ek_pick (K := K) (m := 0) (n := 5) hb gd_stb rfl (ek_cat0 (n := 3) (n' := 2) hb gd_stb (ek_v rfl fun H1 k => ls_w (ls_stb okI_stb _ _ _ s4.hj (kb hb k)) fun v ⟨i, e⟩ => by subst e; exact gd_int _) (ek_lst hb gd_stb (eka_cons0 hb gd_stb (ek_c fun _ => gd_non) (eka_cons0 hb gd_stb (ek_tup hb (eka_cons0 hb gd_stb (ek_nmK hb rfl s4.wd) (eka_cons0 hb gd_stb (ek_nm0 (n := 2) hb rfl s4.hn) eka_nil)) (by decide)) eka_nil)) (by decide)) (by decide)) (by decide)) fun y5 H5 M5 l5 k5 g5 p5 => ?_
      refine sk_app (m := 2) (s4.keep k5 g5) rfl (by omega) (by omega) (by
        exact ek_tup hb (eka_cons (m := 0) (m' := 2) hb gd_stb (ek_c fun _ => gd_str ⟨by decide +kernel, by decide +kernel⟩) (eka_cons (m := 1) (m' := 1) hb gd_stb (ek_pick (K := K) (m := 0) (n := 3) hb gd_stb rfl (ek_v rfl fun H1 k => ls_w (ls_stb okI_stb _ _ _ (s4.keep k5 g5).hj (kb hb k)) fun v ⟨i, e⟩ => by subst e; exact gd_int _) (by decide)) (eka_cons (m := 1) (m' := 0) hb gd_stb (ek_pick (K := K) (m := 0) (n := 3) hb gd_stb rfl (ek_v rfl fun H1 k => ls_w (ls_stb okS_stb _ _ _ (s4.keep k5 g5).hn (kb hb k)) fun v ⟨z, e, h1, h2⟩ => by subst e; exact gd_str ⟨by omega, h2⟩) (by decide)) (eka_cons0 hb gd_stb (ek_v rfl fun H1 k => gd_stb _ _ _ p5 (kb hb k)) eka_nil)))) (by decide)) fun H6 M6 l6 s6 k6 => ?_
      exact ⟨_, _, M6, by omega, rfl, s6, fun a o na e => k6 a o na (fresh' a o na e) (k5 a o na (k4 a o na e))⟩
    · rintro σ' H4 ⟨v5, v6, M4, l4, rfl, s4, k4⟩
      exact ⟨v5, v6, M4, by omega, rfl, s4.more (by omega), k4⟩
  rintro σ' H3 ⟨v5, v6, M3, l3, rfl, s3, k3⟩
  refine ⟨fun σ' H' => ∃ M, M ≤ N + 22 ∧ σ' = [some (.ref b), some (.ref p), some vj, some vn, some (.ref f), v5, v6, none] ∧ Sm b f p vj vn M 7 H' ∧ (∀ a o, a ≠ b → H a = some o → H' a = some o), ?_, ?_⟩
  · refine sk_if (B := [b, f]) s3.bag (by omega) (ekt_take rfl (by decide)) (fun H4 M4 l4 k4 g4 => ?_) (fun H4 M4 l4 k4 g4 => ⟨M4, by omega, rfl, (s3.keep k4 g4).more (by decide), fun a o na e => k4 a o na (k3 a o na e)⟩)
    refine sk_app (m := 1) (s3.keep k4 g4) rfl (by omega) (by decide) (by
      exact ek_tup hb (eka_cons (m := 0) (m' := 1) hb gd_stb (ek_c fun _ => gd_str ⟨by decide +kernel, by decide +kernel⟩) (eka_cons (m := 0) (m' := 1) hb gd_stb (ek_neg fun _ => gd_int _) (eka_cons (m := 0) (m' := 1) hb gd_stb (ek_c fun _ => gd_str ⟨by decide +kernel, by decide +kernel⟩) (eka_cons (m := 1) (m' := 0) hb gd_stb (ek_pick (K := K) (m := 0) (n := 3) hb gd_stb rfl (ek_v rfl fun H1 k => ls_w (ls_stb okI_stb _ _ _ (s3.keep k4 g4).hj (kb hb k)) fun v ⟨i, e⟩ => by subst e; exact gd_int _) (by decide)) eka_nil)))) (by decide)) fun H5 M5 l5 s5 k5 => ?_
    exact ⟨M5, by omega, rfl, s5, fun a o na e => k5 a o na (fresh' a o na e) (k4 a o na (k3 a o na e))⟩
  rintro σ' H4 ⟨M4, l4, rfl, s4, k4⟩
  refine ⟨fun σ' H' => ∃ M, M ≤ N + 23 ∧ σ' = [some (.ref b), some (.ref p), some vj, some vn, some (.ref f), v5, v6, none] ∧ Sm b f p vj vn M 8 H' ∧ (∀ a o, a ≠ b → H a = some o → H' a = some o), ?_, ?_⟩
  · refine sk_if (B := [b, f]) s4.bag (by omega) (ekt_take rfl (by decide)) (fun H5 M5 l5 k5 g5 => ?_) (fun H5 M5 l5 k5 g5 => ⟨M5, by omega, rfl, (s4.keep k5 g5).more (by decide), fun a o na e => k5 a o na (k4 a o na e)⟩)
    refine sk_app (m := 0) (s4.keep k5 g5) rfl (by omega) (by decide) (by
      exact ek_tup hb (eka_cons0 hb gd_stb (ek_c fun _ => gd_str ⟨by decide +kernel, by decide +kernel⟩) (eka_cons0 hb gd_stb (ek_tup hb (eka_cons0 hb gd_stb (ek_c fun _ => gd_int _) (eka_cons0 hb gd_stb (ek_c fun _ => gd_int _) eka_nil)) (by decide)) eka_nil)) (by decide)) fun H6 M6 l6 s6 k6 => ?_
    exact ⟨M6, by omega, rfl, s6, fun a o na e => k6 a o na (fresh' a o na e) (k5 a o na (k4 a o na e))⟩
  rintro σ' H5 ⟨M5, l5, rfl, s5, k5⟩
  have toL : ∀ {M n : Nat} {H' : Hp}, Sm b f p vj vn M n H' → LsM (GE [b]) [b] n (.ref f) H' := fun s => by
    obtain ⟨xs, h1, h2, h3⟩ := s.lst
    exact ⟨f, xs, rfl, nfB, h1, fun v hv => by
      obtain ⟨d, hd⟩ := h2 v hv
      exact ⟨some d, Dq.same (wo_less (by simp)) _ _ hd⟩, h3⟩
  have hb1 : b ∈ [b] := List.mem_singleton.mpr rfl
  refine ⟨fun σ' H' => ∃ M v4 v7, M ≤ N + 40 ∧ σ' = [some (.ref b), some (.ref p), some vj, some vn, some v4, v5, v6, v7] ∧ BgAt b [b] M H' ∧ LsM (GE [b]) [b] 20 v4 H' ∧ (∀ a o, a ≠ b → H a = some o → H' a = some o), ?_, ?_⟩
  · refine sk_ifAnd (m := 1) s5 (by decide) rfl (by omega) (ekt_take rfl (by decide)) (fun H6 M6 l6 k6 s6 hne => ?_) (fun H6 M6 l6 k6 s6 => ⟨M6, _, _, by omega, rfl, bgAt1 s6.bag.bag, lsm_w (toL s6) (by decide) fun _ h => h, fun a o na e => k6 a o na (k5 a o na e)⟩)
    have L6 := toL s6
    have W6 : Wd [b] p H6 := by
      obtain ⟨kvs, vf, vk, w1, w2, w3, w4, w5, w6⟩ := s6.wd
      exact ⟨kvs, vf, vk, w1, fun m => w2 (by simp at m; simp [m]), w3, w4, Ls_less (by simp) w5, Ls_less (by simp) w6⟩
    have hlen : ∃ xs, H6 f = some (.lst xs) ∧ 1 ≤ xs.length ∧ xs.length ≤ 8 := by
      obtain ⟨xs, h1, h2, h3⟩ := s6.lst
      exact ⟨xs, h1, by have := hne xs h1; cases xs with | nil => exact absurd rfl this | cons _ _ => simp, h3⟩
    obtain ⟨xs6, hx6, hl1, hl8⟩ := hlen
    refine sk_asg (B := [b]) (m := 1) (P := fun x _ => ∃ r, x = .int r) (bgAt1 s6.bag.bag) (by omega) (by
      exact ek_takeR (m := 0) (c := (xs6.length : Int)) rfl (fun N1 H1 l1 k1 g1 Q1 q1 => ⟨_, rfl, f, xs6, rfl, Or.inl (SqL.of (k1 _ _ nf hx6)), q1 _ H1 N1 (Nat.le_refl _) (Keep.refl b H1) g1 rfl⟩) ⟨by omega, by omega⟩) fun y7 H7 M7 l7 k7 g7 ⟨r7, e7⟩ => ?_
    subst e7
    have L7 : LsM (GE [b]) [b] 8 (.ref f) H7 := lsm_stb ge_stb _ _ _ L6 (kb hb1 k7)
    have W7 : Wd [b] p H7 := W6.stb (kb hb1 k7)
    have iv : ∀ {H}, EK b [b] 0 (tVar 7) [some (.ref b), some (.ref p), some vj, some vn, some (.ref f), v5, v6, some (.int r7)] H (fun x _ => ∃ i, x = .int i) := fun {H} => ek_v rfl fun _ _ => ⟨r7, rfl⟩
    refine sk_asg1 (B := [b]) (m := 5) (P := LsM (GE [b]) [b] 17) g7 (by omega) (by
      exact ek_catM (m := 4) (m' := 1) (n := 9) (n' := 8) hb1 ge_stb (ek_catM (m := 0) (m' := 4) (n := 8) (n' := 1) hb1 ge_stb (ek_slM (m := 0) (m' := 0) hb1 ge_stb (ek_v rfl fun H1 k => lsm_stb ge_stb _ _ _ L7 (kb hb1 k)) eko_none (eko_some iv)) (ek_w (ek_lst (n := 1) hb1 ge_stb (eka_cons (m := 4) (m' := 0) hb1 ge_stb (ek_odd rfl rfl W7) eka_nil) (by decide)) fun _ _ h => ls_lsm h) (by decide))
        (ek_slM (m := 1) (m' := 0) hb1 ge_stb (ek_v rfl fun H1 k => lsm_stb ge_stb _ _ _ L7 (kb hb1 k)) (eko_some (fun N1 H1 l1 k1 g1 Q1 q1 => ⟨_, rfl, ek_take (B := [b]) (H := H1) (c := 2) rfl (by decide) N1 H1 l1 (Keep.refl b H1) g1 _ fun x H2 M2 lm2 k2 g2 ⟨r, e, _⟩ => by
          subst e
          exact ⟨_, _, rfl, rfl, q1 _ H2 M2 lm2 k2 g2 ⟨_, rfl⟩⟩⟩)) eko_none) (by decide)) fun y8 H8 M8 l8 k8 g8 p8 => ?_
    exact ⟨M8, y8, _, by omega, rfl, g8, lsm_w p8 (by decide) fun _ h => h, fun a o na e => k8 a o na (k7 a o na (k6 a o na (k5 a o na e)))⟩
  rintro σ' H6 ⟨M6, v4, v7, l6, rfl, g6, p6, k6⟩
  exact sk_ret (m := 0) (P := fun x _ => x = v4) g6 (by omega) (ek_v rfl fun _ _ => rfl) fun x H7 M7 l7 k7 g7 e => by
    subst e
    exact hq H7 x M7 (by omega) (fun a o na e => k7 a o na (k6 a o na e)) g7.bag (lsm_stb ge_stb _ _ _ p6 (kb hb1 k7))
end
end KA

set_option Elab.async false
set_option linter.all false
set_option maxRecDepth 100000
set_option maxHeartbeats 0
namespace KA
open PySem PySem.Spec PyProof.Rows L2 LF
open Evl (Ev EvL EvU EvT EvA EvO Ex sq_of st_of)
def spLaw (K : PySem.W.Frag) : Sp := fun vs H Q _ => ∃ (a : Addr) (ns : List Int), vs = [.ref a] ∧ SqL K H a (ns.map V.int) ∧ ns.length ≤ 63 ∧ ∀ H', Q (.bl true) H'
abbrev s_law : Stmt := topS 33
abbrev N_law : List Str := ["_law_script", "_law_at", "_law_bag_here", "_law_turn", "_law_words_here", "_law_thing"]
theorem sc_law : FnScope ["_law_script", "_law_at", "_law_bag_here", "_law_turn", "_law_words_here", "_law_thing"] ["_law_script"] (defScope s_law) := ⟨rfl, rfl, rfl, by decide +kernel, rfl, by decide +kernel, by decide +kernel⟩
/-- a value that can be asked -/
def TG (B : List Addr) : V → Hp → Prop := fun x H => ∃ o, Tp (wo B H) x o
theorem tg_stb {B : List Addr} : Stb B (TG B) := fun x H H' ⟨o, h⟩ k => ⟨o, h.same (wo_keepB k)⟩
theorem tg_lst {B : List Addr} {x : V} {H : Hp} {n : Nat} (h : LsM (GE B) B n x H) (hn : n ≤ 60) : TG B x H := by
  obtain ⟨p, xs, rfl, hp, h1, h2, h3⟩ := h
  obtain ⟨ds, hds⟩ := elAll_of h2
  exact ⟨some ds, p, xs, rfl, wo_put hp h1, hds, by omega⟩
theorem tg_d {B : List Addr} {x : V} {H : Hp} {d : PyData} (h : Dq (wo B H) x d) (hl : isLst d = false) : TG B x H := ⟨none, Or.inl ⟨d, h, hl⟩⟩
theorem scal_str (a b : Str) : scal (.str a) (.str b) = true := rfl
theorem seq_keep_new {K : PySem.W.Frag} {H H' : Hp} {a b : Addr} {xs : List V} (h : SqL K H a xs) (hb : H b = none) (k : Keep b H H') : SqL K H' a xs := by
  rcases h with (h | ⟨o, h⟩) | h
  · exact Or.inl (Or.inl (k _ _ (ne_of_none h hb) h))
  · exact Or.inl (Or.inr ⟨o, k _ _ (ne_of_none h hb) h⟩)
  · exact Or.inr h
section
variable {P : Program} {w : World} {K : PySem.W.Frag} {mg : Str → Option Value} {base : Heap} {tk1 tk2 : Tok}
theorem ev_str {te : TE} {σ : L2.St} {H : Hp} {x : V} {o : Option (List (Option PyData))} {E : XK} (hx : Ev te σ H x) (ht : Tp H x o) : Ev (tCall spStr [] E (tCons te tNil)) σ H (.bl (strD o)) :=
  Evl.ev_call (vs := [x]) (Evl.ea_cons hx Evl.ea_nil) fun H1 e Q q E' => ⟨x, o, rfl, ht.same e, fun H2 e2 => q H2 e2⟩
theorem ev_repB {te : TE} {σ : L2.St} {H : Hp} {c : Bool} (h : Ev te σ H (.bl c)) : Ev (tCB (rRepr K) (tCons te tNil)) σ H (.str (PyData.bool c).shown) :=
  Evl.ev_cb (vs := [.bl c]) (Evl.ea_cons h Evl.ea_nil) fun H1 e Q q => ⟨.bl c, .bool c, rfl, .bl c, by cases c <;> rfl, by cases c <;> rfl, by cases c <;> decide +kernel, by cases c <;> decide +kernel, q H1 (Ex.refl H1)⟩
theorem ev_isB {ta : TE} {σ : L2.St} {H : Hp} {c d : Bool} (h : Ev ta σ H (.bl c)) : Ev (tOp rIsB ta (tC (.bl d))) σ H (.bl (decide (c = d))) :=
  Evl.ev_op h Evl.ev_c fun H1 e Q q => ⟨c, d, rfl, rfl, q H1 (Ex.refl H1)⟩
theorem ev_strN {te : TE} {σ : L2.St} {H : Hp} {xs : List V} {o : Option (List (Option PyData))} {E : XK} (h : EvL te σ H xs) (ht : ∀ p H1, Ex H H1 → H1 p = some (.lst xs) → Tp H1 (.ref p) o) : Ev (tCall spStr [] E (tCons te tNil)) σ H (.bl (strD o)) := fun H1 e Q q =>
  h H1 e _ fun p H2 _ e2 h2 => ⟨.ref p, o, rfl, ht p H2 (e.trans e2) h2, fun H3 e3 => q H3 (e2.trans e3)⟩
def twoDrops : List (Option PyData) := [some (.tuple [.str "drop", .tuple [.int 1]]), some (.tuple [.str "drop", .tuple [.int 2]])]
theorem ev_two {σ : L2.St} {H : Hp} {E : XK} : Ev (tCall spStr [] E (tCons (tLst (tCons (tTup (tCons (tC (.str "drop")) (tCons (tTup (tCons (tC (.int 1)) tNil)) tNil))) (tCons (tTup (tCons (tC (.str "drop")) (tCons (tTup (tCons (tC (.int 2)) tNil)) tNil))) tNil))) tNil)) σ H (.bl (strD (some twoDrops))) := fun H1 e Q q => by
  refine ⟨by show 1 ≤ sizeLine; decide, fun p1 n1 => ⟨by show 2 ≤ sizeLine; decide, fun p2 n2 => ⟨by show 1 ≤ sizeLine; decide, fun p3 n3 => ⟨by show 2 ≤ sizeLine; decide, fun p4 n4 => ⟨by show 2 ≤ sizeLine; decide, fun p5 n5 => ?_⟩⟩⟩⟩⟩
  have x5 := Ex.new (o := .lst [.ref p2, .ref p4]) n5
  have x4 := (Ex.new (o := .tup [.str "drop", .ref p3]) n4).trans x5
  have x3 := (Ex.new (o := .tup [.int 2]) n3).trans x4
  have x2 := (Ex.new (o := .tup [.str "drop", .ref p1]) n2).trans x3
  have x1 := (Ex.new (o := .tup [.int 1]) n1).trans x2
  refine ⟨.ref p5, some twoDrops, rfl, ⟨p5, _, rfl, upd_same, .cons ?_ (.cons ?_ .nil), by show 2 ≤ 60; decide⟩, fun H2 e2 => q H2 (x1.trans e2)⟩
  · exact .tup (x3 _ _ upd_same) (.cons (.str _ (by decide +kernel) (by decide +kernel)) (.cons (.tup (x2 _ _ upd_same) (.cons (.int _) .nil) (by show 1 ≤ 1000; decide)) .nil)) (by show 2 ≤ 1000; decide)
  · exact .tup (x5 _ _ upd_same) (.cons (.str _ (by decide +kernel) (by decide +kernel)) (.cons (.tup (x4 _ _ upd_same) (.cons (.int _) .nil) (by show 1 ≤ 1000; decide)) .nil)) (by show 2 ≤ 1000; decide)
theorem ok_law {f f1 f2 f3 f4 f5 f6 f7 : Addr} {fd fd1 fd2 fd3 fd4 fd5 fd6 fd7 : FuncData} (F : Fun K "law" "law" s_law f fd) (T : Txt K mg tk1 tk2)
    (d__law_bag : DefAt P w K mg base "_law_bag" 1 f1 fd1 ["_law_script", "_law_at"] (spBagC K)) (d__law_words : DefAt P w K mg base "_law_words" 3 f2 fd2 ["_law_bag_here"] spWords)
    (d__law_some : DefAt P w K mg base "_law_some" 4 f3 fd3 ["_law_bag_here", "_law_words_here"] spSome) (d__law_take : DefAt P w K mg base "_law_take" 1 f4 fd4 ["_law_bag_here", "_law_many"] spTakeC)
    (d__law_pick : DefAt P w K mg base "_law_pick" 2 f5 fd5 ["_law_bag_here", "_law_items"] (spPickC K)) (d_is_straight : DefAt P w K mg base "is_straight" 9 f6 fd6 ["deeds"] spStr) (d__law_is_straight : DefAt P w K mg base "_law_is_straight" 5 f7 fd7 ["_law_thing"] spStr) :
    FnG P w K mg base CX0 10 f fd ["_law_script"] (spLaw K) := by
  refine fnG_of F sc_law (fun vs H Q E h => ?_) (fun cdv A outer s H vs Q E gd hr h => ?_)
  · obtain ⟨a, ns, rfl, _⟩ := h
    rfl
  have hu := hr.units
  refine ⟨_, (pss_cons (ps_for (passes_of rfl) rfl (pi_range1 (by rfl) T.n_range (pa_cons (pe_callB (call_max2 rfl) (by rfl) T.n_max (by decide +kernel) (pa_cons pe_int (pa_cons (pe_callB (call_min2 rfl) (by rfl) T.n_min (by decide +kernel) (pa_cons pe_int (pa_cons (pe_callB call_len_seq (by rfl) T.n_len (by decide +kernel) (pa_cons (pv 0) pa_nil)) pa_nil))) pa_nil))) pa_nil)) (pg_name (i := 1) sc_law.nd rfl (Or.inl rfl)) (pss_cons (ps_set (i := 2) sc_law.nd rfl (Or.inl rfl) (pe_callD d__law_bag (hr.mono (by decide)) (pa_cons (pv 0) (pa_cons (pv 1) pa_nil))))
    (pss_one (ps_for (passes_of rfl) rfl (pi_range1 (by rfl) T.n_range (pa_cons pe_int pa_nil)) (pg_name (i := 3) sc_law.nd rfl (Or.inl rfl)) (pss_cons (ps_set (i := 4) sc_law.nd rfl (Or.inl rfl) (pe_callD d__law_words (hr.mono (by decide)) (pa_cons (pv 2) pa_nil)))
    (pss_cons (ps_set (i := 5) sc_law.nd rfl (Or.inl rfl) (pe_callD d__law_some (hr.mono (by decide)) (pa_cons (pv 2) (pa_cons (pv 4) pa_nil))))
    (Evl.pss_cut (ps_if (pt_cmpR op_eq (pe_callD d__law_take (hr.mono (by decide)) (pa_cons (pv 2) (pa_cons pe_int pa_nil))) pe_int (nomark _)) (pss_one (ps_set (i := 5) sc_law.nd rfl (Or.inl rfl) (pe_callD d__law_pick (hr.mono (by decide)) (pa_cons (pv 2) (pa_cons (pe_lst (pa_cons pe_non (pa_cons (pe_callTy call_tuple_of (by rfl) T.n_tuple (by decide +kernel) (pa_cons (pv 5) pa_nil)) (pa_cons (pe_revL (pv 5)) (pa_cons (pe_lst (pa_cons (pv 5) pa_nil)) (pa_cons (pe_op op_cat (pv 5) (pv 5)) (pa_cons pe_dnewK (pa_cons pe_str (pa_cons pe_bl (pa_cons pe_int pa_nil)))))))))) pa_nil))))) pss_nil)
    (pss_one (ps_if (pt_cmpR op_ne (pe_callB (call_reprD gd hu) (by rfl) T.n_repr (by decide +kernel) (pa_cons (pe_callD d_is_straight (hr.mono (by decide)) (pa_cons (pv 5) pa_nil)) pa_nil)) (pe_callB (call_reprD gd hu) (by rfl) T.n_repr (by decide +kernel) (pa_cons (pe_callD d__law_is_straight (hr.mono (by decide)) (pa_cons (pv 5) pa_nil)) pa_nil)) (nomark _)) (pss_one (ps_ret pe_bl)) pss_nil)))))))))
    (pss_one (ps_ret (pe_and (pe_cmpR op_isBl (pe_callD d_is_straight (hr.mono (by decide)) (pa_cons (pe_lst pa_nil) pa_nil)) pe_bl (nomark _)) (pe_one (pe_cmpR op_isBl (pe_callD d_is_straight (hr.mono (by decide)) (pa_cons (pe_lst (pa_cons (pe_tup (pa_cons pe_str (pa_cons (pe_tup (pa_cons pe_int pa_nil)) pa_nil))) (pa_cons (pe_tup (pa_cons pe_str (pa_cons (pe_tup (pa_cons pe_int pa_nil)) pa_nil))) pa_nil))) pa_nil)) pe_bl (nomark _))))))), ?_⟩
  obtain ⟨a, ns, rfl, hS, hlen, hq⟩ := h
  refine ⟨_, rfl, a, _, rfl, Or.inl hS, _, _, rfl, _, _, rfl, ?_⟩
  rw [List.length_map]
  have hm : ∃ m : Int, (if (if (ns.length : Int) < 6 then (ns.length : Int) else 6) > 2 then (if (ns.length : Int) < 6 then (ns.length : Int) else 6) else 2) = m ∧ 0 ≤ m ∧ m ≤ 6 := by
    refine ⟨_, rfl, ?_⟩
    split <;> split <;> omega
  obtain ⟨m, em, m0, m5⟩ := hm
  refine ⟨m, by rw [← em], by omega, by omega, for_range (lo := 0) (fun i σ H' => ∃ v1 v2 v3 v4 v5, σ = [some (.ref a), v1, v2, v3, v4, v5] ∧ SqL K H' a (ns.map V.int)) ⟨_, _, _, _, _, rfl, hS⟩ ?_ ?_⟩
  · rintro i σ H1 hi ⟨v1, v2, v3, v4, v5, rfl, hS1⟩
    refine ⟨_, rfl, _, rfl, a, _, ns, rfl, hS1, by omega, by omega, fun H2 b s2 hbn hb => ?_⟩
    refine ⟨12, rfl, by decide, by decide, for_range (lo := 0) (fun j σ H' => ∃ M v3 v4 v5, M ≤ 100 * j ∧ σ = [some (.ref a), some (.int (0 + (i : Int))), some (.ref b), v3, v4, v5] ∧ Keep b H2 H' ∧ BagC H' b M) ⟨0, _, _, _, by omega, rfl, Keep.refl b H2, hb⟩ ?_ ?_⟩
    · rintro j σ H6 hj ⟨M, v3, v4, v5, lM, rfl, k6, b6⟩
      have lj : j < 12 := hj
      have hbm : b ∈ [b] := List.mem_singleton.mpr rfl
      refine ⟨_, rfl, b, M, rfl, b6, by omega, fun H7 p M7 l7 k7 b7 hw => ?_⟩
      refine ⟨_, rfl, _, rfl, b, p, M7, rfl, b7, by omega, hw, fun H8 v M8 l8 k8 b8 hv => ?_⟩
      have k68 : Keep b H2 H8 := (k6.trans k7).trans k8
      refine ⟨fun σ' H' => ∃ M9 x, M9 ≤ M8 + 2 ∧ σ' = [some (.ref a), some (.int (0 + (i : Int))), some (.ref b), some (.int (0 + (j : Int))), some (.ref p), some x] ∧ Keep b H2 H' ∧ BgAt b [b] M9 H' ∧ TG [b] x H', ?_, ?_⟩
      · refine sk_if (B := [b]) (m := 1) (bgAt1 b8) (by omega) (ekt_take rfl (by decide)) (fun H9 M9 l9 k9 g9 => ?_) (fun H9 M9 l9 k9 g9 => ⟨M9, v, by omega, rfl, k68.trans k9, g9, tg_lst (lsm_stb ge_stb _ _ _ hv (kb hbm k9)) (by decide)⟩)
        have hv9 := lsm_stb ge_stb _ _ _ hv (kb hbm k9)
        have v5e : ∀ {H}, Keep b H9 H → LsM (GE [b]) [b] 20 v H := fun k => lsm_stb ge_stb _ _ _ hv9 (kb hbm k)
        refine sk_asg1 (B := [b]) (m := 1) (P := TG [b]) g9 (by omega) (by
          refine ek_pick (K := K) (m := 0) (n := 9) hbm tg_stb rfl (ek_lst hbm tg_stb (eka_cons0 hbm tg_stb (ek_c fun _ => tg_d .non rfl) (eka_cons0 hbm tg_stb ?_ (eka_cons0 hbm tg_stb ?_ (eka_cons0 hbm tg_stb ?_ (eka_cons0 hbm tg_stb ?_ (eka_cons0 hbm tg_stb ?_ (eka_cons0 hbm tg_stb (ek_c fun _ => tg_d (.str _ (by decide +kernel) (by decide +kernel)) rfl) (eka_cons0 hbm tg_stb (ek_c fun _ => tg_d (.bl _) rfl) (eka_cons0 hbm tg_stb (ek_c fun _ => tg_d (.int _) rfl) eka_nil))))))))) (by decide)) (by decide)
          · intro N1 H1 l1 k1 g1 Q1 q1
            obtain ⟨q, xs, e, hq', h1, h2, h3⟩ := v5e k1
            refine ⟨v, rfl, q, xs, by rw [e], Or.inl ⟨SqL.of h1, fun r hr' => ?_⟩⟩
            obtain ⟨n1, g2, k2⟩ := g1.new (o := .tup xs) hr'
            exact q1 _ _ N1 (Nat.le_refl _) k2 g2 ⟨none, Or.inr (Or.inr ⟨r, xs, rfl, wo_put n1 upd_same⟩)⟩
          · intro N1 H1 l1 k1 g1 Q1 q1
            obtain ⟨q, xs, e, hq', h1, h2, h3⟩ := v5e k1
            refine ⟨v, rfl, q, xs, e, SqL.of h1, fun r hr' => ?_⟩
            obtain ⟨n1, g2, k2⟩ := g1.new (o := .lst xs.reverse) hr'
            exact q1 _ _ N1 (Nat.le_refl _) k2 g2 (tg_lst (n := 20) ⟨r, _, rfl, n1, upd_same, fun u hu => ge_stb _ _ _ (h2 u (List.mem_reverse.mp hu)) (kb hbm k2), by rw [List.length_reverse]; exact h3⟩ (by decide))
          · exact ek_w (ek_lst (n := 1) (G := GE [b]) hbm ge_stb (eka_cons0 hbm ge_stb (ek_v rfl fun H1 k1 => by
              obtain ⟨q, xs, e, hq', h1, h2, h3⟩ := v5e k1
              exact ⟨none, q, e, Or.inl ⟨xs, wo_put hq' h1⟩⟩) eka_nil) (by decide)) fun x H h => tg_lst (ls_lsm h) (by decide)
          · exact ek_w (ek_catM (m := 0) (m' := 0) hbm ge_stb (ek_v rfl fun H1 k1 => v5e k1) (ek_v rfl fun H1 k1 => v5e k1) (by decide)) fun x H h => tg_lst h (by decide)
          · intro N1 H1 l1 k1 g1 Q1 q1 r hr'
            obtain ⟨n1, g2, k2⟩ := g1.new (o := .dK []) hr'
            exact q1 _ _ N1 (Nat.le_refl _) k2 g2 ⟨none, Or.inr (Or.inl ⟨r, [], rfl, wo_put n1 upd_same⟩)⟩) fun x H10 M10 l10 k10 g10 p10 => ?_
        exact ⟨M10, x, by omega, rfl, (k68.trans k9).trans k10, g10, p10⟩
      · rintro σ' H9 ⟨M9, x, l9, rfl, k9, g9, o, ht⟩
        have ht' : Tp H9 x o := ht.same wo_ex
        have v5 : Ev (tVar 5) [some (.ref a), some (.int (0 + (i : Int))), some (.ref b), some (.int (0 + (j : Int))), some (.ref p), some x] H9 x := Evl.ev_var rfl
        refine Evl.s_when (b := false) (Evl.et_is (Evl.et_test (Evl.ev_op (ev_repB (ev_str v5 ht')) (ev_repB (ev_str v5 ht')) (Evl.rv_ne (scal_str _ _)))) (by simp)) (fun h => nomatch h) fun _ H10 e10 => ?_
        exact ⟨M9, _, _, _, by omega, rfl, k9.trans (Same.keep e10), g9.bag.same e10⟩
    · rintro σ H6 ⟨M, v3, v4, v5, lM, rfl, k6, b7⟩
      refine ⟨_, _, _, _, _, rfl, ?_⟩
      exact seq_keep_new hS1 hbn ((Same.keep s2).trans k6)
  · rintro σ H1 ⟨v1, v2, v3, v4, v5, rfl, _⟩
    have z1 : (strD (some []) : Bool) = true := by decide +kernel
    have z2 : strD (some twoDrops) = false := by decide +kernel
    refine Evl.s_ret (v := .bl true) (Evl.ev_is (Evl.ev_andV (ev_isB (ev_strN (o := some []) (Evl.el_lst Evl.ea_nil (by decide)) fun p H2 _ h => ⟨p, [], rfl, h, .nil, by decide⟩)) fun _ => ev_isB ev_two) (by rw [z1, z2]; rfl)) fun H2 _ => hq H2
end
end KA

set_option Elab.async false
set_option linter.all false
set_option maxRecDepth 100000
set_option maxHeartbeats 4000000
namespace LF
open PySem PySem.Spec PyProof.Rows L2
/-- the heap at the law's entry: what a promise that is asked where no repr is under way gives -/
theorem lawG_call {P : Program} {w : World} {K : PySem.W.Frag} {mg mb : Str → Option Value} {k : Nat} {fa a : Addr} {fd : FuncData} {x : Str} {sp : Sp} {s1 : Shared} {us : List Value} {ns : List Int}
    (KX : K.In s1.heap) (hns : s1.heap.Ns mainGlobals mg) (hbn : s1.heap.Ns builtinsNs mb) (hbb : ∀ y : Str, y ≠ "__name__" → mb y = bootBuiltins y) (hlim : s1.heap.NoLimit) (hgens : s1.gens = #[])
    (ha : s1.heap.get? a = some { cls := .type "list", data := .seq us.toArray }) (hi : IntsAre us ns) (hl : ns.length ≤ sizeLine) (hr : Room k callerA)
    (F : ∀ base : Heap, K.In base → base.Ns mainGlobals mg → FnG P w K mg base CX0 k fa fd [x] sp)
    (hbind : ∀ (s : Shared) (u : Value), BindsTo s fd ⟨[u], []⟩ [(x, u)])
    (hsp : ∀ H : Hp, SqL K H a (ns.map V.int) → sp [.ref a] H (fun v _ => v = .bl true) (fun _ _ _ => False)) :
    codeAny (model P w) callerA (.call (.ref fa) ⟨[.ref a], []⟩)
      (fun r s' => r = .ok (.ret (.bool true)) ∧ OldK s1.heap s'.heap ∧ s'.os = s1.os ∧ AllBare s'.gens) s1 := by
  have hlv := hi.length
  -- from any abstract heap that tracks at most the script
  have main : ∀ H : Hp, (∀ b, H b = none ∨ ∃ o xs, H b = some (.frz o (.lst xs))) → SqL K H a (ns.map V.int) → HOk P w H s1.heap → (∀ b, H b ≠ none → b = a) → (H a ≠ none → K.lookup a = none) →
      codeAny (model P w) callerA (.call (.ref fa) ⟨[.ref a], []⟩)
        (fun r s' => r = .ok (.ret (.bool true)) ∧ OldK s1.heap s'.heap ∧ s'.os = s1.os ∧ AllBare s'.gens) s1 := by
    intro H only hS hok onlyA notK
    have dictFree : ∀ {b : Addr} {o : Obj} {es : Array DictEntry} {ep : Nat}, s1.heap.get? b = some o → o.data = .dict es ep → H b = none := by
      intro b o es ep e d
      cases q : H b with
      | none => rfl
      | some u =>
        have hb := onlyA b (by rw [q]; simp)
        rw [hb, ha] at e
        have e' := Option.some.inj e
        rw [← e'] at d
        cases d
    have nsH : ∀ {b : Addr} {m : Str → Option Value}, s1.heap.Ns b m → (hidT s1.heap H).Ns b m := by
      rintro b m ⟨o, es, ep, e, d, rest⟩
      exact ⟨o, es, ep, hidT_get e (dictFree e d), d, rest⟩
    have KH : K.In (hidT s1.heap H) := by
      intro b o e
      refine hidT_get (KX b o e) ?_
      cases q : H b with
      | none => rfl
      | some u =>
        have hb := onlyA b (by rw [q]; simp)
        subst hb
        have := notK (by rw [q]; simp)
        rw [this] at e
        cases e
    have lim2 : (hidT s1.heap H).NoLimit := by
      obtain ⟨mc, h1, h2⟩ := hlim
      exact ⟨mc, nsH h1, h2⟩
    have hM : Mod K mg (hidT s1.heap H) := ⟨KH, nsH hns, ⟨mb, nsH hbn, hbb⟩, lim2⟩
    have nof : ∀ b : Addr, b ∈ frs ([] : List Env) → False := fun b hb => nomatch (show b ∈ ([] : List Addr) from hb)
    have e0 : Env0 P w K mg (hidT s1.heap H) callerA [] s1 H :=
      ⟨rfl, hM, fun b o e => of_hidT e, Nat.le_of_eq (hidT_size _ _), trivial, fun b hb => (nof b hb).elim, hok, .of_eq hgens⟩
    have run := (F _ KH (nsH hns)).go callerA [] s1 H ⟨[.ref a], []⟩ [.ref a] [.ref a] _ _ rfl hr e0 (hbind s1 (.ref a)) (.cons rfl .nil) (hsp H hS)
    refine codeAny_mono run ?_
    intro r s' h
    cases r with
    | error e => exact h.elim
    | ok fl =>
      cases fl with
      | next => exact h.elim
      | brk => exact h.elim
      | cont => exact h.elim
      | ret u =>
        obtain ⟨v, H', hos, hbare, un, hok', hv, hq⟩ := h
        have hq' : v = V.bl true := hq
        subst hq'
        have hu : u = Value.bool true := hv
        subst hu
        refine ⟨rfl, OldK.of_keep ?_, hos, hbare⟩
        intro b o e
        rcases only b with q | ⟨ob, xs, q⟩
        · exact un.keep b o e q (fun z => nof b z) (fun z => nomatch z)
        · have g1 := (hok b _ q).1
          have g2 := (hok' b _ (un.frzs b ob _ q)).1
          rw [e] at g1
          rw [Option.some.inj g1]
          exact g2
  have rv := vals_ints hi
  cases hk : K.lookup a with
  | some o =>
    have e := KX a o hk
    rw [ha] at e
    have e' := Option.some.inj e
    subst e'
    refine main (fun _ => none) (fun _ => Or.inl rfl) (Or.inr ⟨_, us.toArray, _, hk, rfl, rfl, rfl, ?_, ?_⟩) (fun b u z => nomatch (show (none : Option HO) = some u from z)) (fun b z => absurd rfl z) (fun z => absurd rfl z)
    · rw [List.size_toArray, hlv]; exact hl
    · simpa using rv
  | none =>
    let O : Obj := { cls := .type "list", data := .seq us.toArray }
    have at1 : ∀ b : Addr, b = a → (fun c : Addr => if c = a then some (HO.frz O (.lst (ns.map V.int))) else none) b = some (HO.frz O (.lst (ns.map V.int))) := fun b hb => if_pos hb
    have at0 : ∀ b : Addr, b ≠ a → (fun c : Addr => if c = a then some (HO.frz O (.lst (ns.map V.int))) else none) b = none := fun b hb => if_neg hb
    refine main (fun c => if c = a then some (HO.frz O (.lst (ns.map V.int))) else none) ?_ (Or.inl (Or.inr ⟨O, at1 a rfl⟩)) ?_ ?_ (fun _ => hk)
    · intro b
      by_cases hb : b = a
      · exact Or.inr ⟨O, _, at1 b hb⟩
      · exact Or.inl (at0 b hb)
    · intro b u z
      by_cases hb : b = a
      · have z' := (at1 b hb).symm.trans z
        have z2 := Option.some.inj z'
        subst z2
        subst hb
        exact ⟨ha, by rw [List.length_map]; exact hl, us, _, rv, ha⟩
      · have z' := (at0 b hb).symm.trans z
        cases z'
    · intro b z
      by_cases hb : b = a
      · exact hb
      · exact absurd (at0 b hb) z
theorem walkG {l : PySem.W.OpenLaw} {n k : Nat} {q : Program} {loose : List Str} {XP : (Str → Option Value) → Heap → Prop} {YP : World → Heap → Prop} {d : DefRec} {K : Params → PySem.W.Frag} {sp : PySem.W.Frag → Sp} {x : Str}
    (hn : l.most = some n) (hn2 : n ≤ sizeLine) (hdf : d.params.defaults = []) (hr : Room k callerA) (hY : ∀ (w : World) (h : Heap), YP w h → (K w.params).In h)
    (F : ∀ (w : World) (mg : Str → Option Value) (fa : Addr) (h : Heap), (K w.params).In h → h.Ns mainGlobals mg → mg d.name = some (.ref fa) →
      ∃ fd : FuncData, (∀ (s : Shared) (u : Value), BindsTo s fd ⟨[u], []⟩ [(x, u)]) ∧
        ∀ base : Heap, (K w.params).In base → base.Ns mainGlobals mg → FnG l.prog w (K w.params) mg base CX0 k fa fd [x] (sp (K w.params)))
    (hsp : ∀ (K : PySem.W.Frag) (H : Hp) (a : Addr) (ns : List Int), ns.length ≤ n → SqL K H a (ns.map V.int) → sp K [.ref a] H (fun v _ => v = .bl true) (fun _ _ _ => False)) :
    PySem.W.WalkO q loose XP YP l.row.toRowW d [] (fun f vs => PySem.call f vs) := by
  refine Att.attach_call hn hdf ?_
  intro w s₀ s₁ mg mb fa o pm cd doc a us ns G Y ho hd hcd hmg hobj hints hlen hgens
  have KX := hY w _ Y
  obtain ⟨fd, hb, hF⟩ := F w mg fa _ KX G.T.g hmg
  exact lawG_call KX G.T.g G.T.b G.T.builtins G.T.nolimit hgens hobj hints (Nat.le_trans hlen hn2) hr hF hb (fun H hS => hsp _ H a ns hlen hS)
end LF

set_option Elab.async false
set_option linter.all false
set_option maxRecDepth 100000
set_option maxHeartbeats 4000000
namespace KA
open PySem PySem.Spec PyProof.Rows L2 LF
theorem all_mk {P : Program} {w : World} {K : PySem.W.Frag} {h : Heap} {mg : Str → Option Value} {fa f1 f2 f3 f4 f5 f6 f7 f8 f9 f10 f11 f12 f13 f14 f15 f16 f17 f18 f19 f20 f21 f22 f23 f24 f25 f26 : Addr} (X : K.In h) (G : h.Ns mainGlobals mg) (hfa : mg "law" = some (.ref fa))
    {tj tk2 tn : Tok} {od1 an1 od2 an2 od3 an3 od4 an4 od5 an5 od6 an6 od7 an7 od8 an8 od9 an9 od10 an10 od11 an11 od12 an12 od13 an13 od14 an14 od15 an15 od16 an16 od17 an17 od18 an18 od19 an19 od20 an20 od21 an21 od22 an22 od23 an23 od24 an24 od25 an25 od26 an26 : Option Addr} {sl1 sl2 sl3 sl4 sl5 sl6 sl7 sl8 sl9 sl10 sl11 sl12 sl13 sl14 sl15 sl16 sl17 sl18 sl19 sl20 sl21 sl22 sl23 sl24 sl25 sl26 : Array (Option Value)} {oc1 kV1 dc1 pm1 cd1 ct1 oc2 kV2 dc2 pm2 cd2 ct2 oc3 kV3 dc3 pm3 cd3 ct3 oc4 kV4 dc4 pm4 cd4 ct4 oc5 kV5 dc5 pm5 cd5 ct5 oc6 kV6 dc6 pm6 cd6 ct6 oc7 kV7 dc7 pm7 cd7 ct7 oc8 kV8 dc8 pm8 cd8 ct8 oc9 kV9 dc9 pm9 cd9 ct9 oc10 kV10 dc10 pm10 cd10 ct10 oc11 kV11 dc11 pm11 cd11 ct11 oc12 kV12 dc12 pm12 cd12 ct12 oc13 kV13 dc13 pm13 cd13 ct13 oc14 kV14 dc14 pm14 cd14 ct14 oc15 kV15 dc15 pm15 cd15 ct15 oc16 kV16 dc16 pm16 cd16 ct16 oc17 kV17 dc17 pm17 cd17 ct17 oc18 kV18 dc18 pm18 cd18 ct18 oc19 kV19 dc19 pm19 cd19 ct19 oc20 kV20 dc20 pm20 cd20 ct20 oc21 kV21 dc21 pm21 cd21 ct21 oc22 kV22 dc22 pm22 cd22 ct22 oc23 kV23 dc23 pm23 cd23 ct23 oc24 kV24 dc24 pm24 cd24 ct24 oc25 kV25 dc25 pm25 cd25 ct25 oc26 kV26 dc26 pm26 cd26 ct26 : Value} 
    (zI0 : PySem.W.nsIn K mainGlobals "LONGEST_NAME" = some (some (.int 8 tk2)))
    (zI1 : PySem.W.nsIn K mainGlobals "TOP_JOINT" = some (some (.int (-1) tj)))
    (zI2 : PySem.W.nsIn K mainGlobals "TOP_NAME" = some (some (.str "" tn)))
    (z_isinstance : PySem.W.nsIn K mainGlobals "isinstance" = some none)
    (z_str : PySem.W.nsIn K mainGlobals "str" = some none)
    (z_len : PySem.W.nsIn K mainGlobals "len" = some none)
    (z_all : PySem.W.nsIn K mainGlobals "all" = some none)
    (z_any : PySem.W.nsIn K mainGlobals "any" = some none)
    (z_tuple : PySem.W.nsIn K mainGlobals "tuple" = some none)
    (z_list : PySem.W.nsIn K mainGlobals "list" = some none)
    (z_dict : PySem.W.nsIn K mainGlobals "dict" = some none)
    (z_sorted : PySem.W.nsIn K mainGlobals "sorted" = some none)
    (z_range : PySem.W.nsIn K mainGlobals "range" = some none)
    (z_zip : PySem.W.nsIn K mainGlobals "zip" = some none)
    (z_enumerate : PySem.W.nsIn K mainGlobals "enumerate" = some none)
    (z_set : PySem.W.nsIn K mainGlobals "set" = some none)
    (z_abs : PySem.W.nsIn K mainGlobals "abs" = some none)
    (z_int : PySem.W.nsIn K mainGlobals "int" = some none)
    (z_bool : PySem.W.nsIn K mainGlobals "bool" = some none)
    (z_repr : PySem.W.nsIn K mainGlobals "repr" = some none)
    (z_max : PySem.W.nsIn K mainGlobals "max" = some none)
    (z_min : PySem.W.nsIn K mainGlobals "min" = some none)
    (z_ValueError : PySem.W.nsIn K mainGlobals "ValueError" = some none)
    (a1 : PySem.W.nsIn K mainGlobals "is_name" = some (some (.ref f1)))
    (l1 : K.lookup f1 = some ⟨oc1, od1, .func (PySem.W.fnOf "is_name" "is_name" (defArgs s_is_name) (defBody s_is_name) (defScope s_is_name) .none kV1 dc1 pm1 an1 cd1 ct1), sl1⟩)
    (c1 : PySem.W.codeIn K cd1 "is_name" = true)
    (k1 : PySem.W.keepIn K (.ref f1) = true)
    (a2 : PySem.W.nsIn K mainGlobals "is_path" = some (some (.ref f2)))
    (l2 : K.lookup f2 = some ⟨oc2, od2, .func (PySem.W.fnOf "is_path" "is_path" (defArgs s_is_path) (defBody s_is_path) (defScope s_is_path) .none kV2 dc2 pm2 an2 cd2 ct2), sl2⟩)
    (c2 : PySem.W.codeIn K cd2 "is_path" = true)
    (k2 : PySem.W.keepIn K (.ref f2) = true)
    (a3 : PySem.W.nsIn K mainGlobals "is_integer" = some (some (.ref f3)))
    (l3 : K.lookup f3 = some ⟨oc3, od3, .func (PySem.W.fnOf "is_integer" "is_integer" (defArgs s_is_integer) (defBody s_is_integer) (defScope s_is_integer) .none kV3 dc3 pm3 an3 cd3 ct3), sl3⟩)
    (c3 : PySem.W.codeIn K cd3 "is_integer" = true)
    (k3 : PySem.W.keepIn K (.ref f3) = true)
    (a4 : PySem.W.nsIn K mainGlobals "is_joint" = some (some (.ref f4)))
    (l4 : K.lookup f4 = some ⟨oc4, od4, .func (PySem.W.fnOf "is_joint" "is_joint" (defArgs s_is_joint) (defBody s_is_joint) (defScope s_is_joint) .none kV4 dc4 pm4 an4 cd4 ct4), sl4⟩)
    (c4 : PySem.W.codeIn K cd4 "is_joint" = true)
    (k4 : PySem.W.keepIn K (.ref f4) = true)
    (a5 : PySem.W.nsIn K mainGlobals "is_place_in_package" = some (some (.ref f5)))
    (l5 : K.lookup f5 = some ⟨oc5, od5, .func (PySem.W.fnOf "is_place_in_package" "is_place_in_package" (defArgs s_is_place_in_package) (defBody s_is_place_in_package) (defScope s_is_place_in_package) .none kV5 dc5 pm5 an5 cd5 ct5), sl5⟩)
    (c5 : PySem.W.codeIn K cd5 "is_place_in_package" = true)
    (k5 : PySem.W.keepIn K (.ref f5) = true)
    (a6 : PySem.W.nsIn K mainGlobals "is_ascending" = some (some (.ref f6)))
    (l6 : K.lookup f6 = some ⟨oc6, od6, .func (PySem.W.fnOf "is_ascending" "is_ascending" (defArgs s_is_ascending) (defBody s_is_ascending) (defScope s_is_ascending) .none kV6 dc6 pm6 an6 cd6 ct6), sl6⟩)
    (c6 : PySem.W.codeIn K cd6 "is_ascending" = true)
    (k6 : PySem.W.keepIn K (.ref f6) = true)
    (a7 : PySem.W.nsIn K mainGlobals "is_target" = some (some (.ref f7)))
    (l7 : K.lookup f7 = some ⟨oc7, od7, .func (PySem.W.fnOf "is_target" "is_target" (defArgs s_is_target) (defBody s_is_target) (defScope s_is_target) .none kV7 dc7 pm7 an7 cd7 ct7), sl7⟩)
    (c7 : PySem.W.codeIn K cd7 "is_target" = true)
    (k7 : PySem.W.keepIn K (.ref f7) = true)
    (a8 : PySem.W.nsIn K mainGlobals "is_deed" = some (some (.ref f8)))
    (l8 : K.lookup f8 = some ⟨oc8, od8, .func (PySem.W.fnOf "is_deed" "is_deed" (defArgs s_is_deed) (defBody s_is_deed) (defScope s_is_deed) .none kV8 dc8 pm8 an8 cd8 ct8), sl8⟩)
    (c8 : PySem.W.codeIn K cd8 "is_deed" = true)
    (k8 : PySem.W.keepIn K (.ref f8) = true)
    (a9 : PySem.W.nsIn K mainGlobals "is_top_link" = some (some (.ref f9)))
    (l9 : K.lookup f9 = some ⟨oc9, od9, .func (PySem.W.fnOf "is_top_link" "is_top_link" (defArgs s_is_top_link) (defBody s_is_top_link) (defScope s_is_top_link) .none kV9 dc9 pm9 an9 cd9 ct9), sl9⟩)
    (c9 : PySem.W.codeIn K cd9 "is_top_link" = true)
    (k9 : PySem.W.keepIn K (.ref f9) = true)
    (a10 : PySem.W.nsIn K mainGlobals "is_row_of" = some (some (.ref f10)))
    (l10 : K.lookup f10 = some ⟨oc10, od10, .func (PySem.W.fnOf "is_row_of" "is_row_of" (defArgs s_is_row_of) (defBody s_is_row_of) (defScope s_is_row_of) .none kV10 dc10 pm10 an10 cd10 ct10), sl10⟩)
    (c10 : PySem.W.codeIn K cd10 "is_row_of" = true)
    (k10 : PySem.W.keepIn K (.ref f10) = true)
    (a11 : PySem.W.nsIn K mainGlobals "is_table" = some (some (.ref f11)))
    (l11 : K.lookup f11 = some ⟨oc11, od11, .func (PySem.W.fnOf "is_table" "is_table" (defArgs s_is_table) (defBody s_is_table) (defScope s_is_table) .none kV11 dc11 pm11 an11 cd11 ct11), sl11⟩)
    (c11 : PySem.W.codeIn K cd11 "is_table" = true)
    (k11 : PySem.W.keepIn K (.ref f11) = true)
    (a12 : PySem.W.nsIn K mainGlobals "is_drop_list" = some (some (.ref f12)))
    (l12 : K.lookup f12 = some ⟨oc12, od12, .func (PySem.W.fnOf "is_drop_list" "is_drop_list" (defArgs s_is_drop_list) (defBody s_is_drop_list) (defScope s_is_drop_list) .none kV12 dc12 pm12 an12 cd12 ct12), sl12⟩)
    (c12 : PySem.W.codeIn K cd12 "is_drop_list" = true)
    (k12 : PySem.W.keepIn K (.ref f12) = true)
    (a13 : PySem.W.nsIn K mainGlobals "is_straight" = some (some (.ref f13)))
    (l13 : K.lookup f13 = some ⟨oc13, od13, .func (PySem.W.fnOf "is_straight" "is_straight" (defArgs s_is_straight) (defBody s_is_straight) (defScope s_is_straight) .none kV13 dc13 pm13 an13 cd13 ct13), sl13⟩)
    (c13 : PySem.W.codeIn K cd13 "is_straight" = true)
    (k13 : PySem.W.keepIn K (.ref f13) = true)
    (a14 : PySem.W.nsIn K mainGlobals "_law_is_number" = some (some (.ref f14)))
    (l14 : K.lookup f14 = some ⟨oc14, od14, .func (PySem.W.fnOf "_law_is_number" "_law_is_number" (defArgs s__law_is_number) (defBody s__law_is_number) (defScope s__law_is_number) .none kV14 dc14 pm14 an14 cd14 ct14), sl14⟩)
    (c14 : PySem.W.codeIn K cd14 "_law_is_number" = true)
    (k14 : PySem.W.keepIn K (.ref f14) = true)
    (a15 : PySem.W.nsIn K mainGlobals "_law_is_word" = some (some (.ref f15)))
    (l15 : K.lookup f15 = some ⟨oc15, od15, .func (PySem.W.fnOf "_law_is_word" "_law_is_word" (defArgs s__law_is_word) (defBody s__law_is_word) (defScope s__law_is_word) .none kV15 dc15 pm15 an15 cd15 ct15), sl15⟩)
    (c15 : PySem.W.codeIn K cd15 "_law_is_word" = true)
    (k15 : PySem.W.keepIn K (.ref f15) = true)
    (a16 : PySem.W.nsIn K mainGlobals "_law_is_target" = some (some (.ref f16)))
    (l16 : K.lookup f16 = some ⟨oc16, od16, .func (PySem.W.fnOf "_law_is_target" "_law_is_target" (defArgs s__law_is_target) (defBody s__law_is_target) (defScope s__law_is_target) .none kV16 dc16 pm16 an16 cd16 ct16), sl16⟩)
    (c16 : PySem.W.codeIn K cd16 "_law_is_target" = true)
    (k16 : PySem.W.keepIn K (.ref f16) = true)
    (a17 : PySem.W.nsIn K mainGlobals "_law_rows_right" = some (some (.ref f17)))
    (l17 : K.lookup f17 = some ⟨oc17, od17, .func (PySem.W.fnOf "_law_rows_right" "_law_rows_right" (defArgs s__law_rows_right) (defBody s__law_rows_right) (defScope s__law_rows_right) .none kV17 dc17 pm17 an17 cd17 ct17), sl17⟩)
    (c17 : PySem.W.codeIn K cd17 "_law_rows_right" = true)
    (k17 : PySem.W.keepIn K (.ref f17) = true)
    (a18 : PySem.W.nsIn K mainGlobals "_law_is_deed" = some (some (.ref f18)))
    (l18 : K.lookup f18 = some ⟨oc18, od18, .func (PySem.W.fnOf "_law_is_deed" "_law_is_deed" (defArgs s__law_is_deed) (defBody s__law_is_deed) (defScope s__law_is_deed) .none kV18 dc18 pm18 an18 cd18 ct18), sl18⟩)
    (c18 : PySem.W.codeIn K cd18 "_law_is_deed" = true)
    (k18 : PySem.W.keepIn K (.ref f18) = true)
    (a19 : PySem.W.nsIn K mainGlobals "_law_take" = some (some (.ref f19)))
    (l19 : K.lookup f19 = some ⟨oc19, od19, .func (PySem.W.fnOf "_law_take" "_law_take" (defArgs s__law_take) (defBody s__law_take) (defScope s__law_take) .none kV19 dc19 pm19 an19 cd19 ct19), sl19⟩)
    (c19 : PySem.W.codeIn K cd19 "_law_take" = true)
    (k19 : PySem.W.keepIn K (.ref f19) = true)
    (a20 : PySem.W.nsIn K mainGlobals "_law_pick" = some (some (.ref f20)))
    (l20 : K.lookup f20 = some ⟨oc20, od20, .func (PySem.W.fnOf "_law_pick" "_law_pick" (defArgs s__law_pick) (defBody s__law_pick) (defScope s__law_pick) .none kV20 dc20 pm20 an20 cd20 ct20), sl20⟩)
    (c20 : PySem.W.codeIn K cd20 "_law_pick" = true)
    (k20 : PySem.W.keepIn K (.ref f20) = true)
    (a21 : PySem.W.nsIn K mainGlobals "_law_odd_deed" = some (some (.ref f21)))
    (l21 : K.lookup f21 = some ⟨oc21, od21, .func (PySem.W.fnOf "_law_odd_deed" "_law_odd_deed" (defArgs s__law_odd_deed) (defBody s__law_odd_deed) (defScope s__law_odd_deed) .none kV21 dc21 pm21 an21 cd21 ct21), sl21⟩)
    (c21 : PySem.W.codeIn K cd21 "_law_odd_deed" = true)
    (k21 : PySem.W.keepIn K (.ref f21) = true)
    (a22 : PySem.W.nsIn K mainGlobals "_law_bag" = some (some (.ref f22)))
    (l22 : K.lookup f22 = some ⟨oc22, od22, .func (PySem.W.fnOf "_law_bag" "_law_bag" (defArgs s__law_bag) (defBody s__law_bag) (defScope s__law_bag) .none kV22 dc22 pm22 an22 cd22 ct22), sl22⟩)
    (c22 : PySem.W.codeIn K cd22 "_law_bag" = true)
    (k22 : PySem.W.keepIn K (.ref f22) = true)
    (a23 : PySem.W.nsIn K mainGlobals "_law_words" = some (some (.ref f23)))
    (l23 : K.lookup f23 = some ⟨oc23, od23, .func (PySem.W.fnOf "_law_words" "_law_words" (defArgs s__law_words) (defBody s__law_words) (defScope s__law_words) .none kV23 dc23 pm23 an23 cd23 ct23), sl23⟩)
    (c23 : PySem.W.codeIn K cd23 "_law_words" = true)
    (k23 : PySem.W.keepIn K (.ref f23) = true)
    (a24 : PySem.W.nsIn K mainGlobals "_law_is_straight" = some (some (.ref f24)))
    (l24 : K.lookup f24 = some ⟨oc24, od24, .func (PySem.W.fnOf "_law_is_straight" "_law_is_straight" (defArgs s__law_is_straight) (defBody s__law_is_straight) (defScope s__law_is_straight) .none kV24 dc24 pm24 an24 cd24 ct24), sl24⟩)
    (c24 : PySem.W.codeIn K cd24 "_law_is_straight" = true)
    (k24 : PySem.W.keepIn K (.ref f24) = true)
    (a25 : PySem.W.nsIn K mainGlobals "_law_some" = some (some (.ref f25)))
    (l25 : K.lookup f25 = some ⟨oc25, od25, .func (PySem.W.fnOf "_law_some" "_law_some" (defArgs s__law_some) (defBody s__law_some) (defScope s__law_some) .none kV25 dc25 pm25 an25 cd25 ct25), sl25⟩)
    (c25 : PySem.W.codeIn K cd25 "_law_some" = true)
    (k25 : PySem.W.keepIn K (.ref f25) = true)
    (a26 : PySem.W.nsIn K mainGlobals "law" = some (some (.ref f26)))
    (l26 : K.lookup f26 = some ⟨oc26, od26, .func (PySem.W.fnOf "law" "law" (defArgs s_law) (defBody s_law) (defScope s_law) .none kV26 dc26 pm26 an26 cd26 ct26), sl26⟩)
    (c26 : PySem.W.codeIn K cd26 "law" = true)
    (k26 : PySem.W.keepIn K (.ref f26) = true) :
    ∃ fd : FuncData, (∀ (s : Shared) (u : Value), BindsTo s fd ⟨[u], []⟩ [("_law_script", u)]) ∧ ∀ base : Heap, K.In base → base.Ns mainGlobals mg → FnG P w K mg base CX0 10 fa fd ["_law_script"] (spLaw K) := by
  have e := hfa.symm.trans (PySem.W.mg_of X G a26)
  cases e
  have F1 := fun_mk (st := s_is_name) l1 c1 k1
  have b1 := F1.binds (ps := ["thing"]) fun _ _ _ _ _ _ us hl => match us, hl with | [_], _ => rfl
  have F2 := fun_mk (st := s_is_path) l2 c2 k2
  have b2 := F2.binds (ps := ["thing"]) fun _ _ _ _ _ _ us hl => match us, hl with | [_], _ => rfl
  have F3 := fun_mk (st := s_is_integer) l3 c3 k3
  have b3 := F3.binds (ps := ["thing"]) fun _ _ _ _ _ _ us hl => match us, hl with | [_], _ => rfl
  have F4 := fun_mk (st := s_is_joint) l4 c4 k4
  have b4 := F4.binds (ps := ["thing"]) fun _ _ _ _ _ _ us hl => match us, hl with | [_], _ => rfl
  have F5 := fun_mk (st := s_is_place_in_package) l5 c5 k5
  have b5 := F5.binds (ps := ["thing"]) fun _ _ _ _ _ _ us hl => match us, hl with | [_], _ => rfl
  have F6 := fun_mk (st := s_is_ascending) l6 c6 k6
  have b6 := F6.binds (ps := ["things"]) fun _ _ _ _ _ _ us hl => match us, hl with | [_], _ => rfl
  have F7 := fun_mk (st := s_is_target) l7 c7 k7
  have b7 := F7.binds (ps := ["thing"]) fun _ _ _ _ _ _ us hl => match us, hl with | [_], _ => rfl
  have F8 := fun_mk (st := s_is_deed) l8 c8 k8
  have b8 := F8.binds (ps := ["thing"]) fun _ _ _ _ _ _ us hl => match us, hl with | [_], _ => rfl
  have F9 := fun_mk (st := s_is_top_link) l9 c9 k9
  have b9 := F9.binds (ps := ["deed"]) fun _ _ _ _ _ _ us hl => match us, hl with | [_], _ => rfl
  have F10 := fun_mk (st := s_is_row_of) l10 c10 k10
  have b10 := F10.binds (ps := ["thing", "is_key", "is_worth"]) fun _ _ _ _ _ _ us hl => match us, hl with | [_, _, _], _ => rfl
  have F11 := fun_mk (st := s_is_table) l11 c11 k11
  have b11 := F11.binds (ps := ["thing"]) fun _ _ _ _ _ _ us hl => match us, hl with | [_], _ => rfl
  have F12 := fun_mk (st := s_is_drop_list) l12 c12 k12
  have b12 := F12.binds (ps := ["thing"]) fun _ _ _ _ _ _ us hl => match us, hl with | [_], _ => rfl
  have F13 := fun_mk (st := s_is_straight) l13 c13 k13
  have b13 := F13.binds (ps := ["deeds"]) fun _ _ _ _ _ _ us hl => match us, hl with | [_], _ => rfl
  have F14 := fun_mk (st := s__law_is_number) l14 c14 k14
  have b14 := F14.binds (ps := ["_law_thing"]) fun _ _ _ _ _ _ us hl => match us, hl with | [_], _ => rfl
  have F15 := fun_mk (st := s__law_is_word) l15 c15 k15
  have b15 := F15.binds (ps := ["_law_thing"]) fun _ _ _ _ _ _ us hl => match us, hl with | [_], _ => rfl
  have F16 := fun_mk (st := s__law_is_target) l16 c16 k16
  have b16 := F16.binds (ps := ["_law_thing"]) fun _ _ _ _ _ _ us hl => match us, hl with | [_], _ => rfl
  have F17 := fun_mk (st := s__law_rows_right) l17 c17 k17
  have b17 := F17.binds (ps := ["_law_thing"]) fun _ _ _ _ _ _ us hl => match us, hl with | [_], _ => rfl
  have F18 := fun_mk (st := s__law_is_deed) l18 c18 k18
  have b18 := F18.binds (ps := ["_law_thing"]) fun _ _ _ _ _ _ us hl => match us, hl with | [_], _ => rfl
  have F19 := fun_mk (st := s__law_take) l19 c19 k19
  have b19 := F19.binds (ps := ["_law_bag_here", "_law_many"]) fun _ _ _ _ _ _ us hl => match us, hl with | [_, _], _ => rfl
  have F20 := fun_mk (st := s__law_pick) l20 c20 k20
  have b20 := F20.binds (ps := ["_law_bag_here", "_law_items"]) fun _ _ _ _ _ _ us hl => match us, hl with | [_, _], _ => rfl
  have F21 := fun_mk (st := s__law_odd_deed) l21 c21 k21
  have b21 := F21.binds (ps := ["_law_bag_here", "_law_old", "_law_words_here"]) fun _ _ _ _ _ _ us hl => match us, hl with | [_, _, _], _ => rfl
  have F22 := fun_mk (st := s__law_bag) l22 c22 k22
  have b22 := F22.binds (ps := ["_law_script", "_law_at"]) fun _ _ _ _ _ _ us hl => match us, hl with | [_, _], _ => rfl
  have F23 := fun_mk (st := s__law_words) l23 c23 k23
  have b23 := F23.binds (ps := ["_law_bag_here"]) fun _ _ _ _ _ _ us hl => match us, hl with | [_], _ => rfl
  have F24 := fun_mk (st := s__law_is_straight) l24 c24 k24
  have b24 := F24.binds (ps := ["_law_thing"]) fun _ _ _ _ _ _ us hl => match us, hl with | [_], _ => rfl
  have F25 := fun_mk (st := s__law_some) l25 c25 k25
  have b25 := F25.binds (ps := ["_law_bag_here", "_law_words_here"]) fun _ _ _ _ _ _ us hl => match us, hl with | [_, _], _ => rfl
  have F26 := fun_mk (st := s_law) l26 c26 k26
  have b26 := F26.binds (ps := ["_law_script"]) fun _ _ _ _ _ _ us hl => match us, hl with | [_], _ => rfl
  refine ⟨_, fun s u => .of_eq (fd := PySem.W.fnOf "law" "law" (defArgs s_law) (defBody s_law) (defScope s_law) .none kV26 dc26 pm26 an26 cd26 ct26) rfl, fun base _ _ => ?_⟩
  have T : Txt K mg tk2 tk2 := ⟨PySem.W.mg_of X G zI0, PySem.W.mg_none_of X G z_isinstance, PySem.W.mg_none_of X G z_str, PySem.W.mg_none_of X G z_len, PySem.W.mg_none_of X G z_all, PySem.W.mg_none_of X G z_any, PySem.W.mg_none_of X G z_tuple, PySem.W.mg_none_of X G z_list, PySem.W.mg_none_of X G z_dict, PySem.W.mg_none_of X G z_sorted, PySem.W.mg_none_of X G z_range, PySem.W.mg_none_of X G z_zip, PySem.W.mg_none_of X G z_enumerate, PySem.W.mg_none_of X G z_set, PySem.W.mg_none_of X G z_abs, PySem.W.mg_none_of X G z_int, PySem.W.mg_none_of X G z_bool, PySem.W.mg_none_of X G z_repr, PySem.W.mg_none_of X G z_max, PySem.W.mg_none_of X G z_min, PySem.W.mg_none_of X G z_ValueError⟩
  have U : Tops mg tj tn := ⟨PySem.W.mg_of X G zI1, PySem.W.mg_of X G zI2⟩
  have dnm : DefAt P w K mg base "is_name" _ f1 _ _ _ := ⟨ok_is_name F1 T, PySem.W.mg_of X G a1, k1, b1⟩
  have d1 : DefAt P w K mg base "is_name" _ f1 _ _ _ := ⟨ok_is_nameD F1 T, PySem.W.mg_of X G a1, k1, b1⟩
  have d2 : DefAt P w K mg base "is_path" _ f2 _ _ _ := ⟨ok_is_path F2 T dnm, PySem.W.mg_of X G a2, k2, b2⟩
  have d3 : DefAt P w K mg base "is_integer" _ f3 _ _ _ := ⟨ok_is_integer F3 T, PySem.W.mg_of X G a3, k3, b3⟩
  have d4 : DefAt P w K mg base "is_joint" _ f4 _ _ _ := ⟨ok_is_joint F4 T d3, PySem.W.mg_of X G a4, k4, b4⟩
  have d5 : DefAt P w K mg base "is_place_in_package" _ f5 _ _ _ := ⟨ok_is_place_in_package F5 T d1 d2, PySem.W.mg_of X G a5, k5, b5⟩
  have d6 : DefAt P w K mg base "is_ascending" _ f6 _ _ _ := ⟨ok_is_ascending F6 T, PySem.W.mg_of X G a6, k6, b6⟩
  have d7 : DefAt P w K mg base "is_target" _ f7 _ _ _ := ⟨ok_is_target F7 T d4 d5, PySem.W.mg_of X G a7, k7, b7⟩
  have drt : DefAt P w K mg base "is_row_of" _ f10 _ _ _ := ⟨ok_is_row_of (k := 4) F10 T d6 d1 d7 (by decide) (by decide) (by decide) (fun _ h => kin_nm h), PySem.W.mg_of X G a10, k10, b10⟩
  have d11 : DefAt P w K mg base "is_table" _ f11 _ _ _ := ⟨ok_is_table F11 drt d1 d7, PySem.W.mg_of X G a11, k11, b11⟩
  have d10 : DefAt P w K mg base "is_row_of" _ f10 _ _ _ := ⟨ok_is_row_of (k := 6) F10 T d6 d4 d11 (by decide) (by decide) (by decide) (fun _ h => kin_jt h), PySem.W.mg_of X G a10, k10, b10⟩
  have d12 : DefAt P w K mg base "is_drop_list" _ f12 _ _ _ := ⟨ok_is_drop_list F12 T d6 d4, PySem.W.mg_of X G a12, k12, b12⟩
  have d9 : DefAt P w K mg base "is_top_link" _ f9 _ _ _ := ⟨ok_is_top_link F9 T U d3, PySem.W.mg_of X G a9, k9, b9⟩
  have GD := ok_is_deed (P := P) (w := w) (mg := mg) (base := base) F8 T d10 d12 d9 d4 d1 d11 d7
  have d8 : DefAt P w K mg base "is_deed" _ f8 _ _ _ := ⟨opq_is_deed d10 d12 d9 d4 d1 d11 d7 F8 T GD, PySem.W.mg_of X G a8, k8, b8⟩
  have d13 : DefAt P w K mg base "is_straight" _ f13 _ _ _ := ⟨ok_is_straight F13 T d8, PySem.W.mg_of X G a13, k13, b13⟩
  have d14 : DefAt P w K mg base "_law_is_number" _ f14 _ _ _ := ⟨ok__law_is_number F14 T, PySem.W.mg_of X G a14, k14, b14⟩
  have d15 : DefAt P w K mg base "_law_is_word" _ f15 _ _ _ := ⟨ok__law_is_word F15 T, PySem.W.mg_of X G a15, k15, b15⟩
  have d16 : DefAt P w K mg base "_law_is_target" _ f16 _ _ _ := ⟨ok__law_is_target F16 T d15 d14, PySem.W.mg_of X G a16, k16, b16⟩
  have d17 : DefAt P w K mg base "_law_rows_right" _ f17 _ _ _ := ⟨ok__law_rows_right F17 T d14 d15 d16, PySem.W.mg_of X G a17, k17, b17⟩
  have GL := ok__law_is_deed (P := P) (w := w) (mg := mg) (base := base) F18 T d14 d15 d16 d17
  have d18 : DefAt P w K mg base "_law_is_deed" _ f18 _ _ _ := ⟨opq_ldeed F18 T d14 d15 d16 d17 GL, PySem.W.mg_of X G a18, k18, b18⟩
  have d24 : DefAt P w K mg base "_law_is_straight" _ f24 _ _ _ := ⟨ok__law_is_straight F24 T d18, PySem.W.mg_of X G a24, k24, b24⟩
  have d19 : DefAt P w K mg base "_law_take" _ f19 _ _ _ := ⟨ok_take F19 T, PySem.W.mg_of X G a19, k19, b19⟩
  have d20 : DefAt P w K mg base "_law_pick" _ f20 _ _ _ := ⟨ok_pick F20 T d19, PySem.W.mg_of X G a20, k20, b20⟩
  have d22 : DefAt P w K mg base "_law_bag" _ f22 _ _ _ := ⟨ok_bag F22 T, PySem.W.mg_of X G a22, k22, b22⟩
  have d23 : DefAt P w K mg base "_law_words" _ f23 _ _ _ := ⟨ok_words F23 T d19 d20, PySem.W.mg_of X G a23, k23, b23⟩
  have d21 : DefAt P w K mg base "_law_odd_deed" _ f21 _ _ _ := ⟨ok_odd F21 T d20, PySem.W.mg_of X G a21, k21, b21⟩
  have d25 : DefAt P w K mg base "_law_some" _ f25 _ _ _ := ⟨ok_some F25 T d19 d20 d21, PySem.W.mg_of X G a25, k25, b25⟩
  exact ok_law F26 T d22 d23 d25 d19 d20 d13 d24
theorem walk {l : PySem.W.OpenLaw} {q : Program} {loose : List Str} {XP : (Str → Option Value) → Heap → Prop} {YP : World → Heap → Prop} {d : DefRec} {K : Params → PySem.W.Frag} (hn : l.most = some 63) (hdf : d.params.defaults = [])
    (hY : ∀ (w : World) (h : Heap), YP w h → (K w.params).In h)
    (F : ∀ (w : World) (mg : Str → Option Value) (fa : Addr) (h : Heap), (K w.params).In h → h.Ns mainGlobals mg → mg d.name = some (.ref fa) →
      ∃ fd : FuncData, (∀ (s : Shared) (u : Value), BindsTo s fd ⟨[u], []⟩ [("_law_script", u)]) ∧ ∀ base : Heap, (K w.params).In base → base.Ns mainGlobals mg → FnG l.prog w (K w.params) mg base CX0 10 fa fd ["_law_script"] (spLaw (K w.params))) :
    PySem.W.WalkO q loose XP YP l.row.toRowW d [] (fun f vs => PySem.call f vs) :=
  walkG (n := 63) (k := 10) (x := "_law_script") (sp := spLaw) hn (by decide) hdf ⟨rfl, by decide, by decide⟩ hY F (fun K H a ns hl hS => ⟨a, ns, rfl, hS, hl, fun _ => rfl⟩)
end KA

open PySem PySem.W PyProof.Rows in
set_option maxRecDepth 100000 in
set_option maxHeartbeats 0 in
theorem PySem.Challenge.cw_linkfarms_k61_straight_forms_holds : PySem.Challenge.rw_linkfarms_k61_straight_forms.Holds := by
  w_on; o_law; k_head; (case hw => w_witness2)
  k_fill
  refine KA.walk (l := PySem.Challenge.rw_linkfarms_k61_straight_forms) rfl rfl (fun w h Y => PySem.W.kIn_of Y) ?F
  case F =>
    intro w mg fa h KX G hmg
    refine' KA.all_mk KX G hmg ?zI0 ?zI1 ?zI2 ?z_isinstance ?z_str ?z_len ?z_all ?z_any ?z_tuple ?z_list ?z_dict ?z_sorted ?z_range ?z_zip ?z_enumerate ?z_set ?z_abs ?z_int ?z_bool ?z_repr ?z_max ?z_min ?z_ValueError ?a1 ?l1 ?c1 ?k1 ?a2 ?l2 ?c2 ?k2 ?a3 ?l3 ?c3 ?k3 ?a4 ?l4 ?c4 ?k4 ?a5 ?l5 ?c5 ?k5 ?a6 ?l6 ?c6 ?k6 ?a7 ?l7 ?c7 ?k7 ?a8 ?l8 ?c8 ?k8 ?a9 ?l9 ?c9 ?k9 ?a10 ?l10 ?c10 ?k10 ?a11 ?l11 ?c11 ?k11 ?a12 ?l12 ?c12 ?k12 ?a13 ?l13 ?c13 ?k13 ?a14 ?l14 ?c14 ?k14 ?a15 ?l15 ?c15 ?k15 ?a16 ?l16 ?c16 ?k16 ?a17 ?l17 ?c17 ?k17 ?a18 ?l18 ?c18 ?k18 ?a19 ?l19 ?c19 ?k19 ?a20 ?l20 ?c20 ?k20 ?a21 ?l21 ?c21 ?k21 ?a22 ?l22 ?c22 ?k22 ?a23 ?l23 ?c23 ?k23 ?a24 ?l24 ?c24 ?k24 ?a25 ?l25 ?c25 ?k25 ?a26 ?l26 ?c26 ?k26
    (case zI0 => k_is)
    (case zI1 => k_is)
    (case zI2 => k_is)
    (case z_isinstance => k_is)
    (case z_str => k_is)
    (case z_len => k_is)
    (case z_all => k_is)
    (case z_any => k_is)
    (case z_tuple => k_is)
    (case z_list => k_is)
    (case z_dict => k_is)
    (case z_sorted => k_is)
    (case z_range => k_is)
    (case z_zip => k_is)
    (case z_enumerate => k_is)
    (case z_set => k_is)
    (case z_abs => k_is)
    (case z_int => k_is)
    (case z_bool => k_is)
    (case z_repr => k_is)
    (case z_max => k_is)
    (case z_min => k_is)
    (case z_ValueError => k_is)
    (case a1 => k_is)
    (case l1 => k_is)
    (case c1 => k_is)
    (case k1 => k_is)
    (case a2 => k_is)
    (case l2 => k_is)
    (case c2 => k_is)
    (case k2 => k_is)
    (case a3 => k_is)
    (case l3 => k_is)
    (case c3 => k_is)
    (case k3 => k_is)
    (case a4 => k_is)
    (case l4 => k_is)
    (case c4 => k_is)
    (case k4 => k_is)
    (case a5 => k_is)
    (case l5 => k_is)
    (case c5 => k_is)
    (case k5 => k_is)
    (case a6 => k_is)
    (case l6 => k_is)
    (case c6 => k_is)
    (case k6 => k_is)
    (case a7 => k_is)
    (case l7 => k_is)
    (case c7 => k_is)
    (case k7 => k_is)
    (case a8 => k_is)
    (case l8 => k_is)
    (case c8 => k_is)
    (case k8 => k_is)
    (case a9 => k_is)
    (case l9 => k_is)
    (case c9 => k_is)
    (case k9 => k_is)
    (case a10 => k_is)
    (case l10 => k_is)
    (case c10 => k_is)
    (case k10 => k_is)
    (case a11 => k_is)
    (case l11 => k_is)
    (case c11 => k_is)
    (case k11 => k_is)
    (case a12 => k_is)
    (case l12 => k_is)
    (case c12 => k_is)
    (case k12 => k_is)
    (case a13 => k_is)
    (case l13 => k_is)
    (case c13 => k_is)
    (case k13 => k_is)
    (case a14 => k_is)
    (case l14 => k_is)
    (case c14 => k_is)
    (case k14 => k_is)
    (case a15 => k_is)
    (case l15 => k_is)
    (case c15 => k_is)
    (case k15 => k_is)
    (case a16 => k_is)
    (case l16 => k_is)
    (case c16 => k_is)
    (case k16 => k_is)
    (case a17 => k_is)
    (case l17 => k_is)
    (case c17 => k_is)
    (case k17 => k_is)
    (case a18 => k_is)
    (case l18 => k_is)
    (case c18 => k_is)
    (case k18 => k_is)
    (case a19 => k_is)
    (case l19 => k_is)
    (case c19 => k_is)
    (case k19 => k_is)
    (case a20 => k_is)
    (case l20 => k_is)
    (case c20 => k_is)
    (case k20 => k_is)
    (case a21 => k_is)
    (case l21 => k_is)
    (case c21 => k_is)
    (case k21 => k_is)
    (case a22 => k_is)
    (case l22 => k_is)
    (case c22 => k_is)
    (case k22 => k_is)
    (case a23 => k_is)
    (case l23 => k_is)
    (case c23 => k_is)
    (case k23 => k_is)
    (case a24 => k_is)
    (case l24 => k_is)
    (case c24 => k_is)
    (case k24 => k_is)
    (case a25 => k_is)
    (case l25 => k_is)
    (case c25 => k_is)
    (case k25 => k_is)
    (case a26 => k_is)
    (case l26 => k_is)
    (case c26 => k_is)
    (case k26 => k_is)
#print axioms PySem.Challenge.cw_linkfarms_k61_straight_forms_holds

