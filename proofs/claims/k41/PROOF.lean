import PyProof.Rows.All
import Wide.All
import OpenK.AllK
import Wide.FinOn
import HandS.ForMost
import HandS.ForExc
import HandS.Star
import HandS.Deep
import HandS.IsInst
import HandS.SortKw
import KE.SortKeyHeap
import HandS.ExcIs
import HandS.Walk
import HandS.StrMore
import HandS.Evl
import HandS.CallLocal
import HandS.Zip
import HandS.WordsExc
import HandS.ExcInit
import HandS.ExcField
import HandS.Style
import HandS.SetFor
import HandS.SetKeys
import KE.SortData
import PyProof.Rows.SetFrom
import HandS.TupSets
import HandS.TupAny
import HandS.DictComp
import HandS.More
import HandS.Keys
import HandS.Defaults
import KE.DataMinMax
import HandS.ClsMeth
import HandS.CallSlots
import HandS.MakeKwOnly
import HandS.Small
import HandS.ListItems
import KE.KEqNest
import PySem.Challenge.RW_linkfarms_k41_layouts_refused
set_option Elab.async false
set_option linter.all false
set_option maxRecDepth 100000
set_option maxHeartbeats 4000000
namespace LF
open PySem PySem.Spec PyProof.Rows L2

/-- a promise that is asked only where no repr is under way -/
structure FnG (P : Program) (w : World) (K : PySem.W.Frag) (mg : Str → Option Value) (base : Heap) (CX : CXT)
    (k : Nat) (f : Addr) (fd : FuncData) (ps : List Str) (sp : Sp) : Prop where
  len : ∀ vs H Q E, sp vs H Q E → vs.length = ps.length
  go : ∀ (A : Around) (fr : List Env) (st : Shared) (H : Hp) (ar : Args) (us : List Value) (vs : List V) (Q : VK) (E : XK),
    A.guards = some [] → Room k A → Env0 P w K mg base A fr st H → BindsTo st fd ar (ps.zip us) → Vals vs us →
    sp vs H Q E → codeAny (model P w) A (.call (.ref f) ar) (CR CX fr P w H st Q E) st

theorem body_end {CX : CXT} {P : Program} {w : World} {K : PySem.W.Frag} {mg : Str → Option Value} {base : Heap} {N : List Str}
    {q : String} {sc : Scope} {f : Addr} {cd : Value} {A : Around} {fr : List Env} {st : Shared} {H : Hp} {E : XK} {Q : VK}
    {v : V} {u : Value} {σ : L2.St} {H' : Hp} {s' : Shared}
    (J : Inv (cxOf CX P w K mg base N q sc f cd A fr st H E) [] σ H' s') (rv : RelV v u) (hq : Q v H') :
    CE fr P w H st Q u s' :=
  ⟨v, H', J.os, J.bare, J.base, J.hok, rv, hq⟩

theorem fnG_of {CX : CXT} {P : Program} {w : World} {K : PySem.W.Frag} {mg : Str → Option Value} {base : Heap} {k : Nat} {f : Addr}
    {x q : String} {st : Stmt} {fd : FuncData} {N ps : List Str} {sp : Sp} (F : Fun K x q st f fd) (S : FnScope N ps (defScope st))
    (len : ∀ vs H Q E, sp vs H Q E → vs.length = ps.length)
    (hb : ∀ (cdv : Value) (A : Around) (fr : List Env) (s : Shared) (H : Hp) (vs : List V) (Q : VK) (E : XK), A.guards = some [] →
      Room k (A.deeper (envOfC q (defScope st) s.heap.objs.size f cdv)) → sp vs H Q E →
      ∃ t, PSs (cxOf CX P w K mg base N q (defScope st) f cdv A fr s H E) (defBody st) t ∧
        t { nx := fun _ H' => Q .non H', rt := Q } (start N vs) H) : FnG P w K mg base CX (k + 1) f fd ps sp := by
  obtain ⟨oc, od, kV, doc, pm, an, cdv, ct, osl, rfl, lk, hcd⟩ := F.ex
  refine ⟨len, ?_⟩
  intro A fr s H ar us vs Q E hgd hr e0 hbi r hsp
  have hl := len _ _ _ _ hsp
  have KX : K.In s.heap := e0.mod.kin.keeps (fun b o e => (e0.bs b o e).1)
  have lim : s.heap.NoLimit := e0.mod.nolimit.keeps (fun b o e => (e0.bs b o e).1)
  have hkd : ∀ y ∈ ps.zip us, (defScope st).names.lookup y.1 = some .local ∨
      ((defScope st).names.lookup y.1 = some .cell ∧ ((cellsFrom (s.heap.objs.size + 1) (defScope st).names []).lookup y.1).isSome = true) := by
    rintro ⟨n, v⟩ hy
    rcases S.par n (List.of_mem_zip hy).1 with z | z
    · exact Or.inl z
    · exact Or.inr ⟨z, PySem.W.cellsFrom_some _ _ _ (Or.inl z)⟩
  refine codeAny_call_function hr.depth (KX _ _ lk) rfl S.co S.gen rfl (PySem.W.codeRec_of KX hcd) (hbi _ _ _ _ ?_)
  refine wpAny_newFunctionEnv_cells S.kind hkd ?_
  intro env he s1 xx
  subst he
  refine ⟨lim.keeps xx.toInCall.keep, codeAny_func ?_⟩
  obtain ⟨t, ht, hq⟩ := hb cdv A fr s H vs Q E hgd (hr.deeper _) hsp
  have I := inv_start (CX := CX) (cd := cdv) (E := E) S hr.hd e0 hl r xx
  refine wpAny_mono (ht.run [] s1 (start N vs) H _ I hq) ?_ (fun e s' hs => hs)
  intro fl s' hs
  cases fl with
  | ret u =>
    obtain ⟨v, σ', H', J, rv, z⟩ := hs
    exact body_end J rv z
  | next =>
    obtain ⟨σ', H', J, z⟩ := hs
    exact body_end (v := V.non) (u := Value.none) J rfl z
  | brk => exact (hs.choose_spec.choose_spec.2).elim
  | cont => exact (hs.choose_spec.choose_spec.2).elim

section
variable {X : Cx} {CX : CXT} {k : Nat} {f : Addr} {fd : FuncData} {ps : List Str} {sp : Sp} {dvs : List V} {ds : List Value} {E : XK}
  {x : Str} {p pos : Pos} {e : Expr} {es : List Expr} {t : TA}

theorem runG {pins : List (Addr × Obj)} {σ : L2.St} {H : Hp} {s : Shared} {Q : VK} {us : List Value} {vs : List V}
    (F : FnG X.prog X.w X.K X.mg X.base CX k f fd ps sp) (gd : X.A.guards = some []) (hr : Room k X.A) (hb : Binds X.K fd ps [])
    (hx : Passes CX X E) (I : Inv X pins σ H s) (r : Vals vs us) (h : sp vs H Q E) :
    wpAny (model X.prog X.w) X.A (call (.ref f) us) (EP X pins σ Q) X.xe s := by
  have hl : us.length = ps.length := by rw [← r.length]; exact F.len _ _ _ _ h
  have hb' := hb s us I.kIn (by rw [List.append_nil]; exact hl)
  rw [List.append_nil] at hb'
  refine wpAny_call (codeAny_mono (F.go X.A X.stack s H ⟨us, []⟩ us vs Q E gd hr I.env0 hb' r h) ?_)
  intro rr s' hq
  cases rr with
  | error e => exact hx pins σ H s e s' I hq
  | ok fl =>
    cases fl with
    | ret u => exact I.after hq
    | next => exact hq.elim
    | brk => exact hq.elim
    | cont => exact hq.elim

theorem pe_callG (F : FnG X.prog X.w X.K X.mg X.base CX k f fd ps sp) (gd : X.A.guards = some []) (hr : Room k X.A) (hg : Gl X x)
    (hm : X.mg x = some (.ref f)) (hk : PySem.W.keepIn X.K (.ref f) = true) (hb : Binds X.K fd ps []) (hx : Passes CX X E)
    (ha : PA X (e :: es) t) (hdb : (x == ("__debug__" : Str)) = false := by decide)
    (he : starEach (e :: es) X.env = (false, eval e X.env) :: starEach es X.env := by rfl)
    (hpl : (backTo pos (starEach es X.env)).any (·.1) = false := by rfl) :
    PE X (.Call (.Name x p) (e :: es) [] pos) (fun σ H Q => t σ H fun vs H1 => sp vs H1 Q E) := by
  constructor
  intro pins s σ H Q I h
  refine wpAny_Call_Name_kw (ld_glob I hg hm ?_ hdb)
  refine PySem.W.callWith_K (h₀ := X.base) I.ok.mod.kin hk (thn (ha.run pos pins s σ H _ I h) ?_) he hpl
  rintro us s1 ⟨vs, H1, I1, r, z⟩
  exact ⟨I1.kIn, runG F gd hr hb hx I1 r z⟩
end

/-- repr of data of any depth, where no repr is under way -/
def rRepr (K : PySem.W.Frag) : List V → Hp → VK → Prop := fun xs H Q =>
  ∃ x d, xs = [x] ∧ Dp K H x d ∧ d.showable = true ∧ d.hasDict = false ∧ d.depth ≤ 60 ∧ d.shown.length ≤ sizeLine ∧ Q (.str d.shown) H
theorem call_reprD {X : Cx} (gd : X.A.guards = some []) (hu : X.A.units + 64 < cLine) : CallR X (.builtin "repr") (rRepr X.K) := by
  intro pins s σ H xs us Q I r h
  obtain ⟨x, d, rfl, hd, hs, hn, hp, hz, q⟩ := h
  obtain ⟨u, rfl, ru⟩ := vals1 r
  obtain ⟨as, rd⟩ := Dp.reads I d x u hd ru
  cases hd with
  | non => cases ru; exact PySem.P.repr_of_none ⟨.str _, H, I.tok _, ⟨_, rfl⟩, q⟩
  | bl b => cases ru; exact PySem.P.repr_of_bool ⟨.str _, H, I.tok _, ⟨_, rfl⟩, q⟩
  | int i =>
    obtain ⟨t, rfl⟩ := ru
    exact PySem.P.repr_of_int (by simpa [PyData.showable] using hs) ⟨.str _, H, I.tok _, ⟨_, rfl⟩, q⟩
  | str z =>
    obtain ⟨t, rfl⟩ := ru
    exact PySem.P.repr_of_str ⟨.str _, H, I.tok _, ⟨_, rfl⟩, q⟩ hz
  | lst a b =>
    cases ru
    exact repr_of_reads' rd hs (PyData.noDict_hsm hn) gd (by omega) (fun _ _ e => e)
      (fun h' u tk hk => ⟨.str _, H, I.kept (t' := tk) hk, ⟨_, rfl⟩, q⟩) hz
  | tup a b =>
    cases ru
    exact repr_of_reads' rd hs (PyData.noDict_hsm hn) gd (by omega) (fun _ _ e => e)
      (fun h' u tk hk => ⟨.str _, H, I.kept (t' := tk) hk, ⟨_, rfl⟩, q⟩) hz
end LF

set_option Elab.async false
set_option linter.all false
set_option maxRecDepth 100000
set_option maxHeartbeats 4000000
namespace LF
open PySem PySem.Spec PyProof.Rows L2
open PySem.W (EachIs dataLe AllAlike Sortable KeepsBut KeyedOut)

theorem sqL_same {K : PySem.W.Frag} {H H' : Hp} {a : Addr} {xs : List V} (e : Same H H') (h : SqL K H a xs) : SqL K H' a xs := e.seq h
theorem sqT_same {K : PySem.W.Frag} {H H' : Hp} {a : Addr} {xs : List V} (e : Same H H') (h : SqT K H a xs) : SqT K H' a xs := by
  rcases h with (h | ⟨o, h⟩) | h
  · exact Or.inl (Or.inl (e _ _ h))
  · exact Or.inl (Or.inr ⟨o, e _ _ h⟩)
  · exact Or.inr h
mutual
theorem dp_same {K : PySem.W.Frag} {H H' : Hp} (e : Same H H') : ∀ (d : PyData) (v : V), Dp K H v d → Dp K H' v d
  | .none, _, h => by cases h; exact .non
  | .bool b, _, h => by cases h; exact .bl b
  | .int i, _, h => by cases h; exact .int i
  | .str x, _, h => by cases h; exact .str x
  | .list ds, _, h => by cases h with | lst a b => exact .lst (sqL_same e a) (dpAll_same e ds _ b)
  | .tuple ds, _, h => by cases h with | tup a b => exact .tup (sqT_same e a) (dpAll_same e ds _ b)
  | .dict _, _, h => by cases h
theorem dpAll_same {K : PySem.W.Frag} {H H' : Hp} (e : Same H H') : ∀ (ds : List PyData) (vs : List V), DpAll K H vs ds → DpAll K H' vs ds
  | [], _, h => by cases h; exact .nil
  | d :: ds, _, h => by cases h with | cons a b => exact .cons (dp_same e d _ a) (dpAll_same e ds _ b)
end

/-- sorted(xs, key=f), xs texts, f a def that hands back data and leaves what is tracked -/
def rSortF (K : PySem.W.Frag) (f : Addr) (kd : Str → PyData) (sp : Sp) : List V → List V → Hp → VK → Prop := fun xs zs H Q =>
  ∃ (a : Addr) (ws : List Str), xs = [.ref a] ∧ zs = [.ref f] ∧ SqL K H a (ws.map V.str) ∧ AllAlike (ws.map kd) ∧ Sortable (ws.map kd) ∧
    (∀ d ∈ ws.map kd, d.depth ≤ 60) ∧
    (∀ x ∈ ws, ∀ H1, Same H H1 → ∀ Q1 : VK, (∀ v H2, Same H1 H2 → Dp K H2 v (kd x) → Q1 v H2) → sp [.str x] H1 Q1 E0) ∧
    ∀ H1 p, Same H H1 → H1 p = none → Q (.ref p) (upd H1 p (.lst ((ws.mergeSort (dataLe false kd)).map V.str)))

theorem each_vals_str : ∀ {ws : List Str} {us : List Value}, Vals (ws.map V.str) us → EachIs (fun (v : Value) (x : Str) => ∃ t, v = Value.str x t) us ws
  | [], _, h => by cases h; exact .nil
  | x :: ws, _, h => by cases h with | cons a b => exact .cons a (each_vals_str b)
theorem vals_each_str : ∀ {ws : List Str} {us : List Value}, EachIs (fun (v : Value) (x : Str) => ∃ t, v = Value.str x t) us ws → Vals (ws.map V.str) us
  | [], _, h => by cases h; exact .nil
  | x :: ws, _, h => by cases h with | cons a b => exact .cons a (vals_each_str b)
theorem each_get {α β : Type} {R : α → β → Prop} : ∀ {as : List α} {bs : List β} {i : Nat} {x : α}, EachIs R as bs → as[i]? = some x → ∃ y, bs[i]? = some y ∧ R x y
  | _, _, 0, x, .cons h _, e => by simp at e; subst e; exact ⟨_, rfl, h⟩
  | _, _, i + 1, x, .cons _ t, e => by simpa using each_get (i := i) t (by simpa using e)
theorem each_reads {X : Cx} {pins : List (Addr × Obj)} {σ : L2.St} {H : Hp} {s : Shared} {kd : Str → PyData} (I : Inv X pins σ H s) :
    ∀ {us : List Value} {ws : List Str}, EachIs (fun v x => ∃ y, RelV y v ∧ Dp X.K H y (kd x)) us ws →
      EachIs (fun v k => ∃ as, Reads s.heap v k as) us (ws.map kd)
  | _, _, .nil => .nil
  | _, _, .cons ⟨y, r, d⟩ t => .cons (Dp.reads I _ _ _ d r) (each_reads I t)

section
variable {X : Cx} {kf : Nat} {f : Addr} {fd : FuncData} {px : Str} {sp : Sp} {kd : Str → PyData}

theorem pin_new {pins : List (Addr × Obj)} {σ : L2.St} {H : Hp} {s : Shared} (I : Inv X pins σ H s) {b : Addr} (hb : s.heap.objs.size ≤ b) :
    H b = none ∧ b ≠ X.env.locals ∧ b ∉ X.fs ∧ (∀ x c, X.env.cells.lookup x = some c → c ≠ b) ∧ ∀ p ∈ X.pn ++ pins, p.1 ≠ b := by
  refine ⟨I.hok.fresh hb, ?_, I.nofs hb, ?_, ?_⟩
  · exact Ne.symm (Nat.ne_of_lt (Nat.lt_of_lt_of_le I.lt hb))
  · intro x c hc
    obtain ⟨v, o, ho, _⟩ := I.cell x c hc
    exact Nat.ne_of_lt (Nat.lt_of_lt_of_le (Heap.lt_size ho) hb)
  · intro p hp
    exact Nat.ne_of_lt (Nat.lt_of_lt_of_le (Heap.lt_size (I.pin p hp).1) hb)

theorem call_sortedF (F : FnOk X.prog X.w X.K X.mg X.base CX0 kf f fd [px] sp) (hr : Room (kf + 2) X.A) (hb : Binds X.K fd [px] []) :
    CallRK X (.builtin "sorted") [Str.ofString "key"] (rSortF X.K f kd sp) := by
  intro pins s σ H xs zs us vz Q I r rz h
  obtain ⟨a, ws, rfl, rfl, hs, hal, hsk, hdep, hkey, hq⟩ := h
  obtain ⟨its, rv, hl, hz⟩ := I.list hs
  rw [Vals.ref1 r]
  rw [Vals.ref1 rz]
  have hwl : ws.length = its.length := by rw [← rv.length, List.length_map]
  have hZ : its.length ≤ sizeLine := by rw [← rv.length]; exact hz
  have hE := each_vals_str rv
  show wpAny _ _ (call (.builtin "sorted") [.ref a] [(Str.ofString "key", .ref f)]) _ _ _
  refine PySem.W.sorted_of_sort (vs := its) hl.isList hZ (ksk_s1 _ _) (fun x => ksk_l1 _ _) ?_
  intro E'
  rw [ksk_t1]
  obtain ⟨hp, g, dr, tk, os⟩ := s
  -- the copy, at D
  generalize hD : hp.objs.size + 1 = D
  have hcp : (PySem.W.copyHeap hp its).get? D = some (seqObj "list" its.toArray 0) := by rw [← hD]; exact PySem.W.copyHeap_at hp its
  have hold : ∀ b o, hp.get? b = some o → (PySem.W.copyHeap hp its).get? b = some o := fun b o e => PySem.W.copyHeap_old e
  have hDsz : D < (PySem.W.copyHeap hp its).objs.size := Heap.lt_size hcp
  have hDnew : hp.objs.size ≤ D := by omega
  obtain ⟨e1, he1⟩ : ∃ e1, ((PySem.W.copyHeap hp its).update D (Obj.mapSeq fun _ => (#[] : Array Value))).get? D = some (seqObj "list" #[] e1) := ⟨_, get?_update_seq hcp fun _ => #[]⟩
  have hS1 : ((PySem.W.copyHeap hp its).update D (Obj.mapSeq fun _ => (#[] : Array Value))).objs.size = (PySem.W.copyHeap hp its).objs.size := by rw [Heap.size_update]
  unfold ksk_tree
  refine wpAny_bind (listItems_at hcp rfl ?_)
  refine wpAny_bind (listUpdate_at hcp rfl ?_ (by rw [List.size_toArray]; exact hZ) (Nat.zero_le _))
  refine wpAny_bind (seqEpoch_at he1 rfl ?_)
  refine wpAny_bind (wpAny_newTuple ?_ (by show its.length ≤ _; exact hZ))
  refine wpAny_bind (wpAny_newList ?_ (Nat.zero_le _))
  refine wpAny_holding ?_
  generalize hT : (((PySem.W.copyHeap hp its).update D (Obj.mapSeq fun _ => (#[] : Array Value))).push ({ cls := .type "tuple", data := .seq its.toArray } : Obj)) = h1
  have hkS : h1.objs.size = (PySem.W.copyHeap hp its).objs.size + 1 := by rw [← hT, size_push', hS1]
  generalize hkk : h1.objs.size = kS
  have hDk : kS ≠ D := by omega
  have hkSnew : hp.objs.size ≤ kS := by omega
  have k1 : ∀ b o, b ≠ D → (PySem.W.copyHeap hp its).get? b = some o → h1.get? b = some o := fun b o hb e => by
    rw [← hT]
    exact Heap.get?_push_of_some _ ((Heap.get?_update_ne _ _ _ _ hb).trans e)
  have k2 : ∀ b o, hp.get? b = some o → (h1.push (seqObj "list" #[] 0)).get? b = some o := fun b o e =>
    Heap.get?_push_of_some _ (k1 b o (Nat.ne_of_lt (Nat.lt_of_lt_of_le (Heap.lt_size e) hDnew)) (hold b o e))
  have g1 : (h1.push (seqObj "list" #[] 0)).get? D = some (seqObj "list" #[] e1) := Heap.get?_push_of_some _ (by rw [← hT]; exact Heap.get?_push_of_some _ he1)
  have g2 : (h1.push (seqObj "list" #[] 0)).get? kS = some (seqObj "list" #[] 0) := by rw [← hkk]; exact Heap.get?_push_size _ rfl
  have nD := pin_new I (b := D) hDnew
  have nK := pin_new I (b := kS) hkSnew
  have I2 : Inv X pins σ H ⟨h1.push (seqObj "list" #[] 0), g, dr, tk, os⟩ := I.kept (t' := tk) k2
  have seqne : ∀ (c : String) (xs : Array Value) (n : Nat) (v : Option Value), (seqObj c xs n).data ≠ .cell v := fun c xs n v z => by cases z
  have I3 : Inv X ((kS, seqObj "list" #[] 0) :: (D, seqObj "list" #[] e1) :: pins) σ H ⟨h1.push (seqObj "list" #[] 0), g, dr, tk, os⟩ := I2.pins_of (by
    intro p hp'
    rcases List.mem_cons.mp hp' with rfl | hp'
    · exact ⟨g2, nK.1, nK.2.1, nK.2.2.1, seqne _ _ _⟩
    rcases List.mem_cons.mp hp' with rfl | hp'
    · exact ⟨g1, nD.1, nD.2.1, nD.2.2.1, seqne _ _ _⟩
    · exact I2.pin p (List.mem_append_right _ hp'))
  show wpAny _ _ (ksk_rest D (.ref f) false its.toArray e1 (.ref kS)) _ _ ⟨h1.push (seqObj "list" #[] 0), g, dr, tk, os⟩
  unfold ksk_rest
  refine wpAny_bind (wpAny_rule ?_)
  rw [List.forIn_toArray]
  refine wpAny_bind (ksk_fold (fun i s' => ∃ kA e H', Same H H' ∧ Inv X ((kS, seqObj "list" kA e) :: (D, seqObj "list" #[] e1) :: pins) σ H' s' ∧
      EachIs (fun v x => ∃ y, RelV y v ∧ Dp X.K H' y (kd x)) kA.toList (ws.take i)) its 0 _
    ⟨#[], 0, H, Same.refl H, I3, by rw [List.take_zero]; exact .nil⟩ ?step ?done)
  case step =>
    rintro j u s' hu ⟨kA, e, H', sm, J, hk⟩
    simp only [Nat.zero_add] at hk ⊢
    obtain ⟨x, hx, t, rfl⟩ := each_get hE hu
    have hxm : x ∈ ws := List.mem_of_getElem? hx
    have hj : j < ws.length := (List.getElem?_eq_some_iff.mp hx).1
    have hklen : kA.size ≤ ws.length := by
      have := hk.length
      rw [Array.length_toList, List.length_take] at this
      omega
    have hsp := hkey x hxm H' sm (fun v H2 => Same H' H2 ∧ Dp X.K H2 v (kd x)) (fun v H2 s2 d2 => ⟨s2, d2⟩)
    have hb' := hb s' [.str x t] J.kIn rfl
    rw [List.append_nil] at hb'
    have run := F.run X.A.in1.in1 X.stack s' H' ⟨[.str x t], []⟩ [.str x t] [.str x] _ E0 (hr.in1.in1) (J.env0.in1.in1) hb' (.cons ⟨t, rfl⟩ .nil) hsp
    have call1 : wpAny (model X.prog X.w) X.A.in1.in1 (call (.ref f) [.str x t]) (CE X.stack X.prog X.w H' s' (fun v H2 => Same H' H2 ∧ Dp X.K H2 v (kd x))) (fun _ _ => False) s' := by
      refine wpAny_call (codeAny_mono run ?_)
      intro rr s2 hq2
      cases rr with
      | error e => exact hq2
      | ok fl =>
        cases fl with
        | ret u => exact hq2
        | next => exact hq2
        | brk => exact hq2
        | cont => exact hq2
    refine wpAny_bind (wpAny_attempt (wpAny_mono call1 ?_ (fun _ _ z => z.elim)))
    intro u s2 hu2
    obtain ⟨y, H2, J2, ry, sm2, dp2⟩ := J.after hu2
    obtain ⟨pk, pnK, pLK, pfK, _⟩ := J2.pin (kS, seqObj "list" kA e) (List.mem_append_right _ List.mem_cons_self)
    obtain ⟨pd, pnD, pLD, pfD, _⟩ := J2.pin (D, seqObj "list" #[] e1) (List.mem_append_right _ (List.mem_cons_of_mem _ List.mem_cons_self))
    have J3 : Inv X ((D, seqObj "list" #[] e1) :: pins) σ H2 s2 := J2.pins_of (by
      intro p hp'
      exact J2.pin p (List.mem_append_right _ (List.mem_cons_of_mem _ hp')))
    obtain ⟨hp2, g2', dr2, tk2, os2⟩ := s2
    refine wpAny_bind (listUpdate_at pk rfl ?_ (Nat.le_trans hklen (by rw [hwl]; exact hZ)) (by rw [Array.size_push]; exact Nat.succ_le_succ (Nat.le_trans hklen (by rw [hwl]; exact hZ))))
    have sb := Heap.SameBut.update hp2 kS (Obj.mapSeq (·.push u))
    obtain ⟨c2, hc2⟩ : ∃ c2, (hp2.update kS (Obj.mapSeq (·.push u))).get? kS = some (seqObj "list" (kA.push u) c2) := ⟨_, get?_update_seq pk (·.push u)⟩
    have pne : ∀ p ∈ X.pn ++ ((D, seqObj "list" #[] e1) :: pins), p.1 ≠ kS := by
      intro p hp'
      rcases List.mem_append.mp hp' with q | q
      · exact nK.2.2.2.2 p (List.mem_append_left _ q)
      rcases List.mem_cons.mp q with rfl | q
      · exact Ne.symm hDk
      · exact nK.2.2.2.2 p (List.mem_append_right _ q)
    have s0k : X.s_0.heap.objs.size ≤ kS := Nat.le_trans I.sz hkSnew
    have J4 := J3.turned (t' := tk2) (it := kS) (h' := hp2.update kS (Obj.mapSeq (·.push u))) (fun b o hb e => (sb.2 b hb).trans e) pnK pLK (Or.inr s0k) nK.2.2.2.1 pne
    have J5 : Inv X ((kS, seqObj "list" (kA.push u) c2) :: (D, seqObj "list" #[] e1) :: pins) σ H2 ⟨hp2.update kS (Obj.mapSeq (·.push u)), g2', dr2, tk2, os2⟩ := J4.pins_of (by
      intro p hp'
      rcases List.mem_cons.mp hp' with rfl | hp'
      · exact ⟨hc2, pnK, pLK, pfK, seqne _ _ _⟩
      · exact J4.pin p (List.mem_append_right _ hp'))
    refine wpAny_pure ⟨rfl, kA.push u, c2, H2, sm.trans sm2, J5, ?_⟩
    have ek : ws.take (j + 1) = ws.take j ++ [x] := by rw [List.take_add_one, hx]; rfl
    rw [ek, Array.toList_push]
    exact PySem.W.each_snoc ⟨y, ry, dp2⟩ (hk.mono fun v z ⟨y', r', d'⟩ => ⟨y', r', dp_same sm2 _ _ d'⟩)
  case done =>
    rintro s' ⟨kA, e, H', sm, J, hk⟩
    rw [List.take_of_length_le (by omega)] at hk
    obtain ⟨pk, pnK, pLK, pfK, _⟩ := J.pin (kS, seqObj "list" kA e) (List.mem_append_right _ List.mem_cons_self)
    obtain ⟨pd, pnD, pLD, pfD, _⟩ := J.pin (D, seqObj "list" #[] e1) (List.mem_append_right _ (List.mem_cons_of_mem _ List.mem_cons_self))
    have J1 : Inv X pins σ H' s' := J.pins_of (by
      intro p hp'
      exact J.pin p (List.mem_append_right _ (List.mem_cons_of_mem _ (List.mem_cons_of_mem _ hp'))))
    have hr' := each_reads J hk
    have hksz : kA.size = its.length := by
      have := hk.length
      rw [Array.length_toList] at this
      omega
    refine wpAny_bind (listItems_at pk rfl ?_)
    have kb : KeepsBut D (PySem.W.hideAll s'.heap [kS]) s'.heap := fun b o hb e => PySem.W.of_hideAll [kS] e
    have hu : ∀ d ∈ ws.map kd, X.A.in1.in1.units + d.depth < cLine := by
      intro d hd
      have h1 := hdep d hd
      have h2 := hr.un
      show X.A.units + 1 + 1 + d.depth < cLine
      omega
    refine PySem.W.keyH_end (κ := PySem.W.dataKind s'.heap (ws.map kd)) kb (PySem.W.hideAll_none [kS] List.mem_cons_self) pk pd hDk (PySem.W.SortsAt.data (s := s') hr' hal hsk hu) hksz hZ ?_
    intro h' tk' c kp hD'
    refine ⟨rfl, ?_⟩
    have hout : EachIs (fun (v : Value) (x : Str) => ∃ t, v = Value.str x t) (PySem.W.sortVals (PySem.W.dataKind s'.heap (ws.map kd)) false kA.toList its) (ws.mergeSort (dataLe false kd)) :=
      PySem.W.keyedOut_each (rev := false) kd ⟨s'.heap, kA.toList, hal, rfl, hr'⟩ hE
    have hv := vals_each_str hout
    have keep : ∀ b o, b ≠ D → b ≠ kS → s'.heap.get? b = some o → h'.get? b = some o := fun b o n1 n2 e =>
      kp b o n1 (PySem.W.hideAll_get [kS] e (by simpa using n2))
    have hn : H' D = none := pnD
    have hlen : ((ws.mergeSort (dataLe false kd)).map V.str).length ≤ sizeLine := by
      rw [List.length_map, List.length_mergeSort, hwl]; exact hZ
    refine ⟨.ref D, upd H' D (.lst ((ws.mergeSort (dataLe false kd)).map V.str)), ?_, rfl, hq H' D sm hn⟩
    have hne : ∀ b u, H' b = some u → b ≠ D ∧ b ≠ kS := fun b u q => ⟨ne_of_none q hn, ne_of_none q pnK⟩
    refine J1.step (ch := [D, kS]) (g' := s'.gens) (d' := s'.drawn) (t' := tk') ?_ ?_ ?_ ?_ ?_ ?_ ?_ ?_ ?_ ?_ J1.bare
    · intro b hb
      rcases List.mem_cons.mp hb with rfl | hb
      · exact ⟨Or.inr (Nat.le_trans I.sz hDnew), pLD, nD.2.2.2.1, nD.2.2.2.2⟩
      · rw [List.mem_singleton.mp hb]
        exact ⟨Or.inr (Nat.le_trans I.sz hkSnew), pLK, nK.2.2.2.1, nK.2.2.2.2⟩
    · intro b o _ _ hc e _
      exact keep b o (fun z => hc (by simp [z])) (fun z => hc (by simp [z])) e
    · intro b o _ _ hc e _
      exact ⟨o.slots, keep b o (fun z => hc (by simp [z])) (fun z => hc (by simp [z])) e⟩
    · intro b o hc e n
      rw [upd_ne (fun z => hc (by simp [z]))]
      exact n
    · intro b o hc e
      exact ⟨o, keep b o (fun z => hc (by simp [z])) (fun z => hc (by simp [z])) e⟩
    · intro b xs e
      rw [upd_ne (hne b _ e).1]; exact e
    · intro b o u e
      rw [upd_ne (hne b _ e).1]; exact e
    · intro b ps e
      exact ⟨#[], by rw [upd_ne (hne b _ e).1, e]; simp⟩
    · rintro m ⟨o, es, ep, ho, rest⟩
      exact ⟨o, es, ep, keep _ o (Ne.symm pLD) (Ne.symm pLK) ho, rest⟩
    · intro b u e
      by_cases hb : b = D
      · subst hb
        rw [upd_same] at e
        cases e
        exact ⟨hlen, _, c, hv, hD'⟩
      · rw [upd_ne hb] at e
        refine (J1.hok b u e).stay (fun z w' hz q => keep z w' ?_ ?_ q) (fun z q => ?_) (fun z xs q => ?_)
        · rcases hz with rfl | hz
          · exact hb
          · exact (hne z _ hz).1
        · rcases hz with rfl | hz
          · exact (hne z _ e).2
          · exact (hne z _ hz).2
        · rw [upd_ne (hne z _ q).1]; exact q
        · rw [upd_ne (hne z _ q).1]; exact q
end
end LF

set_option Elab.async false
set_option linter.all false
set_option maxRecDepth 100000
set_option maxHeartbeats 4000000
namespace LF
open PySem PySem.Spec PySem.Calls PyProof.Rows
open PySem.W (Looks InstAt findIn specialIn takesIn subIn mroIn hasDictIn clsIn findObj looks_findIn looks_find looks_subIn any_some)

section
variable {prog : Program} {w : World} {A : Around} {E : Value → Shared → Prop} {s : Shared} {K : PySem.W.Frag} {x D : Addr} {ox : Obj} {od : Option Obj}

/-- an error's class asked of the error itself, whether it has a dict or none -/
theorem errClass (C : L2.ExcC K D) {Q : Option Value → Shared → Prop} (X : K.In s.heap) (I : InstAt s.heap x ox D od)
    (h : Q (some (.ref D)) { s with toks := s.toks + 1 }) : wpAny (model prog w) A (getAttr? (.ref x) "__class__") Q E s := by
  have hf : findObj K D od "__class__" = some (.bind (.builtin "getset_descriptor.__get__") (.builtin "object.__class__")) := by
    obtain ⟨cd, e, _⟩ := any_some C.hd
    simp only [findObj, e, C.ha, C.hn, C.ht, Option.bind_some]
  obtain ⟨hh, gg, dd, tt, oo⟩ := s
  have lt := I.type (M := model prog w)
  have lg := looks_findIn (M := model prog w) X C.hg
  have lk := looks_findIn (M := model prog w) X C.hk
  have lf := looks_find (M := model prog w) X I hf
  have ls : Looks (model prog w) hh (isInstance (.ref x) (.type "BaseException")) true := lt.andThen (looks_subIn X C.hs)
  have z0 : (Value.builtin "BaseException.__getattribute__" == Value.builtin "object.__getattribute__") = false := by decide +kernel
  have z1 : (onTheHeap (Value.ref D) && Value.builtin "BaseException.__getattribute__" == Value.builtin "object.__getattribute__") = false := by
    rw [z0]; rfl
  have z2 : (false && onTheHeap (Value.builtin "BaseException.__getattribute__")) = false := rfl
  unfold getAttr? getAttrBy? getAttrBy
  refine wpAny_bind (wpAny_mkText (wpAny_bind (wpAny_attempt (wpAny_holding (wpAny_bind (lt.at (wpAny_bind (lg.at ?_))))))))
  show wpAny _ _ (if (onTheHeap (Value.ref D) && Value.builtin "BaseException.__getattribute__" == Value.builtin "object.__getattribute__") = true
    then _ else _) _ _ _
  rw [z1, if_neg Bool.false_ne_true]
  unfold getAttrByItsOwn hookBefore
  apply wpAny_bind
  rw [if_pos (show onTheHeap (Value.ref D) = true from rfl)]
  apply lk.at
  refine wpAny_bind (wpAny_attempt (wpAny_holding ?_))
  unfold callGetattribute
  rw [z2, if_neg Bool.false_ne_true]
  unfold boundAndCalled
  rw [PySem.F.excAttr_ValueError.ga.bind (.ref x)]
  apply wpAny_bind
  apply wpAny_pure
  show wpAny _ _ (call (.builtin "BaseException.__getattribute__") [.ref x, .str "__class__" tt]) _ _ _
  refine wpAny_call (codeAny_call_builtin PySem.F.excAttr_ValueError.ga.plain PySem.F.entry_bexc_ga ?_)
  refine @PySem.W.check_slot (model prog w) _ _ ⟨hh, gg, dd, tt + 1, oo⟩ "BaseException.__getattribute__" "BaseException" "__getattribute__"
    (.ref x) [.str "__class__" tt] [] _ (by decide +kernel) (by decide +kernel) ls (PySem.F.args_bexc_ga (.ref x) (.str "__class__" tt)) ?_
  unfold Builtin.«object.__getattribute__»
  refine wpAny_bind (wpAny_of_eq (a := ((Value.ref x : Value), [Value.str "__class__" tt])) (by
    first
      | rfl
      | (simp only [slotArgs]; rfl)) ?_)
  refine wpAny_bind (wpAny_pure (wpAny_bind (lt.at (wpAny_bind (lf.at ?_)))))
  show wpAny _ _ (holding [Value.builtin "object.__class__"]
    (call (.builtin "getset_descriptor.__get__") [.builtin "object.__class__", .ref x, .ref D]) >>= ret) _ _ _
  refine wpAny_bind (wpAny_holding (wpAny_call (PySem.W.class_get (s := ⟨hh, gg, dd, tt + 1, oo⟩) X I C.hm ?_)))
  apply wpAny_pure
  show wpAny _ _ (handedOut (.ref D)) _ _ _
  rw [PySem.W.handedOut_of (v := .ref D) rfl]
  first
    | exact wpAny_pure (wpAny_pure h)
    | exact wpAny_pure h
    | exact wpAny_pure (wpAny_bind (wpAny_pure (wpAny_pure h)))

theorem errKit (C : L2.ExcC K D) : PySem.W.KitX K (.ref x) (.ref D) (fun h => ∃ ox od, InstAt h x ox D od) := by
  have cls : ∃ c d cd sl, K.lookup D = some ⟨c, d, .cls cd, sl⟩ := by
    obtain ⟨cd, e, _⟩ := any_some C.hd
    unfold clsIn at e
    split at e
    · rename_i c d cd' sl e'
      exact ⟨c, d, cd', sl, e'⟩
    · exact nomatch e
  obtain ⟨c, d, cd, sl, hl⟩ := cls
  refine ⟨fun M h X q => ?_, fun M h X q => ?_, fun h tp ddd its n sl' X ht => ?_, fun X q k => ?_⟩
  · obtain ⟨_, _, I⟩ := q
    exact I.type
  · intro A' Q' E' s' k q'
    unfold isType loadHead
    exact wpAny_bind (wpAny_loadPart (k _ _ (X _ _ hl)) (wpAny_pure q'))
  · cases hq : (Value.ref D == .ref tp) with
    | false => rfl
    | true =>
      have e : D = tp := Value.ref.inj (beq_iff_eq.mp hq)
      subst e
      exact nomatch (X _ _ hl).symm.trans ht
  · obtain ⟨_, _, I⟩ := q
    exact errClass C X I k
end
end LF

namespace LF
open PySem PySem.Spec PyProof.Rows L2
/-- isinstance(e, c) and isinstance(e, (c, ..)) of the error that the suite holds, with its own dict -/
def rIsErr (K : PySem.W.Frag) (D a : Addr) : List V → Hp → VK → Prop := fun xs H Q =>
  (∃ (c : V) (cv : Value) (b : Bool), xs = [.ref a, c] ∧ (∀ u, RelV c u → u = cv) ∧ PySem.W.kitOne K (.ref D) cv = some b ∧ Q (.bl b) H) ∨
  (∃ (tp : Addr) (cs : List V) (us : List Value) (b : Bool), xs = [.ref a, .ref tp] ∧ H tp = some (.tup cs) ∧ Paired ClsV cs us ∧
    PySem.W.kitAny K (.ref D) us = some b ∧ Q (.bl b) H)

theorem call_isErr {X : Cx} {a D : Addr} {oe : Obj} {cls : Value} {d : Option Addr} {pn : List (Addr × Obj)} (C : ExcC X.K D) (hz : Zc cls d oe)
    (hf : ∃ vs, oe.data = .fields vs) :
    CallR (X.suite a ((a, oe) :: pn)) (.builtin "isinstance")
      (fun xs H Q => cls = .ref D ∧ (∀ e, d = some e → ∃ fs, H e = some (.xd fs)) ∧ rIsErr X.K D a xs H Q) := by
  intro pins s σ H xs us Q I r h
  obtain ⟨ec0, hde, h⟩ := h
  subst ec0
  obtain ⟨hget, _⟩ := I.pin (a, oe) (List.mem_append.mpr (.inl List.mem_cons_self))
  obtain ⟨vs, hv⟩ := hf
  have J : ∃ ox od, PySem.W.InstAt s.heap a ox D od := by
    obtain ⟨oc, odd, oda, osl⟩ := oe
    obtain ⟨h1, h2⟩ := hz
    dsimp only at h1 h2 hv
    subst h1 h2 hv
    cases odd with
    | none => exact ⟨_, none, hget, rfl, rfl, trivial⟩
    | some e =>
      obtain ⟨fs, he⟩ := hde e rfl
      obtain ⟨mA, hns, _⟩ := (show ObjOk X.prog X.w H s.heap e (.xd fs) from I.hok e _ he)
      obtain ⟨od, ho, _⟩ := L2.lookIn_ns hns
      exact ⟨_, some od, hget, rfl, rfl, ho⟩
  rcases h with ⟨c, cv, b, rfl, hcv, e, q⟩ | ⟨tp, cs, ws, b, rfl, hT, k, e, q⟩
  · obtain ⟨u1, u2, rfl, r1, r2⟩ := vals2 r
    cases (show u1 = Value.ref a from r1)
    have ec := hcv _ r2
    subst ec
    exact PySem.W.kia_one (errKit C) I.kIn J e (fun z => nomatch z) fun tk => ⟨.bl b, H, I.tok tk, rfl, q⟩
  · obtain ⟨u1, u2, rfl, r1, r2⟩ := vals2 r
    cases (show u1 = Value.ref a from r1)
    cases (show u2 = Value.ref tp from r2)
    obtain ⟨_, its, rv, o, h1, h2, n, h3⟩ := (show ObjOk X.prog X.w H s.heap tp (.tup cs) from I.hok tp _ hT)
    have e3 := ClsV.all k rv
    subst e3
    obtain ⟨oc, od, dt, sl⟩ := o
    simp only at h2 h3
    subst h2 h3
    exact PySem.W.kia_tup (errKit C) I.kIn J h1 e (fun z => nomatch z) fun tk => ⟨.bl b, H, I.tok tk, rfl, q⟩
end LF

set_option Elab.async false
set_option linter.all false
set_option maxRecDepth 100000
set_option maxHeartbeats 4000000
namespace LF
open PySem PySem.Spec PyProof.Rows L2
def lettersN : Str := "abcdefghijklmnopqrstuvwxyz"
theorem low_code : ∀ c : Fin 128, (Unicode.isAlpha c.1 && !(Unicode.isUpper c.1 || Unicode.isTitle c.1)) = decide (c.1 ∈ lettersN.cps.toList) := by decide +kernel
theorem low_lower : ∀ c : Fin 128, c.1 ∈ lettersN.cps.toList → Unicode.isLower c.1 = true ∧ Unicode.isAlpha c.1 = true := by decide +kernel
theorem low_lt : ∀ c ∈ lettersN.cps.toList, c < 128 := by decide +kernel
theorem arr_all (a : Array Nat) (p : Nat → Bool) : a.all p = a.toList.all p := by rw [Array.all_toList]
theorem arr_any (a : Array Nat) (p : Nat → Bool) : a.any p = a.toList.any p := by rw [Array.any_toList]
/-- ASCII letters without capitals are a to z -/
theorem isLow {z : Str} (hz : 1 ≤ z.length) : (Txt.isascii z && (Txt.isalpha z && Txt.islower z)) = z.cps.toList.all fun c => decide (c ∈ lettersN.cps.toList) := by
  unfold Txt.isascii Txt.isalpha Txt.islower
  rw [arr_all, arr_all, arr_any, arr_any]
  have hl : z.cps.toList.length = z.length := by simp [Str.length]
  have hp : decide (z.length > 0) = true := decide_eq_true (by omega)
  rw [hp, Bool.true_and]
  generalize z.cps.toList = l at hl
  rw [Bool.eq_iff_iff]
  simp only [Bool.and_eq_true, List.all_eq_true, List.any_eq_true, Bool.not_eq_true', List.any_eq_false, decide_eq_true_eq, Bool.or_eq_true, not_or, Bool.not_eq_true]
  constructor
  · rintro ⟨h1, h2, ⟨_, _⟩, h4⟩ c hc
    have := low_code ⟨c, h1 c hc⟩
    simp only [h2 c hc, Bool.true_and] at this
    obtain ⟨h5, h6⟩ := h4 c hc
    rw [h5, h6] at this
    exact of_decide_eq_true this.symm
  · intro h
    have f := fun c hc => low_lower ⟨c, low_lt c (h c hc)⟩ (h c hc)
    refine ⟨fun c hc => low_lt c (h c hc), fun c hc => (f c hc).2, ?_, fun c hc => ?_⟩
    · cases l with
      | nil => simp at hl; omega
      | cons a l => exact ⟨a, List.mem_cons_self, (f a List.mem_cons_self).1⟩
    · have := low_code ⟨c, low_lt c (h c hc)⟩
      rw [(f c hc).2, Bool.true_and, decide_eq_true (h c hc)] at this
      simpa using this
/-- z.isascii() and its like -/
theorem pe_isascii {X : Cx} {o : Expr} {to : TE} {apos pos : Pos} (ho : PE X o to)
    (hbase : attributeBase o "isascii" X.env (eval o X.env) = eval o X.env := by rfl) (hline : (apos.endLine == pos.line) = true := by rfl) :
    PE X (.Call (.Attribute o "isascii" apos) [] [] pos) (tM0 (fun x xs H Q => ∃ a, x = .str a ∧ xs = [] ∧ True ∧ Q (.bl (Txt.isascii a)) H) to) :=
  pe_m0 F.slot_str_isascii F.type_str_isascii mt_isascii ho hbase hline
theorem pe_isalpha {X : Cx} {o : Expr} {to : TE} {apos pos : Pos} (ho : PE X o to)
    (hbase : attributeBase o "isalpha" X.env (eval o X.env) = eval o X.env := by rfl) (hline : (apos.endLine == pos.line) = true := by rfl) :
    PE X (.Call (.Attribute o "isalpha" apos) [] [] pos) (tM0 (fun x xs H Q => ∃ a, x = .str a ∧ xs = [] ∧ True ∧ Q (.bl (Txt.isalpha a)) H) to) :=
  pe_m0 F.slot_str_isalpha F.type_str_isalpha mt_isalpha ho hbase hline
theorem pe_islower {X : Cx} {o : Expr} {to : TE} {apos pos : Pos} (ho : PE X o to)
    (hbase : attributeBase o "islower" X.env (eval o X.env) = eval o X.env := by rfl) (hline : (apos.endLine == pos.line) = true := by rfl) :
    PE X (.Call (.Attribute o "islower" apos) [] [] pos) (tM0 (fun x xs H Q => ∃ a, x = .str a ∧ xs = [] ∧ True ∧ Q (.bl (Txt.islower a)) H) to) :=
  pe_m0 F.slot_str_islower F.type_str_islower mt_islower ho hbase hline
end LF

set_option Elab.async false
set_option linter.all false
set_option maxRecDepth 100000
set_option maxHeartbeats 4000000
namespace LF
open PySem PySem.Spec PyProof.Rows L2
/-- a def of the text: its promise, its place, how it is bound -/
structure DefAt (P : Program) (w : World) (K : PySem.W.Frag) (mg : Str → Option Value) (base : Heap) (x : Str) (k : Nat) (f : Addr) (fd : FuncData) (ps : List Str) (sp : Sp) : Prop where
  F : FnOk P w K mg base CX0 k f fd ps sp
  g : mg x = some (.ref f)
  kp : PySem.W.keepIn K (.ref f) = true
  b : Binds K fd ps []
theorem pe_callD {X : Cx} {x : Str} {k : Nat} {f : Addr} {fd : FuncData} {ps : List Str} {sp : Sp} {p pos : Pos} {e : Expr} {es : List Expr} {t : TA}
    (D : DefAt X.prog X.w X.K X.mg X.base x k f fd ps sp) (hr : Room k X.A) (ha : PA X (e :: es) t) (hg : Gl X x := by rfl)
    (hdb : (x == ("__debug__" : Str)) = false := by decide)
    (he : starEach (e :: es) X.env = (false, eval e X.env) :: starEach es X.env := by rfl) (hpl : (backTo pos (starEach es X.env)).any (·.1) = false := by rfl) :
    PE X (.Call (.Name x p) (e :: es) [] pos) (tCall sp [] E0 t) := pe_call D.F hr hg D.g D.kp D.b .nil pass0 ha hdb he hpl

/-- x.rpartition(sep) -/
theorem mt_rpartition {X : Cx} : MtR X "str.rpartition" (fun x xs H Q => ∃ a b, x = .str a ∧ xs = [.str b] ∧ (b.length == 0) = false ∧ a.length ≤ sizeLine ∧
    ∀ p, H p = none → Q (.ref p) (upd H p (.tup [.str (Txt.rpartition a b).1, .str (Txt.rpartition a b).2.1, .str (Txt.rpartition a b).2.2]))) := by
  rintro pins s σ H x xs v us Q I rx rs ⟨a, b, rfl, rfl, hb, hz, h⟩
  obtain ⟨t, rfl⟩ := rx
  obtain ⟨u, rfl, t2, rfl⟩ := vals1 rs
  refine call_meets F.slot_str_rpartition (typeIs_str _ _ _) F.entry_str_rpartition (F.args_str_rpartition_2 _ _) (meets_str_rpartition a b t t2 hb hz) ?_
  unfold Txt.rpartition at h
  revert h
  cases Builtin.Str.lastOccurrence a b 0 a.length with
  | none => exact fun h => laid_parts I h
  | some i => exact fun h => laid_parts I h
theorem pe_rpartition {X : Cx} {o e : Expr} {to te : TE} {apos pos : Pos} (ho : PE X o to) (he : PE X e te) (hs : starEach [e] X.env = [(false, eval e X.env)] := by rfl)
    (hbase : attributeBase o "rpartition" X.env (eval o X.env) = eval o X.env := by rfl) (hline : (apos.endLine == pos.line) = true := by rfl) :
    PE X (.Call (.Attribute o "rpartition" apos) [e] [] pos) (tM1 (fun x xs H Q => ∃ a b, x = .str a ∧ xs = [.str b] ∧ (b.length == 0) = false ∧ a.length ≤ sizeLine ∧
      ∀ p, H p = none → Q (.ref p) (upd H p (.tup [.str (Txt.rpartition a b).1, .str (Txt.rpartition a b).2.1, .str (Txt.rpartition a b).2.2]))) to te) :=
  pe_m1 F.slot_str_rpartition F.type_str_rpartition mt_rpartition ho he hs hbase hline
end LF
namespace LF
theorem ifD {p : Prop} [Decidable p] {A B : Prop} (h1 : p → A) (h2 : ¬ p → B) : if decide p = true then A else B := by
  by_cases h : p
  · rw [if_pos (decide_eq_true h)]; exact h1 h
  · rw [if_neg (by rw [decide_eq_false h]; exact Bool.false_ne_true)]; exact h2 h
theorem ifN {p : Prop} [Decidable p] {A B : Prop} (h1 : p → B) (h2 : ¬ p → A) : if (!decide p) = true then A else B := by
  by_cases h : p
  · rw [if_neg (by rw [decide_eq_true h]; exact Bool.false_ne_true)]; exact h1 h
  · rw [if_pos (by rw [decide_eq_false h]; rfl)]; exact h2 h
end LF

set_option Elab.async false
set_option linter.all false
set_option maxRecDepth 100000
set_option maxHeartbeats 4000000
namespace KD
open PySem PySem.Spec PyProof.Rows L2 LF
def topS (i : Nat) : Stmt := PySem.Challenge.pw_linkfarms_k41_layouts_refused.main.body.getD i (.Pass ⟨0, 0, 0, 0⟩)
def letters : Str := "abcdefghijklmnopqrstuvwxyz"
def isNm (z : Str) : Bool := decide (1 ≤ z.length ∧ z.length ≤ 8) && z.cps.toList.all fun c => decide (c ∈ letters.cps.toList)
/-- what the top has written, but the defs -/
structure Txt (K : PySem.W.Frag) (mg : Str → Option Value) (tk1 tk2 : Tok) : Prop where
  g_LONGEST_NAME : mg "LONGEST_NAME" = some (.int 8 tk2)
  n_isinstance : mg "isinstance" = none
  n_str : mg "str" = none
  n_len : mg "len" = none
  n_all : mg "all" = none
  n_any : mg "any" = none
  n_tuple : mg "tuple" = none
  n_list : mg "list" = none
  n_dict : mg "dict" = none
  n_sorted : mg "sorted" = none
  n_range : mg "range" = none
  n_zip : mg "zip" = none
  n_enumerate : mg "enumerate" = none
  n_set : mg "set" = none
  n_abs : mg "abs" = none
  n_int : mg "int" = none
  n_bool : mg "bool" = none
  n_repr : mg "repr" = none
  n_max : mg "max" = none
  n_min : mg "min" = none
  n_ValueError : mg "ValueError" = none

def notStr : List String := ["NoneType", "int", "bool", "list", "tuple", "dict"]
def spName (K : PySem.W.Frag) : Sp := fun vs H Q _ => ∃ x, vs = [x] ∧
  ((∃ z : Str, x = .str z ∧ z.length ≤ 1000000 ∧ ∀ H', Same H H' → Q (.bl (isNm z)) H') ∨
   (∃ t, TyX K H x t ∧ PySem.W.kitOne K t (.type "str") = some false ∧ ∀ H', Same H H' → Q (.bl false) H'))

abbrev s_is_name : Stmt := topS 5
abbrev N_is_name : List Str := ["thing"]
theorem sc_is_name : FnScope ["thing"] ["thing"] (defScope s_is_name) := ⟨rfl, rfl, rfl, by decide +kernel, rfl, by decide +kernel, by decide +kernel⟩

theorem kit_no {K : PySem.W.Frag} {t : String} (h : t ∈ notStr) : PySem.W.kitOne K (.type t) (.type "str") = some false := by
  simp only [notStr, List.mem_cons, List.not_mem_nil, or_false] at h
  rcases h with rfl | rfl | rfl | rfl | rfl | rfl <;> exact kit_ty (by decide +kernel)
theorem kit_str {K : PySem.W.Frag} : PySem.W.kitOne K (.type "str") (.type "str") = some true := kit_ty (by decide +kernel)
section
variable {P : Program} {w : World} {K : PySem.W.Frag} {mg : Str → Option Value} {base : Heap} {tk1 tk2 : Tok}
theorem ok_is_name {f : Addr} {fd : FuncData} (F : Fun K "is_name" "is_name" s_is_name f fd) (T : Txt K mg tk1 tk2) : FnOk P w K mg base CX0 1 f fd ["thing"] (spName K) := by
  refine F.ok sc_is_name (fun vs H Q E h => ?_) (fun cdv A outer s H vs Q E hr h => ?_)
  · obtain ⟨x, rfl, _⟩ := h
    rfl
  refine ⟨_, (pss_one (ps_ret (pe_and (pe_callB call_isi (by rfl) T.n_isinstance (by decide +kernel) (pa_cons (pv 0) (pa_cons (pe_bltn (v := .ty "str") (by rfl) T.n_str (by decide +kernel) rfl) pa_nil))) (pe_and (pe_chain op_le op_le pe_int (pe_callB call_len_str (by rfl) T.n_len (by decide +kernel) (pa_cons (pv 0) pa_nil)) (pe_glob (v := .int 8) rfl T.g_LONGEST_NAME ⟨_, rfl⟩)) (pe_and (pe_isascii (pv 0)) (pe_and (pe_isalpha (pv 0)) (pe_one (pe_islower (pv 0))))))))), ?_⟩
  obtain ⟨x, rfl, h⟩ := h
  rcases h with ⟨z, rfl, hz, hq⟩ | ⟨t, ht, ty, hq⟩
  · refine ⟨_, rfl, _, .ty "str", _, _, true, rfl, .ty _, .base (.str _), kit_str, ?_⟩
    refine ⟨_, rfl, iteT ?_⟩
    have hl : z.length ≤ sizeLine := Nat.le_trans hz (by decide)
    have q0 := hq H (Same.refl H)
    have fin : isNm z = (decide (1 ≤ z.length ∧ z.length ≤ 8) && (PySem.Txt.isascii z && (PySem.Txt.isalpha z && PySem.Txt.islower z))) := by
      unfold isNm
      by_cases h1 : 1 ≤ z.length
      · rw [isLow h1]; rfl
      · rw [decide_eq_false (by omega)]; rfl
    rw [fin] at q0
    refine ⟨_, rfl, z, rfl, hl, _, _, rfl, rfl, _, rfl, ?_⟩
    refine ifD (fun h1 => ?_) (fun h1 => ?_)
    · refine ⟨_, _, rfl, rfl, _, rfl, ?_⟩
      refine ifD (fun h2 => ?_) (fun h2 => ?_)
      · rw [decide_eq_true (show 1 ≤ z.length ∧ z.length ≤ 8 by omega), Bool.true_and] at q0
        refine ⟨_, rfl, ⟨_, rfl⟩, z, rfl, rfl, trivial, _, rfl, ?_⟩
        cases e1 : PySem.Txt.isascii z with
        | false => rw [e1] at q0; exact iteF q0
        | true =>
          rw [e1, Bool.true_and] at q0
          refine iteT ⟨_, rfl, ⟨_, rfl⟩, z, rfl, rfl, trivial, _, rfl, ?_⟩
          cases e2 : PySem.Txt.isalpha z with
          | false => rw [e2] at q0; exact iteF q0
          | true =>
            rw [e2, Bool.true_and] at q0
            exact iteT ⟨_, rfl, ⟨_, rfl⟩, z, rfl, rfl, trivial, q0⟩
      · rw [decide_eq_false (by omega), Bool.false_and] at q0
        exact q0
    · rw [decide_eq_false (by omega), Bool.false_and] at q0
      refine ⟨_, rfl, ?_⟩
      exact q0
  · have q0 := hq H (Same.refl H)
    refine ⟨_, rfl, _, .ty "str", _, _, false, rfl, .ty _, ht, ty, ?_⟩
    exact ⟨_, rfl, iteF q0⟩
end
end KD

set_option Elab.async false
set_option linter.all false
set_option maxRecDepth 100000
set_option maxHeartbeats 4000000
namespace LF
open PySem PySem.Spec PyProof.Rows L2
/-- all that was tracked but b is as it was -/
def Keep (b : Addr) (H H' : Hp) : Prop := ∀ a o, a ≠ b → H a = some o → H' a = some o
theorem Keep.refl (b : Addr) (H : Hp) : Keep b H H := fun _ _ _ e => e
theorem Keep.trans {b : Addr} {H H1 H2 : Hp} (x : Keep b H H1) (y : Keep b H1 H2) : Keep b H H2 := fun a o n e => y a o n (x a o n e)
theorem Same.keep {b : Addr} {H H' : Hp} (s : Same H H') : Keep b H H' := fun a o _ e => s a o e
theorem same_upd {H H' : Hp} {D : Addr} {o : HO} (hD : H D = none) (s : Same H H') : Same H (upd H' D o) := fun b u e => by
  rw [upd_ne (ne_of_none e hD)]; exact s b u e
theorem same_new {H : Hp} {D : Addr} {o : HO} (hD : H D = none) : Same H (upd H D o) := same_upd hD (Same.refl H)
theorem keep_upd {b : Addr} {H H' : Hp} {D : Addr} {o : HO} (hD : H D = none) (s : Keep b H H') : Keep b H (upd H' D o) := fun a u n e => by
  rw [upd_ne (ne_of_none e hD)]; exact s a u n e
theorem keep_put {b : Addr} {H H' : Hp} {o : HO} (s : Keep b H H') : Keep b H (upd H' b o) := fun a u n e => by
  rw [upd_ne n]; exact s a u n e
theorem Keep.free {b : Addr} {H H' : Hp} (s : Keep b H H') {D : Addr} (n : D ≠ b) (h : H' D = none) : H D = none := by
  cases q : H D with
  | none => rfl
  | some o => rw [s D o n q] at h; cases h
theorem keep_seq {b a : Addr} {H H' : Hp} {K : PySem.W.Frag} {xs : List V} (s : Keep b H H') (n : a ≠ b) (h : SqL K H a xs) : SqL K H' a xs := by
  rcases h with (h | ⟨o, h⟩) | h
  · exact Or.inl (Or.inl (s _ _ n h))
  · exact Or.inl (Or.inr ⟨o, s _ _ n h⟩)
  · exact Or.inr h

/-- the law's bag of draws -/
def BagAt (H : Hp) (b : Addr) : Prop := ∃ d x n : Int, H b = some (.lst [.int d, .int x, .int n]) ∧ 0 ≤ d ∧ 0 ≤ x ∧ x < 2147483647
theorem BagAt.keep {H H' : Hp} {b a : Addr} (h : BagAt H b) (s : Keep a H H') (n : b ≠ a) : BagAt H' b := by
  obtain ⟨d, x, m, e, r⟩ := h
  exact ⟨d, x, m, s _ _ n e, r⟩
theorem BagAt.same {H H' : Hp} {b : Addr} (h : BagAt H b) (s : Same H H') : BagAt H' b := by
  obtain ⟨d, x, m, e, r⟩ := h
  exact ⟨d, x, m, s _ _ e, r⟩
theorem BagAt.ne {H : Hp} {b D : Addr} (h : BagAt H b) (hD : H D = none) : D ≠ b := by
  obtain ⟨d, x, m, e, r⟩ := h
  exact Ne.symm (ne_of_none e hD)

section
variable {K : PySem.W.Frag} {a D b : Addr} {xs : List V} {tt : TT} {te : TE} {j : Nat} {σ : L2.St} {H : Hp} {Qd : Hp → Prop}
/-- a comprehension over a list, nothing tracked is changed: filter and map -/
theorem lc_filt (p : V → Bool) (f : V → V) (hD : H D = none) (hS : SqL K H a xs) (hlen : xs.length < sizeLine)
    (ht : ∀ x H1 (R : Bool → Hp → Prop), x ∈ xs → Same H H1 → (∀ H3, Same H1 H3 → R (p x) H3) → tt ((wipe σ [j]).set j (some x)) H1 R)
    (he : ∀ x H1 (R : V → Hp → Prop), x ∈ xs → p x = true → Same H H1 → (∀ H3, Same H1 H3 → R (f x) H3) → te ((wipe σ [j]).set j (some x)) H1 R)
    (hd : ∀ H', Same H H' → H' D = some (.lst ((xs.filter p).map f)) → Qd H') :
    ∃ W : Nat → Nat → Hp → Prop, (∃ m, W 0 m (upd H D (.lst []))) ∧ ∀ i m H, W i m H →
      ((Itl K a).stop i H ∧ Qd H) ∨ ((Itl K a).go i H ∧ ∃ Nx : Hp → Prop, (∀ H', Nx H' → ∃ m', m' < m ∧ W (i + 1) m' H') ∧ ∀ x H', (Itl K a).yld i H x H' → gName j x (wipe σ [j]) H' fun σ2 H2 => wipe σ2 [j] = wipe σ [j] ∧ tt σ2 H2 fun b H3 =>
        if b = true then te σ2 H3 fun y H4 => ∃ acc, H4 D = some (.lst acc) ∧ acc.length < sizeLine ∧ Nx (upd H4 D (.lst (acc ++ [y]))) else Nx H3) := by
  refine lc_list (Pv := fun i H' => Same H H' ∧ H' D = some (.lst (((xs.take i).filter p).map f))) ⟨same_new hD, upd_same⟩ (fun i H' _ h => sqL_same h.1 hS) ?_ ?_
  · rintro i x H1 hx ⟨sm, hd1⟩
    have hm := List.mem_of_getElem? hx
    have et : xs.take (i + 1) = xs.take i ++ [x] := by rw [List.take_add_one, hx]; rfl
    have hl : (((xs.take i).filter p).map f).length < sizeLine := by
      rw [List.length_map]
      have h1 : ((xs.take i).filter p).length ≤ (xs.take i).length := List.length_filter_le _ _
      have h2 : (xs.take i).length ≤ xs.length := by rw [List.length_take]; exact Nat.min_le_right _ _
      omega
    refine ⟨?_, ht x H1 _ hm sm fun H3 s3 => ?_⟩
    · show (wipe ((wipe σ [j]).set j (some x)) [j]) = wipe σ [j]
      show (((σ.set j none).set j (some x)).set j none) = σ.set j none
      simp
    · cases hp : p x with
      | true =>
        refine iteT (he x H3 _ hm hp (sm.trans s3) fun H4 s4 => ?_)
        refine ⟨_, s4 _ _ (s3 _ _ hd1), hl, same_upd hD ((sm.trans s3).trans s4), ?_⟩
        rw [upd_same, et, List.filter_append, List.map_append]
        simp [hp]
      | false =>
        refine iteF ⟨sm.trans s3, ?_⟩
        rw [s3 _ _ hd1, et, List.filter_append, List.map_append]
        simp [hp]
  · rintro H1 ⟨sm, hd1⟩
    rw [List.take_length] at hd1
    exact hd H1 sm hd1
/-- a comprehension over range(n) whose element draws from the bag at b -/
theorem lc_draw {lo : Int} {n : Nat} (Good : V → Prop) (hb : BagAt H b) (hD : H D = none) (hlen : n < sizeLine)
    (he : ∀ i H1 (R : V → Hp → Prop), i < n → Keep b H H1 → BagAt H1 b → (∀ y H3, Keep b H1 H3 → BagAt H3 b → Good y → R y H3) → te ((wipe σ [j]).set j (some (.int (lo + i)))) H1 R)
    (hd : ∀ H' acc, Keep b H H' → BagAt H' b → H' D = some (.lst acc) → acc.length = n → (∀ y ∈ acc, Good y) → Qd H') :
    ∃ W : Nat → Nat → Hp → Prop, (∃ m, W 0 m (upd H D (.lst []))) ∧ ∀ i m H, W i m H →
      ((Itr lo n).stop i H ∧ Qd H) ∨ ((Itr lo n).go i H ∧ ∃ Nx : Hp → Prop, (∀ H', Nx H' → ∃ m', m' < m ∧ W (i + 1) m' H') ∧ ∀ x H', (Itr lo n).yld i H x H' → gName j x (wipe σ [j]) H' fun σ2 H2 => wipe σ2 [j] = wipe σ [j] ∧ tYes σ2 H2 fun b H3 =>
        if b = true then te σ2 H3 fun y H4 => ∃ acc, H4 D = some (.lst acc) ∧ acc.length < sizeLine ∧ Nx (upd H4 D (.lst (acc ++ [y]))) else Nx H3) := by
  have nDb := hb.ne hD
  refine lc_range (Pv := fun i H' => Keep b H H' ∧ BagAt H' b ∧ ∃ acc, H' D = some (.lst acc) ∧ acc.length = i ∧ ∀ y ∈ acc, Good y)
    ⟨keep_upd hD (Keep.refl b H), hb.same (same_new hD), [], upd_same, rfl, fun _ h => nomatch h⟩ ?_ ?_
  · rintro i H1 hi ⟨kp, bg, acc, hacc, hl, hg⟩
    refine ⟨?_, ?_⟩
    · show (((σ.set j none).set j (some (V.int (lo + i)))).set j none) = σ.set j none
      simp
    · refine he i H1 _ hi kp bg fun y H3 k3 b3 gy => ?_
      have h3 := k3 D _ nDb hacc
      refine ⟨acc, h3, by omega, keep_upd hD (kp.trans k3), ?_, acc ++ [y], upd_same, by simp [hl], ?_⟩
      · obtain ⟨d, x, m, e, r⟩ := b3
        exact ⟨d, x, m, by rw [upd_ne nDb.symm]; exact e, r⟩
      · intro z hz
        rcases List.mem_append.mp hz with q | q
        · exact hg z q
        · rw [List.mem_singleton.mp q]; exact gy
  · rintro H1 ⟨kp, bg, acc, hacc, hl, hg⟩
    exact hd H1 acc kp bg hacc hl hg
end
end LF

set_option Elab.async false
set_option linter.all false
set_option maxRecDepth 100000
set_option maxHeartbeats 4000000
namespace LF
open PySem PySem.Spec PyProof.Rows L2
open Evl (Ev EvL EvU EvT EvA Ex sq_of st_of)
/-! data over what is tracked -/
mutual
inductive Dq (H : Hp) : V → PyData → Prop
  | non : Dq H .non .none
  | bl (b : Bool) : Dq H (.bl b) (.bool b)
  | int (i : Int) : Dq H (.int i) (.int i)
  | str (x : Str) (hl : x.length ≤ 1000) (ho : PyData.strOk x = true) : Dq H (.str x) (.str x)
  | lst {a : Addr} {xs : List V} {ds : List PyData} : H a = some (.lst xs) → DqAll H xs ds → xs.length ≤ 1000 → Dq H (.ref a) (.list ds)
  | tup {a : Addr} {xs : List V} {ds : List PyData} : H a = some (.tup xs) → DqAll H xs ds → xs.length ≤ 1000 → Dq H (.ref a) (.tuple ds)
inductive DqAll (H : Hp) : List V → List PyData → Prop
  | nil : DqAll H [] []
  | cons {v : V} {vs : List V} {d : PyData} {ds : List PyData} : Dq H v d → DqAll H vs ds → DqAll H (v :: vs) (d :: ds)
end
mutual
theorem Dq.same {H H' : Hp} (s : Ex H H') : ∀ (d : PyData) (v : V), Dq H v d → Dq H' v d
  | .none, _, h => by cases h; exact .non
  | .bool _, _, h => by cases h; exact .bl _
  | .int _, _, h => by cases h; exact .int _
  | .str _, _, h => by cases h with | str _ h1 h2 => exact .str _ h1 h2
  | .list ds, _, h => by cases h with | lst h1 h2 h3 => exact .lst (s _ _ h1) (DqAll.same s ds _ h2) h3
  | .tuple ds, _, h => by cases h with | tup h1 h2 h3 => exact .tup (s _ _ h1) (DqAll.same s ds _ h2) h3
  | .dict _, _, h => by cases h
theorem DqAll.same {H H' : Hp} (s : Ex H H') : ∀ (ds : List PyData) (vs : List V), DqAll H vs ds → DqAll H' vs ds
  | [], _, h => by cases h; exact .nil
  | d :: ds, _, h => by cases h with | cons h1 h2 => exact .cons (Dq.same s d _ h1) (DqAll.same s ds _ h2)
end
mutual
theorem Dq.dp {K : PySem.W.Frag} {H : Hp} : ∀ (d : PyData) (v : V), Dq H v d → Dp K H v d
  | .none, _, h => by cases h; exact .non
  | .bool _, _, h => by cases h; exact .bl _
  | .int _, _, h => by cases h; exact .int _
  | .str _, _, h => by cases h; exact .str _
  | .list ds, _, h => by cases h with | lst h1 h2 h3 => exact .lst (SqL.of h1) (DqAll.dp ds _ h2)
  | .tuple ds, _, h => by cases h with | tup h1 h2 h3 => exact .tup (SqT.of h1) (DqAll.dp ds _ h2)
  | .dict _, _, h => by cases h
theorem DqAll.dp {K : PySem.W.Frag} {H : Hp} : ∀ (ds : List PyData) (vs : List V), DqAll H vs ds → DpAll K H vs ds
  | [], _, h => by cases h; exact .nil
  | d :: ds, _, h => by cases h with | cons h1 h2 => exact .cons (Dq.dp d _ h1) (DqAll.dp ds _ h2)
end
mutual
theorem Dq.lay {H : Hp} : ∀ (d : PyData) (v : V), Dq H v d → PyData.canLay0 d = true
  | .none, _, h => by simp [PyData.canLay0]
  | .bool _, _, h => by simp [PyData.canLay0]
  | .int _, _, h => by simp [PyData.canLay0]
  | .str _, _, h => by cases h with | str _ h1 h2 => simpa [PyData.canLay0] using h2
  | .list ds, _, h => by cases h with | lst h1 h2 h3 => simpa [PyData.canLay0] using DqAll.lay ds _ h2
  | .tuple ds, _, h => by cases h with | tup h1 h2 h3 => simpa [PyData.canLay0] using DqAll.lay ds _ h2
  | .dict _, _, h => by cases h
theorem DqAll.lay {H : Hp} : ∀ (ds : List PyData) (vs : List V), DqAll H vs ds → PyData.canLayAll0 ds = true
  | [], _, h => by simp [PyData.canLayAll0]
  | d :: ds, _, h => by cases h with | cons h1 h2 => simp [PyData.canLayAll0, Dq.lay d _ h1, DqAll.lay ds _ h2]
end
theorem DqAll.len {H : Hp} : ∀ {vs : List V} {ds : List PyData}, DqAll H vs ds → vs.length = ds.length
  | _, _, .nil => rfl
  | _, _, .cons _ h => by rw [List.length_cons, List.length_cons, h.len]
theorem DqAll.get {H : Hp} : ∀ {vs : List V} {ds : List PyData} (i : Nat) {x : V}, DqAll H vs ds → vs[i]? = some x → ∃ d, ds[i]? = some d ∧ Dq H x d
  | _, _, i, _, .nil, h => by simp at h
  | _, _, 0, _, .cons h1 _, h => ⟨_, rfl, by cases (show some _ = some _ from h); exact h1⟩
  | _, _, i + 1, _, .cons _ h2, h => DqAll.get (vs := _) (ds := _) i h2 h
theorem DqAll.get' {H : Hp} : ∀ {vs : List V} {ds : List PyData} (i : Nat) {d : PyData}, DqAll H vs ds → ds[i]? = some d → ∃ x, vs[i]? = some x ∧ Dq H x d
  | _, _, i, _, .nil, h => by simp at h
  | _, _, 0, _, .cons h1 _, h => ⟨_, rfl, by cases (show some _ = some _ from h); exact h1⟩
  | _, _, i + 1, _, .cons _ h2, h => DqAll.get' (vs := _) (ds := _) i h2 h
/-! what kind of data -/
def tyN : PyData → String
  | .none => "NoneType" | .bool _ => "bool" | .int _ => "int" | .str _ => "str" | .list _ => "list" | .tuple _ => "tuple" | .dict _ => "dict"
def isStr : PyData → Bool | .str _ => true | _ => false
def isTup : PyData → Bool | .tuple _ => true | _ => false
def isLst : PyData → Bool | .list _ => true | _ => false
def isBol : PyData → Bool | .bool _ => true | _ => false
def isNum : PyData → Bool | .bool _ => true | .int _ => true | _ => false
def items : PyData → List PyData | .tuple ds => ds | .list ds => ds | _ => []
def at' (d : PyData) (i : Nat) : PyData := (items d).getD i .none
def txt : PyData → Str | .str z => z | _ => ""
def num : PyData → Int | .int i => i | .bool b => if b then 1 else 0 | _ => 0
theorem Dq.ty {K : PySem.W.Frag} {H : Hp} {d : PyData} {v : V} (h : Dq H v d) : TyX K H v (.type (tyN d)) := by
  cases h with
  | non => exact .base .non
  | bl b => exact .base (.bl b)
  | int i => exact .base (.int i)
  | str x _ _ => exact .base (.str x)
  | lst e _ _ => exact .base (.lst e)
  | tup e _ _ => exact .base (.tup e)
theorem kit_str' {K : PySem.W.Frag} : ∀ d : PyData, PySem.W.kitOne K (.type (tyN d)) (.type "str") = some (isStr d)
  | .none => (kit_ty (by decide +kernel) : PySem.W.kitOne K (.type "NoneType") (.type "str") = some false)
  | .bool _ => (kit_ty (by decide +kernel) : PySem.W.kitOne K (.type "bool") (.type "str") = some false)
  | .int _ => (kit_ty (by decide +kernel) : PySem.W.kitOne K (.type "int") (.type "str") = some false)
  | .str _ => (kit_ty (by decide +kernel) : PySem.W.kitOne K (.type "str") (.type "str") = some true)
  | .list _ => (kit_ty (by decide +kernel) : PySem.W.kitOne K (.type "list") (.type "str") = some false)
  | .tuple _ => (kit_ty (by decide +kernel) : PySem.W.kitOne K (.type "tuple") (.type "str") = some false)
  | .dict _ => (kit_ty (by decide +kernel) : PySem.W.kitOne K (.type "dict") (.type "str") = some false)
theorem kit_tup' {K : PySem.W.Frag} : ∀ d : PyData, PySem.W.kitOne K (.type (tyN d)) (.type "tuple") = some (isTup d)
  | .none => (kit_ty (by decide +kernel) : PySem.W.kitOne K (.type "NoneType") (.type "tuple") = some false)
  | .bool _ => (kit_ty (by decide +kernel) : PySem.W.kitOne K (.type "bool") (.type "tuple") = some false)
  | .int _ => (kit_ty (by decide +kernel) : PySem.W.kitOne K (.type "int") (.type "tuple") = some false)
  | .str _ => (kit_ty (by decide +kernel) : PySem.W.kitOne K (.type "str") (.type "tuple") = some false)
  | .list _ => (kit_ty (by decide +kernel) : PySem.W.kitOne K (.type "list") (.type "tuple") = some false)
  | .tuple _ => (kit_ty (by decide +kernel) : PySem.W.kitOne K (.type "tuple") (.type "tuple") = some true)
  | .dict _ => (kit_ty (by decide +kernel) : PySem.W.kitOne K (.type "dict") (.type "tuple") = some false)
theorem kit_lst' {K : PySem.W.Frag} : ∀ d : PyData, PySem.W.kitOne K (.type (tyN d)) (.type "list") = some (isLst d)
  | .none => (kit_ty (by decide +kernel) : PySem.W.kitOne K (.type "NoneType") (.type "list") = some false)
  | .bool _ => (kit_ty (by decide +kernel) : PySem.W.kitOne K (.type "bool") (.type "list") = some false)
  | .int _ => (kit_ty (by decide +kernel) : PySem.W.kitOne K (.type "int") (.type "list") = some false)
  | .str _ => (kit_ty (by decide +kernel) : PySem.W.kitOne K (.type "str") (.type "list") = some false)
  | .list _ => (kit_ty (by decide +kernel) : PySem.W.kitOne K (.type "list") (.type "list") = some true)
  | .tuple _ => (kit_ty (by decide +kernel) : PySem.W.kitOne K (.type "tuple") (.type "list") = some false)
  | .dict _ => (kit_ty (by decide +kernel) : PySem.W.kitOne K (.type "dict") (.type "list") = some false)
theorem kit_bol' {K : PySem.W.Frag} : ∀ d : PyData, PySem.W.kitOne K (.type (tyN d)) (.type "bool") = some (isBol d)
  | .none => (kit_ty (by decide +kernel) : PySem.W.kitOne K (.type "NoneType") (.type "bool") = some false)
  | .bool _ => (kit_ty (by decide +kernel) : PySem.W.kitOne K (.type "bool") (.type "bool") = some true)
  | .int _ => (kit_ty (by decide +kernel) : PySem.W.kitOne K (.type "int") (.type "bool") = some false)
  | .str _ => (kit_ty (by decide +kernel) : PySem.W.kitOne K (.type "str") (.type "bool") = some false)
  | .list _ => (kit_ty (by decide +kernel) : PySem.W.kitOne K (.type "list") (.type "bool") = some false)
  | .tuple _ => (kit_ty (by decide +kernel) : PySem.W.kitOne K (.type "tuple") (.type "bool") = some false)
  | .dict _ => (kit_ty (by decide +kernel) : PySem.W.kitOne K (.type "dict") (.type "bool") = some false)
theorem kit_int' {K : PySem.W.Frag} : ∀ d : PyData, PySem.W.kitOne K (.type (tyN d)) (.type "int") = some (isNum d)
  | .none => (kit_ty (by decide +kernel) : PySem.W.kitOne K (.type "NoneType") (.type "int") = some false)
  | .bool _ => (kit_ty (by decide +kernel) : PySem.W.kitOne K (.type "bool") (.type "int") = some true)
  | .int _ => (kit_ty (by decide +kernel) : PySem.W.kitOne K (.type "int") (.type "int") = some true)
  | .str _ => (kit_ty (by decide +kernel) : PySem.W.kitOne K (.type "str") (.type "int") = some false)
  | .list _ => (kit_ty (by decide +kernel) : PySem.W.kitOne K (.type "list") (.type "int") = some false)
  | .tuple _ => (kit_ty (by decide +kernel) : PySem.W.kitOne K (.type "tuple") (.type "int") = some false)
  | .dict _ => (kit_ty (by decide +kernel) : PySem.W.kitOne K (.type "dict") (.type "int") = some false)
/-- what a reading gives, as data -/
def EvD (te : TE) (σ : L2.St) (H : Hp) (d : PyData) : Prop := ∃ x, Ev te σ H x ∧ Dq H x d
def spD (g : PyData → Bool) : Sp := fun vs H Q _ => ∃ x d, vs = [x] ∧ Dq H x d ∧ ∀ H', Ex H H' → Q (.bl (g d)) H'
section
variable {K : PySem.W.Frag} {σ : L2.St} {H H' : Hp} {ta tb te tx : TE} {t u : TT} {x y z v : V} {d e : PyData}
theorem EvD.mono (s : Ex H H') (h : EvD te σ H d) : EvD te σ H' d := by
  obtain ⟨x, h1, h2⟩ := h
  exact ⟨x, h1.mono s, Dq.same s _ _ h2⟩
theorem evd_var {i : Nat} (h : σ[i]? = some (some x)) (hd : Dq H x d) : EvD (tVar i) σ H d := ⟨x, Evl.ev_var h, hd⟩
theorem ev_isi {T : String} {b : Bool} (h : EvD te σ H d) (hk : PySem.W.kitOne K (.type (tyN d)) (.type T) = some b) : Ev (tCB (rIsi K) (tCons te (tCons (tC (.ty T)) tNil))) σ H (.bl b) := by
  obtain ⟨x, h1, h2⟩ := h
  refine Evl.ev_cb (vs := [x, .ty T]) (Evl.ea_cons h1 (Evl.ea_cons Evl.ev_c Evl.ea_nil)) fun H1 e Q q => ?_
  exact ⟨x, .ty T, _, _, b, rfl, .ty T, (Dq.same e _ _ h2).ty, hk, q H1 (Ex.refl H1)⟩
theorem Dq.tupE (h : Dq H x d) (ht : isTup d = true) : ∃ a xs, x = .ref a ∧ H a = some (.tup xs) ∧ DqAll H xs (items d) ∧ xs.length ≤ 1000 ∧ xs.length = (items d).length := by
  cases h with
  | tup h1 h2 h3 => exact ⟨_, _, rfl, h1, h2, h3, h2.len⟩
  | _ => cases ht
theorem Dq.lstE (h : Dq H x d) (ht : isLst d = true) : ∃ a xs, x = .ref a ∧ H a = some (.lst xs) ∧ DqAll H xs (items d) ∧ xs.length ≤ 1000 ∧ xs.length = (items d).length := by
  cases h with
  | lst h1 h2 h3 => exact ⟨_, _, rfl, h1, h2, h3, h2.len⟩
  | _ => cases ht
theorem Dq.strE (h : Dq H x d) (ht : isStr d = true) : x = .str (txt d) ∧ (txt d).length ≤ 1000 ∧ PyData.strOk (txt d) = true ∧ d = .str (txt d) := by
  cases h with
  | str z h1 h2 => exact ⟨rfl, h1, h2, rfl⟩
  | _ => cases ht
theorem Dq.intE (h : Dq H x d) (ht : isNum d = true) (hb : isBol d = false) : x = .int (num d) ∧ d = .int (num d) := by
  cases h with
  | int i => exact ⟨rfl, rfl⟩
  | bl b => cases hb
  | _ => cases ht
theorem ev_lenD (h : EvD te σ H d) (ht : isTup d = true ∨ isLst d = true) : Ev (tCB (Evl.rLenS K) (tCons te tNil)) σ H (.int ((items d).length : Int)) := by
  obtain ⟨x, h1, h2⟩ := h
  refine Evl.ev_cb (vs := [x]) (Evl.ea_cons h1 Evl.ea_nil) fun H1 e Q q => ?_
  rcases ht with ht | ht
  · obtain ⟨a, xs, rfl, ha, _, _, hl⟩ := h2.tupE ht
    exact ⟨a, xs, rfl, Or.inr (st_of (e _ _ ha)), by rw [hl]; exact q H1 (Ex.refl H1)⟩
  · obtain ⟨a, xs, rfl, ha, _, _, hl⟩ := h2.lstE ht
    exact ⟨a, xs, rfl, Or.inl (sq_of (e _ _ ha)), by rw [hl]; exact q H1 (Ex.refl H1)⟩
theorem atI_nat' {xs : List V} {i : Nat} {y : V} (h : xs[i]? = some y) : atI xs (i : Int) = some y := atI_nat h
theorem evd_atT {i : Nat} (h : EvD te σ H d) (ht : isTup d = true) (hi : i < (items d).length) (hb : Ev tb σ H (.int (i : Int))) : EvD (tOp (rIxT K) te tb) σ H (at' d i) := by
  obtain ⟨x, h1, h2⟩ := h
  obtain ⟨a, xs, rfl, ha, hd, _, hl⟩ := h2.tupE ht
  obtain ⟨y, hy, hq⟩ := hd.get' i (List.getElem?_eq_getElem hi)
  refine ⟨y, Evl.ev_op h1 hb (Evl.rv_ixT (st_of ha) (atI_nat' hy)), ?_⟩
  have e : at' d i = (items d)[i] := by unfold at'; rw [List.getD_eq_getElem?_getD, List.getElem?_eq_getElem hi]; rfl
  rw [e]; exact hq
theorem evd_atL {i : Nat} (h : EvD te σ H d) (ht : isLst d = true) (hi : i < (items d).length) (hb : Ev tb σ H (.int (i : Int))) : EvD (tOp (rIxL K) te tb) σ H (at' d i) := by
  obtain ⟨x, h1, h2⟩ := h
  obtain ⟨a, xs, rfl, ha, hd, _, hl⟩ := h2.lstE ht
  obtain ⟨y, hy, hq⟩ := hd.get' i (List.getElem?_eq_getElem hi)
  refine ⟨y, Evl.ev_op h1 hb (Evl.rv_ixL (sq_of ha) (atI_nat' hy)), ?_⟩
  have e : at' d i = (items d)[i] := by unfold at'; rw [List.getD_eq_getElem?_getD, List.getElem?_eq_getElem hi]; rfl
  rw [e]; exact hq
theorem ev_callB1 {g : PyData → Bool} {E : XK} (h : EvD te σ H d) : Ev (tCall (spD g) [] E (tCons te tNil)) σ H (.bl (g d)) := by
  obtain ⟨x, h1, h2⟩ := h
  exact Evl.ev_call (vs := [x]) (Evl.ea_cons h1 Evl.ea_nil) fun H1 e Q q E => ⟨x, d, rfl, Dq.same e _ _ h2, fun H2 e2 => q H2 e2⟩
theorem vint_dec (i j : Int) : decide (V.int i = V.int j) = decide (i = j) := by
  by_cases h : i = j
  · subst h; simp
  · rw [decide_eq_false h, decide_eq_false (fun e => h (V.int.inj e))]
theorem vstr_dec (z y : Str) : decide (V.str z = V.str y) = decide (z = y) := by
  by_cases h : z = y
  · subst h; simp
  · rw [decide_eq_false h, decide_eq_false (fun e => h (V.str.inj e))]
theorem ev_eqI {i j : Int} (ha : Ev ta σ H (.int i)) (hb : Ev tb σ H (.int j)) : Ev (tOp rEq ta tb) σ H (.bl (decide (i = j))) :=
  Evl.ev_is (Evl.ev_op ha hb (Evl.rv_eq rfl)) (by rw [vint_dec])
theorem ev_eqS {z w : Str} (ha : Ev ta σ H (.str z)) (hb : Ev tb σ H (.str w)) : Ev (tOp rEq ta tb) σ H (.bl (decide (z = w))) :=
  Evl.ev_is (Evl.ev_op ha hb (Evl.rv_eq rfl)) (by rw [vstr_dec])
theorem EvD.strE (h : EvD te σ H d) (ht : isStr d = true) : Ev te σ H (.str (txt d)) := by
  obtain ⟨x, h1, h2⟩ := h
  rw [(h2.strE ht).1] at h1
  exact h1
theorem EvD.intE (h : EvD te σ H d) (ht : isNum d = true) (hb : isBol d = false) : Ev te σ H (.int (num d)) := by
  obtain ⟨x, h1, h2⟩ := h
  rw [(h2.intE ht hb).1] at h1
  exact h1
theorem ev_allB {bs : List Bool} (h : EvL te σ H (bs.map V.bl)) : Ev (tCB (rAll K) (tCons te tNil)) σ H (.bl (bs.all id)) := fun H1 e Q q =>
  h H1 e _ fun p H2 _ e2 h2 => ⟨p, bs, rfl, sq_of h2, q H2 e2⟩
/-- a comprehension over a tuple, each item once: what the element gives, item by item -/
theorem el_lcTm {a : Addr} {xs : List V} {tl : TE} {g : TG} {vs : List Nat} (ys : List V) (h : Ev tl σ H (.ref a)) (hx : H a = some (.tup xs)) (hl : ys.length = xs.length) (hz : xs.length ≤ 40000)
    (hs : ∀ (i : Nat) (x y : V) (H1 : Hp) (R : L2.St → Hp → Prop), Ex H H1 → xs[i]? = some x → ys[i]? = some y → (∀ σ2, wipe σ2 vs = wipe σ vs → Ev te σ2 H1 y → R σ2 H1) → g x (wipe σ vs) H1 R) :
    EvL (tLc (iTup K tl) g tYes te vs) σ H ys := fun H0 e Q q => h H0 e _ fun H1 e1 => ⟨a, rfl, ⟨xs, st_of ((e.trans e1) _ _ hx)⟩, fun Dl hD =>
  lc_tup (xs := xs) (fun i H' => Ex H1 H' ∧ H' Dl = some (.lst (ys.take i))) ⟨Ex.new hD, by rw [List.take_zero]; exact upd_same⟩ (fun i H' _ p => st_of (p.1 _ _ ((e.trans e1) _ _ hx))) (fun i x H' hi p => by
    have hi' : i < xs.length := (List.getElem?_eq_some_iff.mp hi).1
    have hy : ys[i]? = some ys[i] := List.getElem?_eq_getElem (by omega)
    refine hs i x _ H' _ ((e.trans e1).trans p.1) hi hy fun σ2 hw hev => ?_
    have key : te σ2 H' (fun y H4 => ∃ acc, H4 Dl = some (.lst acc) ∧ acc.length < sizeLine ∧ (Ex H1 (upd H4 Dl (.lst (acc ++ [y]))) ∧ upd H4 Dl (.lst (acc ++ [y])) Dl = some (.lst (ys.take (i + 1))))) := ?_
    · exact ⟨hw, key⟩
    refine hev H' (Ex.refl H') _ fun H4 e4 => ⟨ys.take i, e4 _ _ p.2, ?_, Ex.mut (p.1.trans e4) hD, ?_⟩
    · rw [List.length_take]; exact Evl.sz_lt (by omega)
    · rw [upd_same, List.take_add_one, hy]; rfl) (fun H' p => q Dl H' (Evl.fresh_back e1 hD) (e1.trans p.1) (by
    have := p.2
    rw [List.take_of_length_le (by omega)] at this
    exact this))⟩
/-- the same over a list -/
theorem el_lcLm {a : Addr} {xs : List V} {tl : TE} {g : TG} {vs : List Nat} (ys : List V) (h : Ev tl σ H (.ref a)) (hx : H a = some (.lst xs)) (hl : ys.length = xs.length) (hz : xs.length ≤ 40000)
    (hs : ∀ (i : Nat) (x y : V) (H1 : Hp) (R : L2.St → Hp → Prop), Ex H H1 → xs[i]? = some x → ys[i]? = some y → (∀ σ2, wipe σ2 vs = wipe σ vs → Ev te σ2 H1 y → R σ2 H1) → g x (wipe σ vs) H1 R) :
    EvL (tLc (iList K tl) g tYes te vs) σ H ys := fun H0 e Q q => h H0 e _ fun H1 e1 => ⟨a, rfl, ⟨xs, sq_of ((e.trans e1) _ _ hx)⟩, fun Dl hD =>
  lc_list (xs := xs) (fun i H' => Ex H1 H' ∧ H' Dl = some (.lst (ys.take i))) ⟨Ex.new hD, by rw [List.take_zero]; exact upd_same⟩ (fun i H' _ p => sq_of (p.1 _ _ ((e.trans e1) _ _ hx))) (fun i x H' hi p => by
    have hi' : i < xs.length := (List.getElem?_eq_some_iff.mp hi).1
    have hy : ys[i]? = some ys[i] := List.getElem?_eq_getElem (by omega)
    refine hs i x _ H' _ ((e.trans e1).trans p.1) hi hy fun σ2 hw hev => ?_
    have key : te σ2 H' (fun y H4 => ∃ acc, H4 Dl = some (.lst acc) ∧ acc.length < sizeLine ∧ (Ex H1 (upd H4 Dl (.lst (acc ++ [y]))) ∧ upd H4 Dl (.lst (acc ++ [y])) Dl = some (.lst (ys.take (i + 1))))) := ?_
    · exact ⟨hw, key⟩
    refine hev H' (Ex.refl H') _ fun H4 e4 => ⟨ys.take i, e4 _ _ p.2, ?_, Ex.mut (p.1.trans e4) hD, ?_⟩
    · rw [List.length_take]; exact Evl.sz_lt (by omega)
    · rw [upd_same, List.take_add_one, hy]; rfl) (fun H' p => q Dl H' (Evl.fresh_back e1 hD) (e1.trans p.1) (by
    have := p.2
    rw [List.take_of_length_le (by omega)] at this
    exact this))⟩
theorem wipe_set {σ : L2.St} {j : Nat} {x : V} : wipe ((wipe σ [j]).set j (some x)) [j] = wipe σ [j] := by
  show ((σ.set j none).set j (some x)).set j none = σ.set j none
  simp
/-- all([f(x) for x in tuple]) by data -/
theorem ev_allT {j : Nat} {tl : TE} (g : PyData → Bool) (h : EvD tl σ H d) (ht : isTup d = true) (hs : ∀ x d' H1, Ex H H1 → Dq H1 x d' → d' ∈ items d → Ev te ((wipe σ [j]).set j (some x)) H1 (.bl (g d'))) :
    Ev (tCB (rAll K) (tCons (tLc (iTup K tl) (gName j) tYes te [j]) tNil)) σ H (.bl ((items d).all g)) := by
  obtain ⟨x, h1, h2⟩ := h
  obtain ⟨a, xs, rfl, ha, hd, hz, hl⟩ := h2.tupE ht
  refine Evl.ev_is (ev_allB (bs := (items d).map g) ?_) (by rw [List.all_map]; rfl)
  refine el_lcTm (K := K) _ h1 ha (by rw [List.length_map, List.length_map, hl]) (by omega) fun i x y H1 R e hx hy k => ?_
  obtain ⟨d', hd', hq⟩ := hd.get i hx
  rw [List.getElem?_map, List.getElem?_map, hd'] at hy
  cases (show some (V.bl (g d')) = some y from hy)
  exact k _ wipe_set (hs x d' H1 e (Dq.same e _ _ hq) (List.mem_of_getElem? hd'))
theorem ev_allL {j : Nat} {tl : TE} (g : PyData → Bool) (h : EvD tl σ H d) (ht : isLst d = true) (hs : ∀ x d' H1, Ex H H1 → Dq H1 x d' → d' ∈ items d → Ev te ((wipe σ [j]).set j (some x)) H1 (.bl (g d'))) :
    Ev (tCB (rAll K) (tCons (tLc (iList K tl) (gName j) tYes te [j]) tNil)) σ H (.bl ((items d).all g)) := by
  obtain ⟨x, h1, h2⟩ := h
  obtain ⟨a, xs, rfl, ha, hd, hz, hl⟩ := h2.lstE ht
  refine Evl.ev_is (ev_allB (bs := (items d).map g) ?_) (by rw [List.all_map]; rfl)
  refine el_lcLm (K := K) _ h1 ha (by rw [List.length_map, List.length_map, hl]) (by omega) fun i x y H1 R e hx hy k => ?_
  obtain ⟨d', hd', hq⟩ := hd.get i hx
  rw [List.getElem?_map, List.getElem?_map, hd'] at hy
  cases (show some (V.bl (g d')) = some y from hy)
  exact k _ wipe_set (hs x d' H1 e (Dq.same e _ _ hq) (List.mem_of_getElem? hd'))
end
end LF

set_option Elab.async false
set_option linter.all false
set_option maxRecDepth 100000
set_option maxHeartbeats 4000000
namespace LF
open PySem PySem.Spec PyProof.Rows L2
open Evl (Ev EvL EvU EvT EvA Ex sq_of st_of)
/-- < of two ints, of two texts -/
def rLtV : R2 := fun x y H Q => (∃ i j, x = .int i ∧ y = .int j ∧ Q (.bl (decide (i < j))) H) ∨ (∃ i j : Str, x = .str i ∧ y = .str j ∧ Q (.bl (decide (i.cps.toList < j.cps.toList))) H)
theorem op_ltV {X : Cx} : OpR X (compareOp .Lt) rLtV := by
  intro pins s σ H x y v u Q I rx ry h
  rcases h with h | h
  · exact op_lt pins s σ H x y v u Q I rx ry h
  · exact op_lt_str pins s σ H x y v u Q I rx ry h
def ltD : PyData → PyData → Bool
  | .int i, .int j => decide (i < j)
  | .str i, .str j => decide (i.cps.toList < j.cps.toList)
  | _, _ => false
def kin (ds : List PyData) : Prop := (∀ d ∈ ds, isNum d = true ∧ isBol d = false) ∨ (∀ d ∈ ds, isStr d = true)
def ascD (ds : List PyData) : Bool := (List.range (ds.length - 1)).all fun i => ltD (ds.getD i .none) (ds.getD (i + 1) .none)
section
variable {K : PySem.W.Frag} {σ : L2.St} {H H' : Hp} {ta tb te tx : TE} {t u : TT} {x y z v : V} {d e : PyData}
theorem ev_ltD (ha : EvD ta σ H d) (hb : EvD tb σ H e) (hk : kin [d, e]) : Ev (tOp rLtV ta tb) σ H (.bl (ltD d e)) := by
  rcases hk with hk | hk
  · obtain ⟨a1, a2⟩ := hk d (by simp)
    obtain ⟨b1, b2⟩ := hk e (by simp)
    obtain ⟨x, h1, h2⟩ := ha
    obtain ⟨y, h3, h4⟩ := hb
    obtain ⟨r1, r2⟩ := h2.intE a1 a2
    obtain ⟨r3, r4⟩ := h4.intE b1 b2
    rw [r1] at h1; rw [r3] at h3
    refine Evl.ev_op h1 h3 fun H1 e1 Q q => Or.inl ⟨_, _, rfl, rfl, ?_⟩
    rw [r2, r4] at q
    exact q H1 (Ex.refl H1)
  · have a1 := hk d (by simp)
    have b1 := hk e (by simp)
    obtain ⟨x, h1, h2⟩ := ha
    obtain ⟨y, h3, h4⟩ := hb
    obtain ⟨r1, _, _, r2⟩ := h2.strE a1
    obtain ⟨r3, _, _, r4⟩ := h4.strE b1
    rw [r1] at h1; rw [r3] at h3
    refine Evl.ev_op h1 h3 fun H1 e1 Q q => Or.inr ⟨_, _, rfl, rfl, ?_⟩
    rw [r2, r4] at q
    exact q H1 (Ex.refl H1)
def isSeq (d : PyData) : Bool := isTup d || isLst d
theorem ev_lenQ (h : EvD te σ H d) (ht : isSeq d = true) : Ev (tCB (Evl.rLenS K) (tCons te tNil)) σ H (.int ((items d).length : Int)) :=
  ev_lenD h (by unfold isSeq at ht; rcases Bool.or_eq_true _ _ ▸ ht with h | h; exact Or.inl h; exact Or.inr h)
theorem at_of {ds : List PyData} {i : Nat} (hd : items d = ds) (hi : i < ds.length) : at' d i = ds[i] := by
  unfold at'; rw [hd, List.getD_eq_getElem?_getD, List.getElem?_eq_getElem hi]; rfl
theorem evd_atQ {i : Nat} (h : EvD te σ H d) (ht : isSeq d = true) (hi : i < (items d).length) (hb : Ev tb σ H (.int (i : Int))) : EvD (tOp (rIx K) te tb) σ H (at' d i) := by
  obtain ⟨x, h1, h2⟩ := h
  cases h3 : isTup d with
  | true =>
    obtain ⟨a, xs, rfl, ha, hd, _, hl⟩ := h2.tupE h3
    obtain ⟨y, hy, hq⟩ := hd.get' i (List.getElem?_eq_getElem hi)
    refine ⟨y, Evl.ev_op h1 hb (fun H2 e2 Q q => Or.inr (Or.inl ⟨a, xs, _, y, rfl, rfl, st_of (e2 _ _ ha), atI_nat' hy, q H2 (Ex.refl H2)⟩)), ?_⟩
    rw [at_of rfl hi]; exact hq
  | false =>
    have h4 : isLst d = true := by unfold isSeq at ht; rw [h3] at ht; exact ht
    obtain ⟨a, xs, rfl, ha, hd, _, hl⟩ := h2.lstE h4
    obtain ⟨y, hy, hq⟩ := hd.get' i (List.getElem?_eq_getElem hi)
    refine ⟨y, Evl.ev_op h1 hb (fun H2 e2 Q q => Or.inl ⟨a, xs, _, y, rfl, rfl, sq_of (e2 _ _ ha), atI_nat' hy, q H2 (Ex.refl H2)⟩), ?_⟩
    rw [at_of rfl hi]; exact hq
/-- all([.. for at in range(n)]), n at least -1 -/
theorem ev_allR {ta : TA} {j : Nat} {n : Int} (g : Nat → Bool) (h : EvA ta σ H [.int n]) (hn : -1 ≤ n ∧ n ≤ 40000)
    (he : ∀ (i : Nat) H1, Ex H H1 → (i : Int) < n → Ev te ((wipe σ [j]).set j (some (.int (i : Int)))) H1 (.bl (g i))) :
    Ev (tCB (rAll K) (tCons (tLc (iRng1 ta) (gName j) tYes te [j]) tNil)) σ H (.bl ((List.range n.toNat).all g)) := by
  refine Evl.ev_is (ev_allB (bs := (List.range n.toNat).map g) ?_) (by rw [List.all_map]; rfl)
  have el : EvL (tLc (iRng1 ta) (gName j) tYes te [j]) σ H (Evl.given n.toNat (fun _ => true) fun i => .bl (g i)) := by
    by_cases hn0 : 0 ≤ n
    · exact Evl.el_lcR1 _ _ h ⟨hn0, hn.2⟩ (fun x => wipe_set) (fun i H1 e hi => fun H2 e2 Q q => q H2 (Ex.refl H2)) (fun i H1 e hi _ => he i H1 e hi)
    · have e1 : n = -1 := by omega
      subst e1
      refine fun H0 e Q q => h H0 e _ fun H1 e1 => ⟨-1, rfl, by omega, by omega, fun Dl hD => ?_⟩
      exact lc_range (lo := 0) (n := 0) (fun i H' => Ex H1 H' ∧ H' Dl = some (.lst [])) ⟨Ex.new hD, upd_same⟩ (fun i H' hi p => absurd hi (by omega)) (fun H' p => q Dl H' (Evl.fresh_back e1 hD) (e1.trans p.1) p.2)
  have e2 : Evl.given n.toNat (fun _ => true) (fun i => V.bl (g i)) = ((List.range n.toNat).map g).map V.bl := by
    unfold Evl.given
    rw [List.filter_eq_self.mpr (fun _ _ => rfl), List.map_map]; rfl
  rw [← e2]; exact el
theorem ev_subI {i j : Int} (ha : Ev ta σ H (.int i)) (hb : Ev tb σ H (.int j)) : Ev (tOp (rI0 fun i j => .int (i - j)) ta tb) σ H (.int (i - j)) := Evl.ev_op ha hb Evl.rv_I0
end
end LF

set_option Elab.async false
set_option linter.all false
set_option maxRecDepth 100000
set_option maxHeartbeats 4000000
namespace KD
open PySem PySem.Spec PyProof.Rows L2 LF
open Evl (Ev EvL EvU EvT EvA Ex sq_of st_of)
def nmD (d : PyData) : Bool := isStr d && isNm (txt d)
def c_sl : Str := "/"
def isPt (z : Str) : Bool := decide (z = "") || (PySem.Txt.split z c_sl).all isNm
def ptD (d : PyData) : Bool := isStr d && isPt (txt d)
def intD (d : PyData) : Bool := isNum d && !isBol d
def jtD (d : PyData) : Bool := intD d && decide (0 ≤ num d)
def plD (d : PyData) : Bool := isTup d && (decide (((items d).length : Int) = 2) && (nmD (at' d 0) && ptD (at' d 1)))
def tgD (d : PyData) : Bool := jtD d || plD d
def spAsc : Sp := fun vs H Q _ => ∃ x d, vs = [x] ∧ Dq H x d ∧ isSeq d = true ∧ kin (items d) ∧ ∀ H', Ex H H' → Q (.bl (ascD (items d))) H'
theorem sl_ne : (c_sl.length == 0) = false := by decide +kernel
theorem sizeLine_big : 1000010 < sizeLine := by decide
theorem intD_iff {d : PyData} (h : intD d = true) : isNum d = true ∧ isBol d = false := by
  unfold intD at h; rw [Bool.and_eq_true] at h; exact ⟨h.1, by simpa using h.2⟩
abbrev s_is_path : Stmt := topS 6
abbrev N_is_path : List Str := ["thing", "part"]
theorem sc_is_path : FnScope ["thing", "part"] ["thing"] (defScope s_is_path) := ⟨rfl, rfl, rfl, by decide +kernel, rfl, by decide +kernel, by decide +kernel⟩
abbrev s_is_integer : Stmt := topS 8
abbrev N_is_integer : List Str := ["thing"]
theorem sc_is_integer : FnScope ["thing"] ["thing"] (defScope s_is_integer) := ⟨rfl, rfl, rfl, by decide +kernel, rfl, by decide +kernel, by decide +kernel⟩
abbrev s_is_joint : Stmt := topS 9
abbrev N_is_joint : List Str := ["thing"]
theorem sc_is_joint : FnScope ["thing"] ["thing"] (defScope s_is_joint) := ⟨rfl, rfl, rfl, by decide +kernel, rfl, by decide +kernel, by decide +kernel⟩
abbrev s_is_place_in_package : Stmt := topS 10
abbrev N_is_place_in_package : List Str := ["thing"]
theorem sc_is_place_in_package : FnScope ["thing"] ["thing"] (defScope s_is_place_in_package) := ⟨rfl, rfl, rfl, by decide +kernel, rfl, by decide +kernel, by decide +kernel⟩
section
variable {P : Program} {w : World} {K : PySem.W.Frag} {mg : Str → Option Value} {base : Heap} {tk1 tk2 : Tok}
theorem ok_is_nameD {f : Addr} {fd : FuncData} (F : Fun K "is_name" "is_name" s_is_name f fd) (T : Txt K mg tk1 tk2) : FnOk P w K mg base CX0 1 f fd ["thing"] (spD nmD) := by
  refine (ok_is_name F T).imp fun vs H Q E h => ?_
  obtain ⟨x, d, rfl, hd, hq⟩ := h
  refine ⟨x, rfl, ?_⟩
  cases h1 : isStr d with
  | true =>
    obtain ⟨e1, e2, e3, e4⟩ := hd.strE h1
    refine Or.inl ⟨txt d, e1, by omega, fun H' s => ?_⟩
    have := hq H' s
    unfold nmD at this
    rw [h1, Bool.true_and] at this
    exact this
  | false =>
    refine Or.inr ⟨_, hd.ty, (by rw [kit_str', h1]), fun H' s => ?_⟩
    have := hq H' s
    unfold nmD at this
    rw [h1, Bool.false_and] at this
    exact this
theorem ok_is_integer {f : Addr} {fd : FuncData} (F : Fun K "is_integer" "is_integer" s_is_integer f fd) (T : Txt K mg tk1 tk2)  :
    FnOk P w K mg base CX0 1 f fd ["thing"] (spD intD) := by
  refine F.ok sc_is_integer (fun vs H Q E h => ?_) (fun cdv A outer s H vs Q E hr h => ?_)
  · obtain ⟨x, d, rfl, _⟩ := h
    rfl
  refine ⟨_, (pss_one (ps_ret (pe_and (pe_callB call_isi (by rfl) T.n_isinstance (by decide +kernel) (pa_cons (pv 0) (pa_cons (pe_bltn (v := .ty "int") (by rfl) T.n_int (by decide +kernel) rfl) pa_nil))) (pe_one (pe_not (pe_callB call_isi (by rfl) T.n_isinstance (by decide +kernel) (pa_cons (pv 0) (pa_cons (pe_bltn (v := .ty "bool") (by rfl) T.n_bool (by decide +kernel) rfl) pa_nil)))))))), ?_⟩
  obtain ⟨x, d, rfl, hd, hq⟩ := h
  have v0 : EvD (tVar 0) [some x] H d := evd_var rfl hd
  exact Evl.s_ret (Evl.ev_andV (ev_isi v0 (kit_int' d)) fun _ => Evl.ev_notV (ev_isi v0 (kit_bol' d))) hq
theorem ok_is_joint {f : Addr} {fd : FuncData} {f_is_integer : Addr} {fd_is_integer : FuncData} (F : Fun K "is_joint" "is_joint" s_is_joint f fd) (T : Txt K mg tk1 tk2) (d_is_integer : DefAt P w K mg base "is_integer" 1 f_is_integer fd_is_integer ["thing"] (spD intD)) :
    FnOk P w K mg base CX0 2 f fd ["thing"] (spD jtD) := by
  refine F.ok sc_is_joint (fun vs H Q E h => ?_) (fun cdv A outer s H vs Q E hr h => ?_)
  · obtain ⟨x, d, rfl, _⟩ := h
    rfl
  refine ⟨_, (pss_one (ps_ret (pe_and (pe_callD d_is_integer (hr.mono (by decide)) (pa_cons (pv 0) pa_nil)) (pe_one (pe_cmpR op_ge (pv 0) pe_int (nomark _)))))), ?_⟩
  obtain ⟨x, d, rfl, hd, hq⟩ := h
  have v0 : EvD (tVar 0) [some x] H d := evd_var rfl hd
  exact Evl.s_ret (Evl.ev_andV (ev_callB1 v0) fun h1 => Evl.ev_op (v0.intE (intD_iff h1).1 (intD_iff h1).2) Evl.ev_c Evl.rv_I0) hq
theorem ok_is_place_in_package {f : Addr} {fd : FuncData} {f_is_name f_is_path : Addr} {fd_is_name fd_is_path : FuncData} (F : Fun K "is_place_in_package" "is_place_in_package" s_is_place_in_package f fd) (T : Txt K mg tk1 tk2) (d_is_name : DefAt P w K mg base "is_name" 1 f_is_name fd_is_name ["thing"] (spD nmD)) (d_is_path : DefAt P w K mg base "is_path" 2 f_is_path fd_is_path ["thing"] (spD ptD)) :
    FnOk P w K mg base CX0 3 f fd ["thing"] (spD plD) := by
  refine F.ok sc_is_place_in_package (fun vs H Q E h => ?_) (fun cdv A outer s H vs Q E hr h => ?_)
  · obtain ⟨x, d, rfl, _⟩ := h
    rfl
  refine ⟨_, (pss_one (ps_ret (pe_and (pe_callB call_isi (by rfl) T.n_isinstance (by decide +kernel) (pa_cons (pv 0) (pa_cons (pe_bltn (v := .ty "tuple") (by rfl) T.n_tuple (by decide +kernel) rfl) pa_nil))) (pe_and (pe_cmpR op_eq (pe_callB call_len_seq (by rfl) T.n_len (by decide +kernel) (pa_cons (pv 0) pa_nil)) pe_int (nomark _)) (pe_and (pe_callD d_is_name (hr.mono (by decide)) (pa_cons (pe_ix ix_tup (pv 0) pe_int (fun _ _ => rfl)) pa_nil)) (pe_one (pe_callD d_is_path (hr.mono (by decide)) (pa_cons (pe_ix ix_tup (pv 0) pe_int (fun _ _ => rfl)) pa_nil)))))))), ?_⟩
  obtain ⟨x, d, rfl, hd, hq⟩ := h
  have v0 : EvD (tVar 0) [some x] H d := evd_var rfl hd
  refine Evl.s_ret (Evl.ev_andV (ev_isi v0 (kit_tup' d)) fun h1 => Evl.ev_andV (ev_eqI (ev_lenD v0 (Or.inl h1)) Evl.ev_c) fun h2 => ?_) hq
  have hl : (items d).length = 2 := by have := of_decide_eq_true h2; omega
  exact Evl.ev_andV (ev_callB1 (evd_atT (i := 0) v0 h1 (by omega) Evl.ev_c)) fun _ => ev_callB1 (evd_atT (i := 1) v0 h1 (by omega) Evl.ev_c)
theorem ok_is_path {f : Addr} {fd : FuncData} {f_is_name : Addr} {fd_is_name : FuncData} (F : Fun K "is_path" "is_path" s_is_path f fd) (T : Txt K mg tk1 tk2) (d_is_name : DefAt P w K mg base "is_name" 1 f_is_name fd_is_name ["thing"] (spName K)) :
    FnOk P w K mg base CX0 2 f fd ["thing"] (spD ptD) := by
  refine F.ok sc_is_path (fun vs H Q E h => ?_) (fun cdv A outer s H vs Q E hr h => ?_)
  · obtain ⟨x, d, rfl, _⟩ := h
    rfl
  refine ⟨_, (pss_cons (ps_if (pt_not (pt_val (pe_callB call_isi (by rfl) T.n_isinstance (by decide +kernel) (pa_cons (pv 0) (pa_cons (pe_bltn (v := .ty "str") (by rfl) T.n_str (by decide +kernel) rfl) pa_nil))))) (pss_one (ps_ret pe_bl)) pss_nil)
    (pss_one (ps_ret (pe_or (pe_cmpR op_eq (pv 0) pe_str (nomark _)) (pe_one (pe_callB (cr_all rfl) (by rfl) T.n_all (by decide +kernel) (pa_cons (pe_lc (own := [("part", 1)]) rfl sc_is_path.nd (pi_list (pe_split (pv 0) pe_str)) (blkOk_by (N := N_is_path) (sc := defScope s_is_path) (by decide +kernel)) (fun _ _ _ _ _ => pg_name (i := 1) sc_is_path.nd rfl (Or.inl rfl)) (fun _ _ _ _ _ => pts_nil) (fun _ _ _ _ _ => (pe_callD d_is_name (hr.mono (by decide)) (pa_cons (pv 1) pa_nil)))) pa_nil))))))), ?_⟩
  obtain ⟨x, d, rfl, hd, hq⟩ := h
  have v0 : EvD (tVar 0) [some x, none] H d := evd_var rfl hd
  refine Evl.q_when (Evl.et_not (Evl.et_B (ev_isi v0 (kit_str' d)))) (fun h1 H1 e1 => ?_) (fun h1 H1 e1 => ?_)
  · have h2 : isStr d = false := by simpa using h1
    refine Evl.s_ret Evl.ev_c fun H2 e2 => ?_
    have := hq H2 (e1.trans e2)
    unfold ptD at this
    rw [h2] at this; exact this
  · have h2 : isStr d = true := by simpa using h1
    obtain ⟨e3, e4, e5, e6⟩ := hd.strE h2
    have hbig := sizeLine_big
    refine Evl.s_ret (v := .bl (ptD d)) ?_ fun H2 e2 => hq H2 (e1.trans e2)
    have v1 : Ev (tVar 0) [some x, none] H1 (.str (txt d)) := (v0.mono e1).strE h2
    have : ptD d = (decide (txt d = "") || (PySem.Txt.split (txt d) c_sl).all isNm) := by unfold ptD isPt; rw [h2]; rfl
    rw [this]
    refine Evl.ev_orV (ev_eqS v1 Evl.ev_c) fun _ => ?_
    refine Evl.ev_is (ev_allB (bs := (PySem.Txt.split (txt d) c_sl).map isNm) ?_) (by rw [List.all_map]; rfl)
    have es : EvL (tM1 (fun x xs H Q => ∃ a b, x = .str a ∧ xs = [.str b] ∧ (b.length == 0) = false ∧ a.length + 2 ≤ sizeLine ∧ rNewStrs (PySem.Txt.split a b) H Q) (tVar 0) (tC (.str "/"))) [some x, none] H1 ((PySem.Txt.split (txt d) c_sl).map V.str) := fun H2 e Q q =>
      v1 H2 e _ fun H3 e3 => ⟨⟨_, rfl⟩, txt d, c_sl, rfl, rfl, sl_ne, by omega, fun p hp => q p _ (Evl.fresh_back e3 hp) (e3.trans (Ex.new hp)) upd_same⟩
    have hlen := split_le (txt d) c_sl
    have e8 : Evl.given ((PySem.Txt.split (txt d) c_sl).map V.str).length (fun _ => true) (fun i => V.bl (isNm ((PySem.Txt.split (txt d) c_sl).getD i ""))) = ((PySem.Txt.split (txt d) c_sl).map isNm).map V.bl := by
      unfold Evl.given
      rw [List.filter_eq_self.mpr (fun _ _ => rfl), List.length_map]
      refine List.ext_getElem (by simp) fun i h1 h2 => ?_
      simp only [List.length_map, List.length_range] at h1
      simp [List.getD_eq_getElem?_getD, List.getElem?_eq_getElem h1]
    rw [← e8]
    refine Evl.el_lcNL (K := K) (fun _ => true) _ es (by rw [List.length_map]; omega) (fun x => wipe_set) (fun i y H2 e2 hy => fun H3 e3 Q q => q H3 (Ex.refl H3)) (fun i y H2 e2 hy _ => ?_)
    rw [List.getElem?_map] at hy
    obtain ⟨z, hz, rfl⟩ := Option.map_eq_some_iff.mp hy
    have hm := List.mem_of_getElem? hz
    have eg : (PySem.Txt.split (txt d) c_sl).getD i "" = z := by rw [List.getD_eq_getElem?_getD, hz]; rfl
    rw [eg]
    refine Evl.ev_call (vs := [.str z]) (Evl.ea_cons (Evl.ev_var rfl) Evl.ea_nil) fun H3 e3 Q q E' => ?_
    exact ⟨.str z, rfl, Or.inl ⟨z, rfl, by have := part_short hm; omega, fun H4 e4 => q H4 e4⟩⟩
end
end KD

set_option Elab.async false
set_option linter.all false
set_option maxRecDepth 100000
set_option maxHeartbeats 4000000
namespace LF
open PySem PySem.Spec PyProof.Rows L2
open Evl (Ev EvL EvU EvT EvA Ex sq_of st_of)
def one (fk : Addr) (sp : Sp) : Addr → Option Sp := fun f => if f = fk then some sp else none
theorem held_one {P : Program} {w : World} {K : PySem.W.Frag} {mg : Str → Option Value} {base : Heap} {x : Str} {k : Nat} {fk : Addr} {fd : FuncData} {ps : List Str} {sp : Sp} (D : DefAt P w K mg base x k fk fd ps sp) :
    ∀ f sp', one fk sp f = some sp' → Held P w K mg base k f sp' := fun f sp' h => by
  unfold one at h
  split at h
  · rename_i e
    cases h
    subst e
    exact ⟨fd, ps, D.F, D.kp, D.b⟩
  · cases h
def isPair (p : PyData) : Bool := isTup p && decide (((items p).length : Int) = 2)
def isNon : PyData → Bool | .none => true | _ => false
section
variable {K : PySem.W.Frag} {σ : L2.St} {H H' : Hp} {ta tb te tx : TE} {t u : TT} {x y z v : V} {d e : PyData}
theorem ev_callA1 {i : Nat} {fk : Addr} {g : PyData → Bool} (hi : σ[i]? = some (some (.ref fk))) (h : EvD te σ H d) : Ev (tCallA i (one fk (spD g)) (tCons te tNil)) σ H (.bl (g d)) := fun H1 e Q q => by
  obtain ⟨x, h1, h2⟩ := h
  refine ⟨fk, spD g, hi, by unfold one; rw [if_pos rfl], ?_⟩
  refine h1 H1 e _ fun H2 e2 => ?_
  exact ⟨x, d, rfl, Dq.same (e.trans e2) _ _ h2, fun H3 e3 => q H3 (e2.trans e3)⟩
theorem ev_isN (h : EvD te σ H d) : Ev (tOp (fun x y H Q => y = .non ∧ Q (.bl (decide (x = .non))) H) te (tC .non)) σ H (.bl (isNon d)) := by
  obtain ⟨x, h1, h2⟩ := h
  refine Evl.ev_op h1 Evl.ev_c fun H1 e Q q => ⟨rfl, ?_⟩
  have : decide (x = V.non) = isNon d := by cases h2 <;> rfl
  rw [this]; exact q H1 (Ex.refl H1)
theorem pairE (h : Dq H x d) (hp : isPair d = true) : ∃ a u v, x = .ref a ∧ H a = some (.tup [u, v]) ∧ Dq H u (at' d 0) ∧ Dq H v (at' d 1) := by
  unfold isPair at hp
  rw [Bool.and_eq_true] at hp
  obtain ⟨a, xs, rfl, ha, hd, _, hl⟩ := h.tupE hp.1
  have h2 : (items d).length = 2 := by have := of_decide_eq_true hp.2; omega
  obtain ⟨u, hu, du⟩ := hd.get' 0 (List.getElem?_eq_getElem (by omega))
  obtain ⟨v, hv, dv⟩ := hd.get' 1 (List.getElem?_eq_getElem (by omega))
  have e : xs = [u, v] := by
    match xs, hl.trans h2, hu, hv with
    | [a, b], _, hu, hv => cases (show some a = some u from hu); cases (show some b = some v from hv); rfl
  refine ⟨a, u, v, rfl, by rw [← e]; exact ha, ?_, ?_⟩
  · rw [at_of rfl (by omega)]; exact du
  · rw [at_of rfl (by omega)]; exact dv
theorem ev_allT2 {j k : Nat} {tl : TE} (g : PyData → Bool) (h : EvD tl σ H d) (ht : isTup d = true) (hp : (items d).all isPair = true)
    (hw : ∀ x y, wipe ((((wipe σ [j, k]).set j (some x)).set k (some y))) [j, k] = wipe σ [j, k])
    (hs : ∀ x y p H1, Ex H H1 → p ∈ items d → Dq H1 x (at' p 0) → Dq H1 y (at' p 1) → Ev te (((wipe σ [j, k]).set j (some x)).set k (some y)) H1 (.bl (g p))) :
    Ev (tCB (rAll K) (tCons (tLc (iTup K tl) (gTup K 2 (gCons (gName j) (gCons (gName k) gNil))) tYes te [j, k]) tNil)) σ H (.bl ((items d).all g)) := by
  obtain ⟨x, h1, h2⟩ := h
  obtain ⟨a, xs, rfl, ha, hd, hz, hl⟩ := h2.tupE ht
  refine Evl.ev_is (ev_allB (bs := (items d).map g) ?_) (by rw [List.all_map]; rfl)
  refine el_lcTm (K := K) _ h1 ha (by rw [List.length_map, List.length_map, hl]) (by omega) fun i x y H1 R e hx hy kk => ?_
  obtain ⟨p, hd', hq⟩ := hd.get i hx
  rw [List.getElem?_map, List.getElem?_map, hd'] at hy
  cases (show some (V.bl (g p)) = some y from hy)
  have hm := List.mem_of_getElem? hd'
  obtain ⟨b, u, v, rfl, hb, du, dv⟩ := pairE (Dq.same e _ _ hq) (List.all_eq_true.mp hp p hm)
  exact ⟨b, [u, v], rfl, st_of hb, rfl, u, [v], rfl, v, [], rfl, rfl, kk _ (hw u v) (hs u v p H1 e hm du dv)⟩
/-- the first items of pairs -/
theorem firsts : ∀ {vs : List V} {ds : List PyData}, DqAll H vs ds → ds.all isPair = true → ∃ ks, DqAll H ks (ds.map (at' · 0)) ∧ ∀ (i : Nat) x y, vs[i]? = some x → ks[i]? = some y → ∃ a w, x = .ref a ∧ H a = some (.tup [y, w])
  | _, _, .nil, _ => ⟨[], .nil, fun i x y h => by simp at h⟩
  | _, _, .cons h1 h2, hp => by
    rw [List.all_cons, Bool.and_eq_true] at hp
    obtain ⟨ks, q1, q2⟩ := firsts h2 hp.2
    obtain ⟨a, u, v, rfl, ha, du, dv⟩ := pairE h1 hp.1
    refine ⟨u :: ks, .cons du q1, fun i x y hx hy => ?_⟩
    cases i with
    | zero => cases (show some _ = some x from hx); cases (show some u = some y from hy); exact ⟨a, v, rfl, ha⟩
    | succ i => exact q2 i x y hx hy
theorem el_firsts {j k : Nat} {tl : TE} (h : EvD tl σ H d) (ht : isTup d = true) (hp : (items d).all isPair = true)
    (hw : ∀ x y, wipe ((((wipe σ [j, k]).set j (some x)).set k (some y))) [j, k] = wipe σ [j, k]) (hj : ∀ x y, (((wipe σ [j, k]).set j (some x)).set k (some y))[j]? = some (some x)) :
    ∃ ks, DqAll H ks ((items d).map (at' · 0)) ∧ EvL (tLc (iTup K tl) (gTup K 2 (gCons (gName j) (gCons (gName k) gNil))) tYes (tVar j) [j, k]) σ H ks := by
  obtain ⟨x, h1, h2⟩ := h
  obtain ⟨a, xs, rfl, ha, hd, hz, hl⟩ := h2.tupE ht
  obtain ⟨ks, q1, q2⟩ := firsts hd hp
  refine ⟨ks, q1, ?_⟩
  have hlk := q1.len
  rw [List.length_map] at hlk
  refine el_lcTm (K := K) ks h1 ha (by omega) (by omega) fun i x y H1 R e hx hy kk => ?_
  obtain ⟨b, w, rfl, hb⟩ := q2 i x y hx hy
  exact ⟨b, [y, w], rfl, st_of (e _ _ hb), rfl, y, [w], rfl, w, [], rfl, rfl, kk _ (hw y w) (Evl.ev_var (hj y w))⟩
theorem ev_callL1 {ks : List V} {ds : List PyData} {sp : Sp} {E : XK} {b : Bool} (h : EvL te σ H ks) (hd : DqAll H ks ds) (hz : ks.length ≤ 1000)
    (hs : ∀ p H1 Q E, Dq H1 (.ref p) (.list ds) → (∀ H2, Ex H1 H2 → Q (.bl b) H2) → sp [.ref p] H1 Q E) : Ev (tCall sp [] E (tCons te tNil)) σ H (.bl b) := fun H1 e Q q =>
  h H1 e _ fun p H2 _ e2 h2 => hs p H2 Q E (.lst h2 (DqAll.same (e.trans e2) _ _ hd) hz) fun H3 e3 => q H3 (e2.trans e3)
end
end LF

set_option Elab.async false
set_option linter.all false
set_option maxRecDepth 100000
set_option maxHeartbeats 4000000
namespace LF
open PySem PySem.Spec PyProof.Rows L2
open Evl (Ev EvL EvU EvT EvA Ex sq_of st_of)
theorem FnOk.or {P : Program} {w : World} {K : PySem.W.Frag} {mg : Str → Option Value} {base : Heap} {CX : CXT} {k : Nat} {f : Addr} {fd : FuncData} {ps : List Str} {sp sp' : Sp} (F : FnOk P w K mg base CX k f fd ps sp) (G : FnOk P w K mg base CX k f fd ps sp') :
    FnOk P w K mg base CX k f fd ps (fun vs H Q E => sp vs H Q E ∨ sp' vs H Q E) :=
  ⟨fun vs H Q E h => h.elim (F.len vs H Q E) (G.len vs H Q E), fun A outer s H args us vs Q E hr h0 hb hv h => h.elim (F.run A outer s H args us vs Q E hr h0 hb hv) (G.run A outer s H args us vs Q E hr h0 hb hv)⟩
/-- a list or a dict, of anything -/
def Opq (H : Hp) (x : V) : Prop := ∃ a, x = .ref a ∧ ((∃ xs, H a = some (.lst xs)) ∨ ∃ kvs, H a = some (.dK kvs))
theorem Opq.same {H H' : Hp} {x : V} (h : Opq H x) (s : Ex H H') : Opq H' x := by
  obtain ⟨a, rfl, h⟩ := h
  rcases h with ⟨xs, h⟩ | ⟨xs, h⟩
  · exact ⟨a, rfl, Or.inl ⟨xs, s _ _ h⟩⟩
  · exact ⟨a, rfl, Or.inr ⟨xs, s _ _ h⟩⟩
theorem Opq.ty {K : PySem.W.Frag} {H : Hp} {x : V} (h : Opq H x) : ∃ t, TyX K H x (.type t) ∧ PySem.W.kitOne K (.type t) (.type "tuple") = some false := by
  obtain ⟨a, rfl, h⟩ := h
  rcases h with ⟨xs, h⟩ | ⟨xs, h⟩
  · exact ⟨"list", .base (.lst h), kit_ty (by decide +kernel)⟩
  · exact ⟨"dict", .base (.dK h), kit_ty (by decide +kernel)⟩
/-- an item of a list of deeds: data, or a list or a dict -/
def El (H : Hp) (x : V) : Option PyData → Prop
  | some d => Dq H x d
  | none => Opq H x
theorem El.same {H H' : Hp} {x : V} {o : Option PyData} (h : El H x o) (s : Ex H H') : El H' x o := by
  cases o with
  | some d => exact Dq.same s _ _ h
  | none => exact Opq.same h s
inductive ElAll (H : Hp) : List V → List (Option PyData) → Prop
  | nil : ElAll H [] []
  | cons {v : V} {vs : List V} {d : Option PyData} {ds : List (Option PyData)} : El H v d → ElAll H vs ds → ElAll H (v :: vs) (d :: ds)
theorem ElAll.same {H H' : Hp} (s : Ex H H') : ∀ {vs : List V} {ds : List (Option PyData)}, ElAll H vs ds → ElAll H' vs ds
  | _, _, .nil => .nil
  | _, _, .cons h1 h2 => .cons (h1.same s) (h2.same s)
theorem ElAll.len {H : Hp} : ∀ {vs : List V} {ds : List (Option PyData)}, ElAll H vs ds → vs.length = ds.length
  | _, _, .nil => rfl
  | _, _, .cons _ h => by rw [List.length_cons, List.length_cons, h.len]
theorem ElAll.get {H : Hp} : ∀ {vs : List V} {ds : List (Option PyData)} (i : Nat) {x : V}, ElAll H vs ds → vs[i]? = some x → ∃ d, ds[i]? = some d ∧ El H x d
  | _, _, i, _, .nil, h => by simp at h
  | _, _, 0, _, .cons h1 _, h => ⟨_, rfl, by cases (show some _ = some _ from h); exact h1⟩
  | _, _, i + 1, _, .cons _ h2, h => ElAll.get (vs := _) (ds := _) i h2 h
theorem ElAll.get' {H : Hp} : ∀ {vs : List V} {ds : List (Option PyData)} (i : Nat) {d : Option PyData}, ElAll H vs ds → ds[i]? = some d → ∃ x, vs[i]? = some x ∧ El H x d
  | _, _, i, _, .nil, h => by simp at h
  | _, _, 0, _, .cons h1 _, h => ⟨_, rfl, by cases (show some _ = some _ from h); exact h1⟩
  | _, _, i + 1, _, .cons _ h2, h => ElAll.get' (vs := _) (ds := _) i h2 h
/-- a value that is asked: a list of such items, or no list -/
def Tp (H : Hp) (x : V) : Option (List (Option PyData)) → Prop
  | some es => ∃ a xs, x = .ref a ∧ H a = some (.lst xs) ∧ ElAll H xs es ∧ xs.length ≤ 60
  | none => (∃ d, Dq H x d ∧ isLst d = false) ∨ (∃ a kvs, x = .ref a ∧ H a = some (.dK kvs)) ∨ ∃ a xs, x = .ref a ∧ H a = some (.tup xs)
theorem Tp.same {H H' : Hp} {x : V} {o : Option (List (Option PyData))} (h : Tp H x o) (s : Ex H H') : Tp H' x o := by
  cases o with
  | some es =>
    obtain ⟨a, xs, h1, h2, h3, h4⟩ := h
    exact ⟨a, xs, h1, s _ _ h2, h3.same s, h4⟩
  | none =>
    rcases h with ⟨d, h1, h2⟩ | ⟨a, kvs, h1, h2⟩ | ⟨a, kvs, h1, h2⟩
    · exact Or.inl ⟨d, Dq.same s _ _ h1, h2⟩
    · exact Or.inr (Or.inl ⟨a, kvs, h1, s _ _ h2⟩)
    · exact Or.inr (Or.inr ⟨a, kvs, h1, s _ _ h2⟩)
theorem Tp.isi {K : PySem.W.Frag} {te : TE} {σ : L2.St} {H : Hp} {x : V} {o : Option (List (Option PyData))} (h : Tp H x o) (hx : Ev te σ H x) : Ev (tCB (rIsi K) (tCons te (tCons (tC (.ty "list")) tNil))) σ H (.bl o.isSome) := by
  refine Evl.ev_cb (vs := [x, .ty "list"]) (Evl.ea_cons hx (Evl.ea_cons Evl.ev_c Evl.ea_nil)) fun H1 e Q q => ?_
  have q1 := q H1 (Ex.refl H1)
  cases o with
  | some es =>
    obtain ⟨a, xs, rfl, h2, h3, h4⟩ := h
    exact ⟨_, .ty "list", _, _, true, rfl, .ty _, .base (.lst (e _ _ h2)), kit_ty (by decide +kernel), q1⟩
  | none =>
    rcases h with ⟨d, h1, h2⟩ | ⟨a, kvs, rfl, h2⟩ | ⟨a, kvs, rfl, h2⟩
    · exact ⟨_, .ty "list", _, _, false, rfl, .ty _, (Dq.same e _ _ h1).ty, by rw [kit_lst', h2], q1⟩
    · exact ⟨_, .ty "list", _, _, false, rfl, .ty _, .base (.dK (e _ _ h2)), kit_ty (by decide +kernel), q1⟩
    · exact ⟨_, .ty "list", _, _, false, rfl, .ty _, .base (.tup (e _ _ h2)), kit_ty (by decide +kernel), q1⟩
def elG (g : PyData → Bool) : Option PyData → Bool
  | some d => g d
  | none => false
def spE (g : PyData → Bool) : Sp := fun vs H Q E => spD g vs H Q E ∨ ∃ x, vs = [x] ∧ Opq H x ∧ ∀ H', Ex H H' → Q (.bl false) H'
section
variable {K : PySem.W.Frag} {σ : L2.St} {H H' : Hp} {ta tb te tx : TE} {t u : TT} {x y z v : V} {d e : PyData}
theorem ev_callE {g : PyData → Bool} {E : XK} {o : Option PyData} (h : Ev te σ H x) (ho : El H x o) : Ev (tCall (spE g) [] E (tCons te tNil)) σ H (.bl (elG g o)) := by
  refine Evl.ev_call (vs := [x]) (Evl.ea_cons h Evl.ea_nil) fun H1 e Q q E => ?_
  cases o with
  | some d => exact Or.inl ⟨x, d, rfl, Dq.same e _ _ ho, fun H2 e2 => q H2 e2⟩
  | none => exact Or.inr ⟨x, rfl, Opq.same ho e, fun H2 e2 => q H2 e2⟩
theorem ev_allE {j : Nat} {tl : TE} {a : Addr} {xs : List V} {es : List (Option PyData)} (g : Option PyData → Bool) (h : Ev tl σ H (.ref a)) (ha : H a = some (.lst xs)) (hd : ElAll H xs es) (hz : xs.length ≤ 60)
    (hs : ∀ x o H1, Ex H H1 → El H1 x o → o ∈ es → Ev te ((wipe σ [j]).set j (some x)) H1 (.bl (g o))) :
    Ev (tCB (rAll K) (tCons (tLc (iList K tl) (gName j) tYes te [j]) tNil)) σ H (.bl (es.all g)) := by
  refine Evl.ev_is (ev_allB (bs := es.map g) ?_) (by rw [List.all_map]; rfl)
  refine el_lcLm (K := K) _ h ha (by rw [List.length_map, List.length_map, hd.len]) (by omega) fun i x y H1 R e hx hy k => ?_
  obtain ⟨o, ho, hq⟩ := hd.get i hx
  rw [List.getElem?_map, List.getElem?_map, ho] at hy
  cases (show some (V.bl (g o)) = some y from hy)
  exact k _ wipe_set (hs x o H1 e (hq.same e) (List.mem_of_getElem? ho))
theorem ev_lenX {a : Addr} {xs : List V} (h : Ev te σ H (.ref a)) (ha : H a = some (.lst xs)) : Ev (tCB (Evl.rLenS K) (tCons te tNil)) σ H (.int (xs.length : Int)) :=
  Evl.ev_cb (vs := [.ref a]) (Evl.ea_cons h Evl.ea_nil) fun H1 e Q q => ⟨a, xs, rfl, Or.inl (sq_of (e _ _ ha)), q H1 (Ex.refl H1)⟩
end
end LF

set_option Elab.async false
set_option linter.all false
set_option maxRecDepth 100000
set_option maxHeartbeats 4000000
namespace KD
open PySem PySem.Spec PyProof.Rows L2 LF
open Evl (Ev EvL EvU EvT EvA Ex sq_of st_of)
open PySem.OEX
abbrev s_BadLayout : Stmt := topS 2
abbrev s_binit : Stmt := inClass s_BadLayout 0
theorem sc_binit : FnScope ["self", "joint", "name"] ["self", "joint", "name"] (defScope s_binit) := ⟨rfl, rfl, rfl, by decide +kernel, rfl, by decide +kernel, by decide +kernel⟩
def blFs (j n : V) : List (Str × V) := [("name", n), ("joint", j)]
/-- BadLayout.__init__ -/
def spBL (C : Addr) : Sp := fun vs H Q _ => ∃ (a : Addr) (j n : V), vs = [.ref a, j, n] ∧ H a = some (exo a C none) ∧
  ∀ d, H d = none → d ≠ a → Q .non (upd (upd (upd H d (exd d [("joint", j)])) a (exo a C (some d))) d (exd d (blFs j n)))
/-- the class, for what raises it -/
structure BlTxt (P : Program) (w : World) (K : PySem.W.Frag) (mg : Str → Option Value) (base : Heap) (C fI : Addr) (fd : FuncData) : Prop where
  T : OexC K C
  iC : PySem.W.findIn K (.ref C) "__init__" = some (some (.ref fI))
  tI : PySem.W.typeIn K (.ref fI) = some (.type "function")
  F1 : FnOk P w K mg base CX0 1 fI fd ["self", "joint", "name"] (spBL C)
  hb : L2.Binds K fd ["self", "joint", "name"] []
  gC : mg "BadLayout" = some (.ref C)
section
variable {P : Program} {w : World} {K : PySem.W.Frag} {mg : Str → Option Value} {base : Heap} {tk1 tk2 : Tok}
theorem ok_binit {f C : Addr} {fd : FuncData} (F : Fun K "__init__" "BadLayout.__init__" s_binit f fd) (T : OexC K C) (n1 : PySem.W.findIn K (.ref C) "joint" = some none) (n2 : PySem.W.findIn K (.ref C) "name" = some none) :
    FnOk P w K mg base CX0 1 f fd ["self", "joint", "name"] (spBL C) := by
  refine F.ok sc_binit (fun vs H Q E h => ?_) (fun cdv A outer s H vs Q E hr h => ?_)
  · obtain ⟨a, j, n, rfl, _⟩ := h
    rfl
  refine ⟨_, (pss_cons (ps_ost (pv 0) (pv 1)) (pss_one (ps_ost (pv 0) (pv 2)))), ?_⟩
  obtain ⟨a, j, n, rfl, ha, hq⟩ := h
  refine ⟨_, rfl, _, rfl, a, C, rfl, T, n1, Or.inl ⟨ha, fun d hd nda => ?_⟩⟩
  refine ⟨_, rfl, _, rfl, a, C, rfl, T, n2, Or.inr ⟨d, [("joint", j)], upd_same, by rw [upd_ne nda]; exact upd_same, by show 1 ≤ 900; decide, ?_⟩⟩
  exact hq d hd nda
/-- raise BadLayout(j, n) -/
theorem raise_bl {C : Addr} {H : Hp} {j n : V} {Q : XK} (h : ∀ d H', Ex H H' → H' d = some (.xd (blFs j n)) → Q (.ref C) (some d) H') :
    ∀ a, H a = none → spBL C [.ref a, j, n] (upd H a (exo a C none)) (fun v H2 => v = .non ∧ ∃ (d : Addr) (fs : List (Str × V)), H2 a = some (exo a C (some d)) ∧ H2 d = some (exd d fs) ∧ H d = none ∧ Q (.ref C) (some d) (upd (del H2 a) d (.xd fs))) (fun _ _ _ => False) := fun a ha => by
  refine ⟨a, j, n, rfl, upd_same, fun d hd nda => ⟨rfl, d, _, by rw [upd_ne nda.symm]; exact upd_same, upd_same, by rw [upd_ne nda] at hd; exact hd, ?_⟩⟩
  have hdH : H d = none := by rw [upd_ne nda] at hd; exact hd
  refine h d _ (fun b o hb => ?_) upd_same
  have nbd : b ≠ d := fun z => by rw [z, hdH] at hb; cases hb
  have nba : b ≠ a := fun z => by rw [z, ha] at hb; cases hb
  rw [upd_ne nbd, del_ne nba, upd_ne nbd, upd_ne nba, upd_ne nbd, upd_ne nba]
  exact hb
end
end KD

set_option Elab.async false
set_option linter.all false
set_option maxRecDepth 100000
set_option maxHeartbeats 4000000
namespace LF
open PySem PySem.Spec PyProof.Rows L2
open Evl (Ev EvL EvU EvT EvA EvO Ex sq_of st_of)
/-- the bag of draws, so many drawn at most -/
def BagC (H : Hp) (b : Addr) (N : Nat) : Prop := ∃ d x n : Int, H b = some (.lst [.int d, .int x, .int n]) ∧ 0 ≤ d ∧ 0 ≤ x ∧ x < 2147483648 ∧ 0 ≤ n ∧ n ≤ N
theorem BagC.same {H H' : Hp} {b : Addr} {N : Nat} (h : BagC H b N) (s : Same H H') : BagC H' b N := by
  obtain ⟨d, x, m, e, r⟩ := h
  exact ⟨d, x, m, s _ _ e, r⟩
theorem BagC.ne {H : Hp} {b D : Addr} {N : Nat} (h : BagC H b N) (hD : H D = none) : D ≠ b := by
  obtain ⟨d, x, m, e, r⟩ := h
  exact Ne.symm (ne_of_none e hD)
theorem BagC.more {H : Hp} {b : Addr} {N M : Nat} (h : BagC H b N) (hm : N ≤ M) : BagC H b M := by
  obtain ⟨d, x, m, e, h1, h2, h3, h4, h5⟩ := h
  exact ⟨d, x, m, e, h1, h2, h3, h4, by omega⟩
def spBagC (K : PySem.W.Frag) : Sp := fun vs H Q _ => ∃ (a : Addr) (at' : Int) (ns : List Int), vs = [.ref a, .int at'] ∧ SqL K H a (ns.map V.int) ∧ 0 ≤ at' ∧ at' ≤ 1000 ∧
  ∀ H' p, Same H H' → H p = none → BagC H' p 0 → Q (.ref p) H'
def spTakeC : Sp := fun vs H Q _ => ∃ (b : Addr) (m : Int) (N : Nat), vs = [.ref b, .int m] ∧ BagC H b N ∧ N ≤ 1000000 ∧ 1 ≤ m ∧ m < 1000000 ∧
  ∀ H' r, Keep b H H' → BagC H' b (N + 1) → 0 ≤ r → r < m → Q (.int r) H'
def spPickC (K : PySem.W.Frag) : Sp := fun vs H Q _ => ∃ (b l : Addr) (xs : List V) (N : Nat), vs = [.ref b, .ref l] ∧ BagC H b N ∧ N ≤ 900000 ∧ l ≠ b ∧ SqL K H l xs ∧ 1 ≤ xs.length ∧ xs.length < 1000000 ∧
  ∀ H' v, Keep b H H' → BagC H' b (N + 1) → v ∈ xs → Q v H'
/-! readings that draw from the bag at b, while the objects at B may change -/
def wo (B : List Addr) (H : Hp) : Hp := fun a => if a ∈ B then none else H a
theorem wo_get {B : List Addr} {H : Hp} {a : Addr} {o : HO} (h : wo B H a = some o) : a ∉ B ∧ H a = some o := by
  unfold wo at h
  split at h
  · cases h
  · rename_i n; exact ⟨n, h⟩
theorem wo_put {B : List Addr} {H : Hp} {a : Addr} {o : HO} (n : a ∉ B) (h : H a = some o) : wo B H a = some o := by
  unfold wo
  rw [if_neg n]; exact h
theorem wo_ex {B : List Addr} {H : Hp} : Ex (wo B H) H := fun a o h => (wo_get h).2
theorem wo_keep {b : Addr} {B : List Addr} {H H' : Hp} (hb : b ∈ B) (k : Keep b H H') : Ex (wo B H) (wo B H') := fun a o h => by
  obtain ⟨n, h⟩ := wo_get h
  exact wo_put n (k a o (fun e => n (e ▸ hb)) h)
theorem wo_less {B B' : List Addr} {H : Hp} (h : ∀ a ∈ B', a ∈ B) : Ex (wo B H) (wo B' H) := fun a o e => by
  obtain ⟨n, e⟩ := wo_get e
  exact wo_put (fun m => n (h a m)) e
structure BgAt (b : Addr) (B : List Addr) (N : Nat) (H : Hp) : Prop where
  bag : BagC H b N
  inB : b ∈ B
  live : ∀ a ∈ B, ∃ o, H a = some o
theorem BgAt.keep {b : Addr} {B : List Addr} {H H' : Hp} {N M : Nat} (g : BgAt b B N H) (k : Keep b H H') (h : BagC H' b M) : BgAt b B M H' :=
  ⟨h, g.inB, fun a ha => by
    by_cases e : a = b
    · subst e
      obtain ⟨_, _, _, h, _⟩ := h
      exact ⟨_, h⟩
    · obtain ⟨o, ho⟩ := g.live a ha
      exact ⟨o, k a o e ho⟩⟩
theorem BgAt.new {b : Addr} {B : List Addr} {H : Hp} {N : Nat} {p : Addr} {o : HO} (g : BgAt b B N H) (hp : H p = none) : p ∉ B ∧ BgAt b B N (upd H p o) ∧ Keep b H (upd H p o) := by
  refine ⟨fun m => ?_, g.keep (Same.keep (same_new hp)) (g.bag.same (same_new hp)), Same.keep (same_new hp)⟩
  obtain ⟨o, ho⟩ := g.live p m
  rw [hp] at ho; cases ho
/-- te reads something of which P holds, by m draws at most -/
def EK (b : Addr) (B : List Addr) (m : Nat) (te : TE) (σ : L2.St) (H : Hp) (P : V → Hp → Prop) : Prop := ∀ N H1, N + m ≤ 900000 → Keep b H H1 → BgAt b B N H1 → ∀ Q : VK, (∀ x H2 M, M ≤ N + m → Keep b H1 H2 → BgAt b B M H2 → P x H2 → Q x H2) → te σ H1 Q
def EKA (b : Addr) (B : List Addr) (m : Nat) (ta : TA) (σ : L2.St) (H : Hp) (P : List V → Hp → Prop) : Prop := ∀ N H1, N + m ≤ 900000 → Keep b H H1 → BgAt b B N H1 → ∀ Q : List V → Hp → Prop, (∀ x H2 M, M ≤ N + m → Keep b H1 H2 → BgAt b B M H2 → P x H2 → Q x H2) → ta σ H1 Q
def EKT (b : Addr) (B : List Addr) (m : Nat) (tt : TT) (σ : L2.St) (H : Hp) : Prop := ∀ N H1, N + m ≤ 900000 → Keep b H H1 → BgAt b B N H1 → ∀ Q : Bool → Hp → Prop, (∀ x H2 M, M ≤ N + m → Keep b H1 H2 → BgAt b B M H2 → Q x H2) → tt σ H1 Q
/-- all is as it was, but what stands at B -/
def KeepB (B : List Addr) (H H' : Hp) : Prop := ∀ a o, a ∉ B → H a = some o → H' a = some o
theorem KeepB.refl (B : List Addr) (H : Hp) : KeepB B H H := fun _ _ _ e => e
theorem KeepB.trans {B : List Addr} {H H1 H2 : Hp} (x : KeepB B H H1) (y : KeepB B H1 H2) : KeepB B H H2 := fun a o n e => y a o n (x a o n e)
theorem kb {b : Addr} {B : List Addr} {H H' : Hp} (hb : b ∈ B) (k : Keep b H H') : KeepB B H H' := fun a o n e => k a o (fun z => n (z ▸ hb)) e
theorem wo_keepB {B : List Addr} {H H' : Hp} (k : KeepB B H H') : Ex (wo B H) (wo B H') := fun a o h => by
  obtain ⟨n, h⟩ := wo_get h
  exact wo_put n (k a o n h)
def Stb (B : List Addr) (P : V → Hp → Prop) : Prop := ∀ x H H', P x H → KeepB B H H' → P x H'
def AllG (G : V → Hp → Prop) (n : Nat) : List V → Hp → Prop := fun vs H => (∀ v ∈ vs, G v H) ∧ vs.length = n
def Gd (B : List Addr) : V → Hp → Prop := fun x H => ∃ d, Dq (wo B H) x d
def GE (B : List Addr) : V → Hp → Prop := fun x H => ∃ o, El (wo B H) x o
def Ls (G : V → Hp → Prop) (B : List Addr) (n : Nat) : V → Hp → Prop := fun x H => ∃ p xs, x = .ref p ∧ p ∉ B ∧ H p = some (.lst xs) ∧ AllG G n xs H
section
variable {K : PySem.W.Frag} {b : Addr} {B : List Addr} {σ : L2.St} {H H' : Hp} {ta tb te : TE} {tr : TA} {tt : TT} {x y z v : V} {P P' : V → Hp → Prop} {G : V → Hp → Prop} {n n' m m' N : Nat}
theorem gd_stb : Stb B (Gd B) := fun x H H' ⟨d, h⟩ k => ⟨d, Dq.same (wo_keepB k) _ _ h⟩
theorem ge_stb : Stb B (GE B) := fun x H H' ⟨d, h⟩ k => ⟨d, El.same h (wo_keepB k)⟩
theorem all_stb (h : Stb B G) {vs : List V} (g : AllG G n vs H) (k : KeepB B H H') : AllG G n vs H' := ⟨fun v hv => h v H H' (g.1 v hv) k, g.2⟩
theorem ls_stb (hG : Stb B G) : Stb B (Ls G B n) := fun x H H' ⟨p, xs, e, hp, h, g⟩ k => ⟨p, xs, e, hp, k _ _ hp h, all_stb hG g k⟩
theorem gd_ge (h : Gd B x H) : GE B x H := by obtain ⟨d, h⟩ := h; exact ⟨some d, h⟩
theorem ek_w (h : EK b B m te σ H P) (w : ∀ x H, P x H → P' x H) : EK b B m te σ H P' := fun N H1 l k g Q q => h N H1 l k g Q fun x H2 M lm k2 g2 p => q x H2 M lm k2 g2 (w x H2 p)
theorem ek_ge (h : EK b B m te σ H (Gd B)) : EK b B m te σ H (GE B) := ek_w h fun _ _ => gd_ge
theorem ek_mono (h : EK b B m te σ H P) (k : Keep b H H') : EK b B m te σ H' P := fun N H1 l k1 g Q q => h N H1 l (k.trans k1) g Q q
theorem ek_c (p : ∀ H, P v H) : EK b B 0 (tC v) σ H P := fun N H1 l k g Q q => q v H1 N (Nat.le_refl _) (Keep.refl b H1) g (p H1)
theorem ek_v {i : Nat} (h : σ[i]? = some (some v)) (p : ∀ H1, Keep b H H1 → P v H1) : EK b B 0 (tVar i) σ H P := fun N H1 l k g Q q => ⟨v, h, q v H1 N (Nat.le_refl _) (Keep.refl b H1) g (p H1 k)⟩
theorem gd_non : Gd B .non H := ⟨_, .non⟩
theorem gd_bl (c : Bool) : Gd B (.bl c) H := ⟨_, .bl c⟩
theorem gd_int (i : Int) : Gd B (.int i) H := ⟨_, .int i⟩
theorem gd_str {z : Str} (h : z.length ≤ 1000 ∧ PyData.strOk z = true) : Gd B (.str z) H := ⟨_, .str z h.1 h.2⟩
theorem eka_nil {G : V → Hp → Prop} : EKA b B 0 tNil σ H (AllG G 0) := fun N H1 l k g Q q => q [] H1 N (Nat.le_refl _) (Keep.refl b H1) g ⟨fun v hv => (nomatch hv), rfl⟩
theorem eka_cons (hb : b ∈ B) (hG : Stb B G) (h : EK b B m te σ H G) (hr : EKA b B m' tr σ H (AllG G n)) : EKA b B (m + m') (tCons te tr) σ H (AllG G (n + 1)) := fun N H1 l k g Q q =>
  h N H1 (by omega) k g _ fun x H2 M lm k2 g2 p => hr M H2 (by omega) (k.trans k2) g2 _ fun vs H3 M3 lm3 k3 g3 pr => q (x :: vs) H3 M3 (by omega) (k2.trans k3) g3 ⟨fun v hv => by
    rcases List.mem_cons.mp hv with rfl | hv
    · exact hG _ _ _ p (kb hb k3)
    · exact pr.1 v hv, by rw [List.length_cons, pr.2]⟩
theorem dqAll_of {H : Hp} : ∀ {vs : List V}, (∀ v ∈ vs, ∃ d, Dq H v d) → ∃ ds, DqAll H vs ds
  | [], _ => ⟨[], .nil⟩
  | v :: vs, h => by
    obtain ⟨d, hd⟩ := h v List.mem_cons_self
    obtain ⟨ds, hs⟩ := dqAll_of fun u hu => h u (List.mem_cons_of_mem _ hu)
    exact ⟨d :: ds, .cons hd hs⟩
theorem elAll_of {H : Hp} : ∀ {vs : List V}, (∀ v ∈ vs, ∃ d, El H v d) → ∃ ds, ElAll H vs ds
  | [], _ => ⟨[], .nil⟩
  | v :: vs, h => by
    obtain ⟨d, hd⟩ := h v List.mem_cons_self
    obtain ⟨ds, hs⟩ := elAll_of fun u hu => h u (List.mem_cons_of_mem _ hu)
    exact ⟨d :: ds, .cons hd hs⟩
theorem ek_tup (hb : b ∈ B) (h : EKA b B m tr σ H (AllG (Gd B) n)) (hn : n ≤ 1000) : EK b B m (tTup tr) σ H (Gd B) := fun N H1 l k g Q q =>
  h N H1 l k g _ fun vs H2 M lm k2 g2 p => ⟨Evl.sz_of (by rw [p.2]; omega), fun r hr => by
    obtain ⟨n1, g3, k3⟩ := g2.new (o := .tup vs) hr
    have p3 := all_stb gd_stb p (kb hb k3)
    obtain ⟨ds, hds⟩ := dqAll_of p3.1
    exact q _ _ M lm (k2.trans k3) g3 ⟨.tuple ds, .tup (wo_put n1 upd_same) hds (by rw [p.2]; exact hn)⟩⟩
theorem ek_lstD (hb : b ∈ B) (h : EKA b B m tr σ H (AllG (Gd B) n)) (hn : n ≤ 1000) : EK b B m (tLst tr) σ H (Gd B) := fun N H1 l k g Q q =>
  h N H1 l k g _ fun vs H2 M lm k2 g2 p => ⟨Evl.sz_of (by rw [p.2]; omega), fun r hr => by
    obtain ⟨n1, g3, k3⟩ := g2.new (o := .lst vs) hr
    have p3 := all_stb gd_stb p (kb hb k3)
    obtain ⟨ds, hds⟩ := dqAll_of p3.1
    exact q _ _ M lm (k2.trans k3) g3 ⟨.list ds, .lst (wo_put n1 upd_same) hds (by rw [p.2]; exact hn)⟩⟩
theorem ek_lst (hb : b ∈ B) (hG : Stb B G) (h : EKA b B m tr σ H (AllG G n)) (hn : n ≤ 1000) : EK b B m (tLst tr) σ H (Ls G B n) := fun N H1 l k g Q q =>
  h N H1 l k g _ fun vs H2 M lm k2 g2 p => ⟨Evl.sz_of (by rw [p.2]; omega), fun r hr => by
    obtain ⟨n1, g3, k3⟩ := g2.new (o := .lst vs) hr
    exact q _ _ M lm (k2.trans k3) g3 ⟨r, vs, rfl, n1, upd_same, all_stb hG p (kb hb k3)⟩⟩
theorem ek_dnew : EK b B 0 tDNewK σ H (GE B) := fun N H1 l k g Q q p hp => by
  obtain ⟨n1, g3, k3⟩ := g.new (o := .dK []) hp
  exact q _ _ N (Nat.le_refl _) k3 g3 ⟨none, p, rfl, Or.inr ⟨[], wo_put n1 upd_same⟩⟩
theorem ek_cat (hb : b ∈ B) (hG : Stb B G) (h : EK b B m ta σ H (Ls G B n)) (h' : EK b B m' tb σ H (Ls G B n')) (hn : n + n' ≤ 1000) : EK b B (m + m') (tOp rCat ta tb) σ H (Ls G B (n + n')) := fun N H1 l k g Q q =>
  h N H1 (by omega) k g _ fun x H2 M lm k2 g2 p => h' M H2 (by omega) (k.trans k2) g2 _ fun y H3 M3 lm3 k3 g3 p' => by
    obtain ⟨l1, xs, rfl, n1, hl, gx, lx⟩ := ls_stb hG _ _ _ p (kb hb k3)
    obtain ⟨l2, ys, rfl, n2, hl', gy, ly⟩ := p'
    refine ⟨l1, l2, xs, ys, rfl, rfl, hl, hl', Evl.sz_of (by omega), fun r hr => ?_⟩
    obtain ⟨n3, g4, k4⟩ := g3.new (o := .lst (xs ++ ys)) hr
    refine q _ _ M3 (by omega) ((k2.trans k3).trans k4) g4 ⟨r, xs ++ ys, rfl, n3, upd_same, fun v hv => ?_, by rw [List.length_append, lx, ly]⟩
    rcases List.mem_append.mp hv with hv | hv
    · exact hG _ _ _ (gx v hv) (kb hb k4)
    · exact hG _ _ _ (gy v hv) (kb hb k4)
theorem ek_take {i : Nat} {c : Int} {E : XK} (hi : σ[i]? = some (some (.ref b))) (h1 : 1 ≤ c ∧ c < 1000000) : EK b B 1 (tCall spTakeC [] E (tCons (tVar i) (tCons (tC (.int c)) tNil))) σ H (fun x _ => ∃ r, x = .int r ∧ 0 ≤ r ∧ r < c) := fun N H1 l k g Q q =>
  ⟨_, hi, b, c, N, rfl, g.bag, by omega, h1.1, h1.2, fun H' r k' g' r0 r1 => q _ _ (N + 1) (Nat.le_refl _) k' (g.keep k' g') ⟨r, rfl, r0, r1⟩⟩
theorem ek_pick {i : Nat} {E : XK} (hb : b ∈ B) (hG : Stb B G) (hi : σ[i]? = some (some (.ref b))) (h : EK b B m te σ H (Ls G B n)) (hn : 1 ≤ n ∧ n ≤ 1000) : EK b B (m + 1) (tCall (spPickC K) [] E (tCons (tVar i) (tCons te tNil))) σ H G := fun N H1 l k g Q q =>
  ⟨_, hi, h N H1 (by omega) k g _ fun x H2 M lm k2 g2 p => by
    obtain ⟨l1, xs, rfl, n1, hl, gx, lx⟩ := p
    refine ⟨b, l1, xs, M, rfl, g2.bag, by omega, fun e => n1 (e ▸ hb), SqL.of hl, by omega, by omega, fun H' v k' g' hv => q _ _ (M + 1) (by omega) (k2.trans k') (g2.keep k' g') (hG _ _ _ (gx v hv) (kb hb k'))⟩⟩
theorem ek_neg {i : Int} (p : ∀ H, P (.int (-i)) H) : EK b B 0 (tUn (rU fun i => .int (-i)) (tC (.int i))) σ H P := fun N H1 l k g Q q => ⟨i, rfl, q _ H1 N (Nat.le_refl _) (Keep.refl b H1) g (p H1)⟩
theorem eka_cons0 (hb : b ∈ B) (hG : Stb B G) (h : EK b B 0 te σ H G) (hr : EKA b B 0 tr σ H (AllG G n)) : EKA b B 0 (tCons te tr) σ H (AllG G (n + 1)) := eka_cons hb hG h hr
theorem ek_cat0 (hb : b ∈ B) (hG : Stb B G) (h : EK b B 0 ta σ H (Ls G B n)) (h' : EK b B 0 tb σ H (Ls G B n')) (hn : n + n' ≤ 1000) : EK b B 0 (tOp rCat ta tb) σ H (Ls G B (n + n')) := ek_cat hb hG h h' hn
/-- an item of a list, by a number within -/
theorem ek_ixL (hb : b ∈ B) (hG : Stb B G) (h : EK b B m ta σ H (Ls G B n)) (h' : EK b B m' tb σ H (fun x _ => ∃ r, x = .int r ∧ 0 ≤ r ∧ r < n)) : EK b B (m + m') (tOp (rIxL K) ta tb) σ H G := fun N H1 l k g Q q =>
  h N H1 (by omega) k g _ fun x H2 M lm k2 g2 p => h' M H2 (by omega) (k.trans k2) g2 _ fun y H3 M3 lm3 k3 g3 ⟨r, e, r0, r1⟩ => by
    subst e
    obtain ⟨l1, xs, rfl, n1, hl, gx, lx⟩ := ls_stb hG _ _ _ p (kb hb k3)
    have lt : r.toNat < xs.length := by omega
    have er : r = ((r.toNat : Nat) : Int) := by omega
    have z := atI_nat (xs := xs) (j := r.toNat) (v := xs[r.toNat]) (List.getElem?_eq_getElem lt)
    rw [← er] at z
    exact ⟨l1, xs, r, xs[r.toNat], rfl, rfl, SqL.of hl, z, q _ H3 M3 (by omega) (k2.trans k3) g3 (gx _ (List.getElem_mem lt))⟩
/-- a take compared with a number -/
theorem ekt_take {i : Nat} {c d : Int} {E : XK} (hi : σ[i]? = some (some (.ref b))) (h1 : 1 ≤ c ∧ c < 1000000) : EKT b B 1 (tTest (tOp rEq (tCall spTakeC [] E (tCons (tVar i) (tCons (tC (.int c)) tNil))) (tC (.int d)))) σ H := fun N H1 l k g Q q =>
  ek_take (B := B) (H := H) hi h1 N H1 l k g _ fun x H2 M lm k2 g2 ⟨r, e, _⟩ => by
    subst e
    exact ⟨rfl, _, rfl, q _ H2 M lm k2 g2⟩
variable {D : Ends} {tz : TS}
theorem sk_asg {i : Nat} (g : BgAt b B N H) (hN : N + m ≤ 900000) (h : EK b B m te σ H P) (k : ∀ x H1 M, M ≤ N + m → Keep b H H1 → BgAt b B M H1 → P x H1 → tz D (σ.set i (some x)) H1) : tSeq (tAsg te (gName i)) tz D σ H := h N H hN (Keep.refl b H) g _ k
theorem sk_ret (g : BgAt b B N H) (hN : N + m ≤ 900000) (h : EK b B m te σ H P) (k : ∀ x H1 M, M ≤ N + m → Keep b H H1 → BgAt b B M H1 → P x H1 → D.rt x H1) : tRet te D σ H := h N H hN (Keep.refl b H) g _ k
theorem sk_par {i j : Nat} (g : BgAt b B N H) (hN : N + (m + m') ≤ 900000) (hb : b ∈ B) (hP : Stb B P) (h : EK b B m ta σ H P) (h' : EK b B m' tb σ H P') (k : ∀ x y H1 M, M ≤ N + (m + m') → Keep b H H1 → BgAt b B M H1 → P x H1 → P' y H1 → tz D ((σ.set i (some x)).set j (some y)) H1) :
    tSeq (tPar i j (tCons ta (tCons tb tNil))) tz D σ H :=
  h N H (by omega) (Keep.refl b H) g _ fun x H2 M lm k2 g2 p => h' M H2 (by omega) k2 g2 _ fun y H3 M3 lm3 k3 g3 p' => ⟨x, y, rfl, k x y H3 M3 (by omega) (k2.trans k3) g3 (hP _ _ _ p (kb hb k3)) p'⟩
end
end LF

set_option Elab.async false
set_option linter.all false
set_option maxRecDepth 100000
set_option maxHeartbeats 4000000
namespace KD
open PySem PySem.Spec PyProof.Rows L2 LF
abbrev s__law_bag : Stmt := topS 19
abbrev N__law_bag : List Str := ["_law_script", "_law_at", "_law_cell", "_law_digits"]
theorem sc__law_bag : FnScope ["_law_script", "_law_at", "_law_cell", "_law_digits"] ["_law_script", "_law_at"] (defScope s__law_bag) := ⟨rfl, rfl, rfl, by decide +kernel, rfl, by decide +kernel, by decide +kernel⟩
abbrev s__law_take : Stmt := topS 17
abbrev N__law_take : List Str := ["_law_bag_here", "_law_many", "_law_digit", "_law_mixed"]
theorem sc__law_take : FnScope ["_law_bag_here", "_law_many", "_law_digit", "_law_mixed"] ["_law_bag_here", "_law_many"] (defScope s__law_take) := ⟨rfl, rfl, rfl, by decide +kernel, rfl, by decide +kernel, by decide +kernel⟩
abbrev s__law_pick : Stmt := topS 18
abbrev N__law_pick : List Str := ["_law_bag_here", "_law_items"]
theorem sc__law_pick : FnScope ["_law_bag_here", "_law_items"] ["_law_bag_here", "_law_items"] (defScope s__law_pick) := ⟨rfl, rfl, rfl, by decide +kernel, rfl, by decide +kernel, by decide +kernel⟩
section
variable {P : Program} {w : World} {K : PySem.W.Frag} {mg : Str → Option Value} {base : Heap} {tk1 tk2 : Tok}
theorem ok_take {f : Addr} {fd : FuncData} (F : Fun K "_law_take" "_law_take" s__law_take f fd) (T : Txt K mg tk1 tk2) : FnOk P w K mg base CX0 1 f fd ["_law_bag_here", "_law_many"] spTakeC := by
  refine F.ok sc__law_take (fun vs H Q E h => ?_) (fun cdv A outer s H vs Q E hr h => ?_)
  · obtain ⟨b, m, N, rfl, _⟩ := h
    rfl
  refine ⟨_, (pss_cons (ps_if (pt_cmpR op_gt (pe_ix ix_list (pv 0) pe_int (fun _ _ => rfl)) pe_int (nomark _)) (pss_cons (ps_set (i := 2) sc__law_take.nd rfl (Or.inl rfl) (pe_op op_mod (pe_callTy call_int1 (by rfl) T.n_int (by decide +kernel) (pa_cons (pe_ix ix_list (pv 0) pe_int (fun _ _ => rfl)) pa_nil)) (pv 1)))
    (pss_cons (ps_asg (pe_op op_fdiv (pe_ix ix_list (pv 0) pe_int (fun _ _ => rfl)) (pv 1)) (pg_sub (pv 0) pe_int set_list))
    (pss_one (ps_ret (pv 2))))) pss_nil)
    (pss_cons (ps_asg (pe_op op_add (pe_ix ix_list (pv 0) pe_int (fun _ _ => rfl)) pe_int) (pg_sub (pv 0) pe_int set_list))
    (pss_cons (ps_asg (pe_op op_mod (pe_callTy call_int1 (by rfl) T.n_int (by decide +kernel) (pa_cons (pe_op op_add (pe_op op_add (pe_op op_mul (pe_ix ix_list (pv 0) pe_int (fun _ _ => rfl)) pe_int) (pe_op op_mul (pe_op op_mul pe_int (pe_ix ix_list (pv 0) pe_int (fun _ _ => rfl))) (pe_ix ix_list (pv 0) pe_int (fun _ _ => rfl)))) pe_int) pa_nil)) pe_int) (pg_sub (pv 0) pe_int set_list))
    (pss_cons (ps_set (i := 3) sc__law_take.nd rfl (Or.inl rfl) (pe_op op_mod (pe_callTy call_int1 (by rfl) T.n_int (by decide +kernel) (pa_cons (pe_op op_add (pe_op op_pow (pe_op op_fdiv (pe_ix ix_list (pv 0) pe_int (fun _ _ => rfl)) pe_int) pe_int) (pe_op op_mul pe_int (pe_ix ix_list (pv 0) pe_int (fun _ _ => rfl)))) pa_nil)) pe_int))
    (pss_one (ps_ret (pe_op op_mod (pe_callTy call_int1 (by rfl) T.n_int (by decide +kernel) (pa_cons (pe_op op_fdiv (pv 3) pe_int) pa_nil)) (pv 1)))))))), ?_⟩
  obtain ⟨b, m, N, rfl, ⟨d, x, n, hb, hd, hx0, hx1, hn0, hn1⟩, hN, hm1, hm2, hq⟩ := h
  refine ⟨_, rfl, b, _, _, _, rfl, rfl, SqL.of hb, rfl, _, _, rfl, rfl, _, rfl, ?_⟩
  refine ifD (fun h1 => ?_) (fun h1 => ?_)
  · refine ⟨_, rfl, b, _, _, _, rfl, rfl, SqL.of hb, rfl, Or.inl ⟨_, rfl, ?_⟩⟩
    refine ⟨_, rfl, _, _, rfl, rfl, (by show (0 : Int) < m; omega), ?_⟩
    refine ⟨_, rfl, b, _, _, _, rfl, rfl, SqL.of hb, rfl, _, rfl, _, _, rfl, rfl, ⟨by show (0 : Int) < m; omega, by show m < 1073741824; omega⟩, ?_⟩
    refine ⟨_, rfl, b, _, _, _, rfl, rfl, hb, rfl, ?_⟩
    refine ⟨_, rfl, ?_⟩
    refine hq _ _ (keep_put (Keep.refl b H)) ⟨d / m, x, n, upd_same, ?_, hx0, hx1, hn0, by omega⟩ (Int.emod_nonneg _ (by omega)) (Int.emod_lt_of_pos _ (by omega))
    exact Int.ediv_nonneg hd (by omega)
  · refine ⟨_, rfl, b, _, _, _, rfl, rfl, SqL.of hb, rfl, _, _, rfl, rfl, ?_⟩
    refine ⟨_, rfl, b, _, _, _, rfl, rfl, hb, rfl, ?_⟩
    have p64 : (2 : Int) ^ 64 = 18446744073709551616 := by decide
    refine ⟨_, rfl, b, _, _, _, rfl, rfl, SqL.of upd_same, rfl, _, _, rfl, rfl, Or.inr ⟨by decide, by decide⟩, ?_⟩
    refine ⟨_, rfl, b, _, _, _, rfl, rfl, SqL.of upd_same, rfl, _, _, rfl, rfl, Or.inl ⟨by decide, by decide⟩, ?_⟩
    refine ⟨_, rfl, b, _, _, _, rfl, rfl, SqL.of upd_same, rfl, _, _, rfl, rfl, Or.inl ⟨by show -(2 ^ 64 : Int) < 7919 * (n + 1); omega, by show 7919 * (n + 1) < (2 ^ 64 : Int); omega⟩, ?_⟩
    refine ⟨_, _, rfl, rfl, ?_⟩
    refine ⟨_, _, rfl, rfl, ?_⟩
    refine Or.inl ⟨_, rfl, ?_⟩
    refine ⟨_, _, rfl, rfl, (by show (0 : Int) < 2147483647; decide), ?_⟩
    refine ⟨_, rfl, b, _, _, _, rfl, rfl, upd_same, rfl, ?_⟩
    have n1 := Int.emod_nonneg (x * 69621 + 7919 * (n + 1) * (n + 1) + 31) (show (2147483647 : Int) ≠ 0 by decide)
    have n2 := Int.emod_lt_of_pos (x * 69621 + 7919 * (n + 1) * (n + 1) + 31) (show (0 : Int) < 2147483647 by decide)
    refine ⟨_, rfl, b, _, _, _, rfl, rfl, SqL.of upd_same, rfl, _, _, rfl, rfl, ⟨by decide, by decide⟩, ?_⟩
    have q1 : ((x * 69621 + 7919 * (n + 1) * (n + 1) + 31) % 2147483647 / 16).natAbs < 2 ^ 64 := by
      generalize (x * 69621 + 7919 * (n + 1) * (n + 1) + 31) % 2147483647 = y at n1 n2
      have h8 : 0 ≤ y / 16 ∧ y / 16 < 2147483647 := by omega
      have h7 : (2 : Nat) ^ 64 = 18446744073709551616 := by decide
      omega
    refine ⟨_, _, rfl, rfl, ⟨by decide, by decide, q1⟩, ?_⟩
    refine ⟨_, rfl, b, _, _, _, rfl, rfl, SqL.of upd_same, rfl, _, _, rfl, rfl, Or.inl ⟨by decide, by decide⟩, ?_⟩
    refine ⟨_, _, rfl, rfl, ?_⟩
    refine Or.inl ⟨_, rfl, ?_⟩
    refine ⟨_, _, rfl, rfl, (by show (0 : Int) < 2147483587; decide), ?_⟩
    refine ⟨_, rfl, _, _, rfl, rfl, ⟨by decide, by decide⟩, ?_⟩
    refine Or.inl ⟨_, rfl, ?_⟩
    refine ⟨_, rfl, _, _, rfl, rfl, (by show (0 : Int) < m; omega), ?_⟩
    exact hq _ _ (keep_put (keep_put (Keep.refl b H))) ⟨_, _, _, upd_same, hd, n1, Int.lt_trans n2 (by decide), by omega, by omega⟩ (Int.emod_nonneg _ (by omega)) (Int.emod_lt_of_pos _ (by omega))
theorem ok_pick {f f1 : Addr} {fd fd1 : FuncData} (F : Fun K "_law_pick" "_law_pick" s__law_pick f fd) (T : Txt K mg tk1 tk2) (d__law_take : DefAt P w K mg base "_law_take" 1 f1 fd1 ["_law_bag_here", "_law_many"] spTakeC) :
    FnOk P w K mg base CX0 2 f fd ["_law_bag_here", "_law_items"] (spPickC K) := by
  refine F.ok sc__law_pick (fun vs H Q E h => ?_) (fun cdv A outer s H vs Q E hr h => ?_)
  · obtain ⟨b, l, xs, N, rfl, _⟩ := h
    rfl
  refine ⟨_, (pss_one (ps_ret (pe_ix ix_list (pv 1) (pe_callD d__law_take (hr.mono (by decide)) (pa_cons (pv 0) (pa_cons (pe_callB call_len_seq (by rfl) T.n_len (by decide +kernel) (pa_cons (pv 1) pa_nil)) pa_nil))) (fun _ _ => rfl)))), ?_⟩
  obtain ⟨b, l, xs, N, rfl, hb, hN, hlb, hl, h1, h2, hq⟩ := h
  refine ⟨_, rfl, _, rfl, _, rfl, l, _, rfl, Or.inl hl, ?_⟩
  refine ⟨b, _, N, rfl, hb, by omega, by omega, by omega, fun H' r kp bg r0 r1 => ?_⟩
  have lt : r.toNat < xs.length := by omega
  have e : r = ((r.toNat : Nat) : Int) := by omega
  have z := atI_nat (xs := xs) (j := r.toNat) (v := xs[r.toNat]) (List.getElem?_eq_getElem lt)
  rw [← e] at z
  exact ⟨l, _, _, _, rfl, rfl, keep_seq kp hlb hl, z, hq H' _ kp bg (List.getElem_mem lt)⟩
theorem md (e : Int) : 0 ≤ e % 2147483629 + 1 ∧ e % 2147483629 + 1 < 2147483648 := by
  have n1 := Int.emod_nonneg e (show (2147483629 : Int) ≠ 0 by decide)
  have n2 := Int.emod_lt_of_pos e (show (0 : Int) < 2147483629 by decide)
  omega
theorem absNN (c : Int) : 0 ≤ (if c < 0 then -c else c) := by split <;> omega
theorem ok_bag {f : Addr} {fd : FuncData} (F : Fun K "_law_bag" "_law_bag" s__law_bag f fd) (T : Txt K mg tk1 tk2) : FnOk P w K mg base CX0 1 f fd ["_law_script", "_law_at"] (spBagC K) := by
  refine F.ok sc__law_bag (fun vs H Q E h => ?_) (fun cdv A outer s H vs Q E hr h => ?_)
  · obtain ⟨a, at', ns, rfl, _⟩ := h
    rfl
  refine ⟨_, (pss_cons (ps_set (i := 2) sc__law_bag.nd rfl (Or.inl rfl) (pe_ifExp (pt_cmpR op_lt (pv 1) (pe_callB call_len_seq (by rfl) T.n_len (by decide +kernel) (pa_cons (pv 0) pa_nil)) (nomark _)) (pe_ix ix_list (pv 0) (pv 1) (fun _ _ => rfl)) pe_int))
    (pss_cons (ps_set (i := 3) sc__law_bag.nd rfl (Or.inl rfl) (pe_ifExp (pt_cmpR op_ge (pe_callB call_abs (by rfl) T.n_abs (by decide +kernel) (pa_cons (pv 2) pa_nil)) (pe_op op_pow pe_int pe_int) (nomark _)) (pe_callB call_abs (by rfl) T.n_abs (by decide +kernel) (pa_cons (pv 2) pa_nil)) pe_int))
    (pss_one (ps_ret (pe_lst (pa_cons (pv 3) (pa_cons (pe_op op_add (pe_op op_mod (pe_callTy call_int1 (by rfl) T.n_int (by decide +kernel) (pa_cons (pe_op op_add (pe_op op_add (pe_op op_add (pe_op op_mul (pv 2) pe_int) (pe_op op_mul (pe_op op_mul pe_int (pv 1)) (pv 1))) (pe_op op_mul pe_int (pv 1))) pe_int) pa_nil)) pe_int) pe_int) (pa_cons pe_int pa_nil)))))))), ?_⟩
  obtain ⟨a, at', ns, rfl, hS, hat, hat2, hq⟩ := h
  have p64 : (2 : Int) ^ 64 = 18446744073709551616 := by decide
  refine ⟨_, rfl, _, rfl, a, _, rfl, Or.inl hS, _, _, rfl, rfl, _, rfl, ?_⟩
  refine ifD (fun h1 => ?_) (fun h1 => ?_)
  · rw [List.length_map] at h1
    have h2 : at'.toNat < ns.length := by omega
    have hix : atI (ns.map V.int) at' = some (.int ns[at'.toNat]) := by
      have e : at' = ((at'.toNat : Nat) : Int) := by omega
      have z := atI_nat (xs := ns.map V.int) (j := at'.toNat) (v := .int ns[at'.toNat]) (by rw [List.getElem?_map, List.getElem?_eq_getElem h2]; rfl)
      rw [← e] at z
      exact z
    refine ⟨_, rfl, _, rfl, a, _, _, .int ns[at'.toNat], rfl, rfl, hS, hix, ?_⟩
    refine ⟨_, rfl, _, rfl, _, _, rfl, rfl, ⟨by decide, by decide, by decide⟩, _, _, rfl, rfl, _, rfl, ?_⟩
    refine ifD (fun _ => ⟨_, rfl, _, rfl, ?_⟩) (fun _ => ?_)
    all_goals
      refine ⟨_, rfl, _, rfl, _, _, rfl, rfl, Or.inr ⟨by decide, by decide⟩, ?_⟩
      refine ⟨_, rfl, _, _, rfl, rfl, Or.inl ⟨by decide, by decide⟩, ?_⟩
      refine ⟨_, rfl, _, _, rfl, rfl, Or.inr ⟨by show -(2 ^ 64 : Int) < at'; omega, by show at' < (2 ^ 64 : Int); omega⟩, ?_⟩
      refine ⟨_, _, rfl, rfl, _, rfl, _, _, rfl, rfl, Or.inl ⟨by decide, by decide⟩, ?_⟩
      refine ⟨_, _, rfl, rfl, _, _, rfl, rfl, Or.inl ⟨_, rfl, ?_⟩⟩
      refine ⟨_, _, rfl, rfl, (by show (0 : Int) < 2147483629; decide), _, _, rfl, rfl, ?_⟩
      exact ⟨(by show 3 ≤ sizeLine; decide), fun p hp => hq _ p (same_new hp) hp ⟨_, _, 0, upd_same, by first | exact absNN _ | exact Int.le_refl 0, (md _).1, (md _).2, by decide, by decide⟩⟩
  · refine ⟨_, rfl, _, rfl, _, _, rfl, rfl, ⟨by decide, by decide, by decide⟩, _, _, rfl, rfl, _, rfl, ?_⟩
    refine ifD (fun _ => ⟨_, rfl, _, rfl, ?_⟩) (fun _ => ?_)
    all_goals
      refine ⟨_, rfl, _, rfl, _, _, rfl, rfl, Or.inr ⟨by decide, by decide⟩, ?_⟩
      refine ⟨_, rfl, _, _, rfl, rfl, Or.inl ⟨by decide, by decide⟩, ?_⟩
      refine ⟨_, rfl, _, _, rfl, rfl, Or.inr ⟨by show -(2 ^ 64 : Int) < at'; omega, by show at' < (2 ^ 64 : Int); omega⟩, ?_⟩
      refine ⟨_, _, rfl, rfl, _, rfl, _, _, rfl, rfl, Or.inl ⟨by decide, by decide⟩, ?_⟩
      refine ⟨_, _, rfl, rfl, _, _, rfl, rfl, Or.inl ⟨_, rfl, ?_⟩⟩
      refine ⟨_, _, rfl, rfl, (by show (0 : Int) < 2147483629; decide), _, _, rfl, rfl, ?_⟩
      exact ⟨(by show 3 ≤ sizeLine; decide), fun p hp => hq _ p (same_new hp) hp ⟨_, _, 0, upd_same, by first | exact absNN _ | exact Int.le_refl 0, (md _).1, (md _).2, by decide, by decide⟩⟩
end
end KD

set_option Elab.async false
set_option linter.all false
set_option maxRecDepth 100000
set_option maxHeartbeats 4000000
namespace LF
open PySem PySem.Spec PyProof.Rows L2
open Evl (Ev EvL EvU EvT EvA EvO Ex sq_of st_of)
section
variable {κ : Type} [DecidableEq κ]
theorem mem_put {kvs : List (κ × V)} {k : κ} {v : V} {e : κ × V} (h : e ∈ putK kvs k v) : e = (k, v) ∨ e ∈ kvs := by
  unfold putK at h
  split at h
  · obtain ⟨a, ha, rfl⟩ := List.mem_map.mp h
    split
    · rename_i c; exact Or.inl (by rw [c])
    · exact Or.inr ha
  · rcases List.mem_append.mp h with h | h
    · exact Or.inr h
    · exact Or.inl (List.mem_singleton.mp h)
theorem len_put {kvs : List (κ × V)} {k : κ} {v : V} : (putK kvs k v).length ≤ kvs.length + 1 := by
  unfold putK
  split
  · rw [List.length_map]; omega
  · rw [List.length_append]; simp
theorem keys_put {kvs : List (κ × V)} {k : κ} {v : V} (h : k ∈ kvs.map (·.1)) : (putK kvs k v).map (·.1) = kvs.map (·.1) := by
  have : (kvs.any fun kv => decide (kv.1 = k)) = true := by
    obtain ⟨a, ha, e⟩ := List.mem_map.mp h
    exact List.any_eq_true.mpr ⟨a, ha, decide_eq_true e⟩
  unfold putK
  rw [if_pos this, List.map_map]
  refine List.map_congr_left fun a _ => ?_
  show (if a.1 = k then (a.1, v) else a).1 = a.1
  split <;> rfl
theorem val_mem {kvs : List (κ × V)} {k : κ} {v : V} (h : valV kvs k = some v) : (k, v) ∈ kvs := by
  unfold valV at h
  obtain ⟨p, hp, e⟩ := Option.map_eq_some_iff.mp h
  have h1 := List.find?_some hp
  have h2 := List.mem_of_find?_eq_some hp
  have h3 : p.1 = k := of_decide_eq_true h1
  rw [← h3, ← e]; exact h2
theorem val_some {kvs : List (κ × V)} {k : κ} (h : k ∈ kvs.map (·.1)) : ∃ v, valV kvs k = some v ∧ (k, v) ∈ kvs := by
  cases hv : valV kvs k with
  | some v => exact ⟨v, rfl, val_mem hv⟩
  | none =>
    obtain ⟨a, ha, e⟩ := List.mem_map.mp h
    unfold valV at hv
    rw [Option.map_eq_none_iff, List.find?_eq_none] at hv
    exact absurd (decide_eq_true e) (hv a ha)
end
theorem merge_cons (acc : List (Key × V)) (p : Key × V) (r : List (Key × V)) : mergeK acc (p :: r) = mergeK (putK acc p.1 p.2) r := rfl
theorem mem_merge : ∀ {kvs acc : List (Key × V)} {e : Key × V}, e ∈ mergeK acc kvs → e ∈ acc ∨ e ∈ kvs
  | [], acc, e, h => Or.inl h
  | p :: r, acc, e, h => by
    rw [merge_cons] at h
    rcases mem_merge h with h | h
    · rcases mem_put h with h | h
      · exact Or.inr (by rw [h]; exact List.mem_cons_self)
      · exact Or.inl h
    · exact Or.inr (List.mem_cons_of_mem _ h)
theorem len_merge : ∀ {kvs acc : List (Key × V)}, (mergeK acc kvs).length ≤ acc.length + kvs.length
  | [], acc => Nat.le_refl _
  | p :: r, acc => by
    rw [merge_cons]
    have h1 := len_merge (kvs := r) (acc := putK acc p.1 p.2)
    have h2 := len_put (kvs := acc) (k := p.1) (v := p.2)
    rw [List.length_cons]; omega
theorem merge_val {G : V → Prop} : ∀ {kvs acc : List (Key × V)} {k : Key}, (∀ kv ∈ kvs, G kv.2) → (k ∈ kvs.map (·.1) ∨ ∃ v, valV acc k = some v ∧ G v) → ∃ v, valV (mergeK acc kvs) k = some v ∧ G v
  | [], acc, k, _, h => h.elim (fun m => by simp at m) id
  | p :: r, acc, k, hg, h => by
    rw [merge_cons]
    refine merge_val (fun kv m => hg kv (List.mem_cons_of_mem _ m)) ?_
    by_cases e : k = p.1
    · exact Or.inr ⟨p.2, by rw [valV_put, if_pos e], hg p List.mem_cons_self⟩
    · rcases h with h | ⟨v, hv, gv⟩
      · rw [List.map_cons] at h
        rcases List.mem_cons.mp h with h | h
        · exact absurd h e
        · exact Or.inl h
      · exact Or.inr ⟨v, by rw [valV_put, if_neg e]; exact hv, gv⟩
/-- a dict with keys of its own: none twice -/
theorem nodup_put {κ : Type} [DecidableEq κ] {kvs : List (κ × V)} {k : κ} {v : V} (h : (kvs.map (·.1)).Nodup) : ((putK kvs k v).map (·.1)).Nodup := by
  by_cases hk : k ∈ kvs.map (·.1)
  · rw [keys_put hk]; exact h
  · have hn : valV kvs k = none := by
      cases hv : valV kvs k with
      | none => rfl
      | some v => exact absurd (List.mem_map.mpr ⟨_, val_mem hv, rfl⟩) hk
    rw [putK_new v hn, List.map_append]
    refine List.nodup_append.mpr ⟨h, by simp, fun a ha b hb => ?_⟩
    rw [List.map_cons, List.map_nil, List.mem_singleton] at hb
    have hb2 : b = k := hb
    intro e; exact hk (by rw [← hb2, ← e]; exact ha)
theorem nodup_merge : ∀ {kvs acc : List (Key × V)}, (acc.map (·.1)).Nodup → ((mergeK acc kvs).map (·.1)).Nodup
  | [], _, h => h
  | p :: r, acc, h => by rw [merge_cons]; exact nodup_merge (nodup_put h)
end LF

set_option Elab.async false
set_option linter.all false
set_option maxRecDepth 100000
set_option maxHeartbeats 4000000
namespace KD
open PySem PySem.Spec PyProof.Rows L2 LF
open Evl (Ex sq_of st_of)
/-- a short text, an int -/
def okS : V → Hp → Prop := fun x _ => ∃ z : Str, x = .str z ∧ z.length ≤ 8 ∧ PyData.strOk z = true
def okI : V → Hp → Prop := fun x _ => ∃ i : Int, x = .int i
def okA : V → Hp → Prop := fun _ _ => True
theorem okS_stb {B : List Addr} : Stb B okS := fun _ _ _ h _ => h
theorem okI_stb {B : List Addr} : Stb B okI := fun _ _ _ h _ => h
theorem okA_stb {B : List Addr} : Stb B okA := fun _ _ _ h _ => h
def okN : V → Hp → Prop := fun x _ => ∃ z : Str, x = .str z ∧ isNm z = true ∧ PyData.strOk z = true
theorem okN_stb {B : List Addr} : Stb B okN := fun _ _ _ h _ => h
/-- the words drawn: the dict at p -/
def Wd (B : List Addr) (p : Addr) (H : Hp) : Prop := ∃ kvs vf vi vk lc cs, H p = some (.dK kvs) ∧ p ∉ B ∧ valV kvs (.inr "folders") = some vf ∧ valV kvs (.inr "files") = some vi ∧ valV kvs (.inr "packages") = some vk ∧ valV kvs (.inr "contents") = some (.ref lc) ∧
  Ls okN B 3 vf H ∧ Ls okN B 3 vk H ∧ lc ∉ B ∧ H lc = some (.dK cs) ∧ Ls (fun x _ => ∃ z, x = .str z ∧ isNm z = true ∧ PyData.strOk z = true ∧ ∃ i, valV cs (.inr z) = some (.int i)) B 2 vi H
theorem Wd.stb {B : List Addr} {p : Addr} {H H' : Hp} (h : Wd B p H) (k : KeepB B H H') : Wd B p H' := by
  obtain ⟨kvs, vf, vi, vk, lc, cs, h1, h2, h3, h4, h5, h6, h7, h8, h9, h10, h11⟩ := h
  exact ⟨kvs, vf, vi, vk, lc, cs, k _ _ h2 h1, h2, h3, h4, h5, h6, ls_stb okN_stb _ _ _ h7 k, ls_stb okN_stb _ _ _ h8 k, h9, k _ _ h9 h10, ls_stb (fun _ _ _ h _ => h) _ _ _ h11 k⟩
def spWords : Sp := fun vs H Q _ => ∃ (b : Addr) (N : Nat), vs = [.ref b] ∧ BagC H b N ∧ N ≤ 800000 ∧ ∀ H' p M, M ≤ N + 4 → Keep b H H' → BagC H' b M → Wd [b] p H' → Q (.ref p) H'
theorem bgAt1 {b : Addr} {N : Nat} {H : Hp} (h : BagC H b N) : BgAt b [b] N H := ⟨h, List.mem_singleton.mpr rfl, fun a ha => by
  rw [List.mem_singleton.mp ha]
  obtain ⟨_, _, _, e, _⟩ := h
  exact ⟨_, e⟩⟩
theorem Ls_less {G : V → Hp → Prop} {B B' : List Addr} {n : Nat} {x : V} {H : Hp} (h : ∀ a ∈ B', a ∈ B) (l : Ls G B n x H) : Ls G B' n x H := by
  obtain ⟨p, xs, e, hp, r⟩ := l
  exact ⟨p, xs, e, fun m => hp (h p m), r⟩
theorem sk_dput {b p : Addr} {B : List Addr} {σ : L2.St} {H : Hp} {N m i : Nat} {tv : TE} {tz : TS} {D : Ends} {key : Str} {kvs : List (Key × V)} {P : V → Hp → Prop} (g : BgAt b B N H) (hN : N + m ≤ 900000) (hp : p ∈ B) (np : p ≠ b) (hi : σ[i]? = some (some (.ref p))) (hd : H p = some (.dK kvs)) (hl : kvs.length < 100)
    (hP : Stb B P) (h : EK b B m tv σ H P) (k : ∀ v H2 M, M ≤ N + m → BgAt b B M H2 → KeepB B H H2 → (∀ a o, a ≠ b → a ≠ p → H a = some o → H2 a = some o) → H2 p = some (.dK (putK kvs (.inr key) v)) → P v H2 → tz D σ H2) :
    tSeq (sDPut (tVar i) (tC (.str key)) tv) tz D σ H :=
  h N H hN (Keep.refl b H) g _ fun v H1 M lm k1 g1 pv => ⟨_, hi, p, _, rfl, DPut.k (k := .inr key) (k1 _ _ np hd) (Nat.lt_of_lt_of_le hl (by decide)), by
    have kk : KeepB B H1 (upd H1 p (.dK (putK kvs (.inr key) v))) := fun a u n e => by
      rw [upd_ne (fun z => n (by rw [z]; exact hp))]; exact e
    refine k v _ M lm ⟨?_, g1.inB, fun a ha => ?_⟩ ((kb g1.inB k1).trans kk) (fun a o n1 n2 e => by rw [upd_ne n2]; exact k1 a o n1 e) upd_same (hP _ _ _ pv kk)
    · obtain ⟨d, x, n, e, r⟩ := g1.bag
      exact ⟨d, x, n, by rw [upd_ne np.symm]; exact e, r⟩
    · by_cases e : a = p
      · subst e; exact ⟨_, upd_same⟩
      · obtain ⟨u, hu⟩ := g1.live a ha
        exact ⟨u, by rw [upd_ne e]; exact hu⟩⟩
def w0 (vf : V) : List (Key × V) := [(.inr "folders", vf)]
def w1 (vf vi : V) : List (Key × V) := [(.inr "folders", vf), (.inr "files", vi)]
def w2 (vf vi vk : V) : List (Key × V) := [(.inr "folders", vf), (.inr "files", vi), (.inr "packages", vk)]
theorem pw0 (vf : V) : putK ([] : List (Key × V)) (.inr "folders") vf = w0 vf := rfl
theorem kne {a b : Str} (h : a ≠ b) : ¬ ((Sum.inr a : Key) = Sum.inr b) := fun e => h (Sum.inr.inj e)
theorem n1 : ("folders" : Str) ≠ "files" := by decide +kernel
theorem n2 : ("folders" : Str) ≠ "packages" := by decide +kernel
theorem n3 : ("files" : Str) ≠ "packages" := by decide +kernel
theorem n4 : ("folders" : Str) ≠ "contents" := by decide +kernel
theorem n5 : ("files" : Str) ≠ "contents" := by decide +kernel
theorem n6 : ("packages" : Str) ≠ "contents" := by decide +kernel
theorem pw1 (vf vi : V) : putK (w0 vf) (.inr "files") vi = w1 vf vi := by simp [putK, w0, w1, kne n1]
theorem pw2 (vf vi vk : V) : putK (w1 vf vi) (.inr "packages") vk = w2 vf vi vk := by simp [putK, w1, w2, kne n2, kne n3]
theorem vw3 (vf vi vk : V) : valV (w2 vf vi vk) (.inr "files") = some vi := by simp [valV, w2, kne n1]
theorem paired_of {α β : Type} {F : α → β → Prop} : ∀ L : List (α × β), (∀ e ∈ L, F e.1 e.2) → Paired F (L.map (·.1)) (L.map (·.2))
  | [], _ => .nil
  | e :: L, h => .cons (h e List.mem_cons_self) (paired_of L fun x hx => h x (List.mem_cons_of_mem _ hx))
theorem vw1 (vf vi : V) : valV (w1 vf vi) (.inr "files") = some vi := by simp [valV, w1, kne n1]
theorem vw2 (vf vi vk vc : V) : valV (putK (w2 vf vi vk) (.inr "contents") vc) (.inr "folders") = some vf ∧ valV (putK (w2 vf vi vk) (.inr "contents") vc) (.inr "packages") = some vk ∧ valV (putK (w2 vf vi vk) (.inr "contents") vc) (.inr "files") = some vi ∧ valV (putK (w2 vf vi vk) (.inr "contents") vc) (.inr "contents") = some vc := by
  refine ⟨?_, ?_, ?_, ?_⟩ <;> simp [putK, valV, w2, kne n4, kne n5, kne n6, kne n2, kne n3, kne n1]
abbrev s__law_words : Stmt := topS 20
abbrev N__law_words : List Str := ["_law_bag_here", "_law_way", "_law_words_here", "_law_some", "_law_name"]
theorem sc__law_words : FnScope ["_law_bag_here", "_law_way", "_law_words_here", "_law_some", "_law_name"] ["_law_bag_here"] (defScope s__law_words) := ⟨rfl, rfl, rfl, by decide +kernel, rfl, by decide +kernel, by decide +kernel⟩
section
variable {P : Program} {w : World} {K : PySem.W.Frag} {mg : Str → Option Value} {base : Heap} {tk1 tk2 : Tok}
theorem ok_words {f f1 f2 : Addr} {fd fd1 fd2 : FuncData} (F : Fun K "_law_words" "_law_words" s__law_words f fd) (T : Txt K mg tk1 tk2) (d__law_take : DefAt P w K mg base "_law_take" 1 f1 fd1 ["_law_bag_here", "_law_many"] spTakeC)
    (d__law_pick : DefAt P w K mg base "_law_pick" 2 f2 fd2 ["_law_bag_here", "_law_items"] (spPickC K)) : FnOk P w K mg base CX0 3 f fd ["_law_bag_here"] spWords := by
  refine F.ok sc__law_words (fun vs H Q E h => ?_) (fun cdv A outer s H vs Q E hr h => ?_)
  · obtain ⟨b, N, rfl, _⟩ := h
    rfl
  have hu1 := hu_of hr
  refine ⟨_, (pss_cons (ps_par (i := 1) (j := 2) (by rfl) sc__law_words.nd rfl rfl (by decide) rfl rfl (pa_cons (pe_callD d__law_take (hr.mono (by decide)) (pa_cons (pv 0) (pa_cons pe_int pa_nil))) (pa_cons pe_dnewK pa_nil)) (by rfl))
    (pss_cons (ps_dput hu1 (pv 2) pe_str (pe_ix ix_list (pe_lst (pa_cons (pe_lst (pa_cons pe_str (pa_cons pe_str (pa_cons pe_str pa_nil)))) (pa_cons (pe_lst (pa_cons pe_str (pa_cons pe_str (pa_cons pe_str pa_nil)))) (pa_cons (pe_lst (pa_cons pe_str (pa_cons pe_str (pa_cons pe_str pa_nil)))) (pa_cons (pe_lst (pa_cons pe_str (pa_cons pe_str (pa_cons pe_str pa_nil)))) pa_nil))))) (pv 1) (fun _ _ => rfl)) rfl)
    (pss_cons (ps_dput hu1 (pv 2) pe_str (pe_ix ix_list (pe_lst (pa_cons (pe_lst (pa_cons pe_str (pa_cons pe_str pa_nil))) (pa_cons (pe_lst (pa_cons pe_str (pa_cons pe_str pa_nil))) (pa_cons (pe_lst (pa_cons pe_str (pa_cons pe_str pa_nil))) (pa_cons (pe_lst (pa_cons pe_str (pa_cons pe_str pa_nil))) pa_nil))))) (pv 1) (fun _ _ => rfl)) rfl)
    (pss_cons (ps_dput hu1 (pv 2) pe_str (pe_ix ix_list (pe_lst (pa_cons (pe_lst (pa_cons pe_str (pa_cons pe_str (pa_cons pe_str pa_nil)))) (pa_cons (pe_lst (pa_cons pe_str (pa_cons pe_str (pa_cons pe_str pa_nil)))) (pa_cons (pe_lst (pa_cons pe_str (pa_cons pe_str (pa_cons pe_str pa_nil)))) pa_nil)))) (pe_callD d__law_take (hr.mono (by decide)) (pa_cons (pv 0) (pa_cons pe_int pa_nil))) (fun _ _ => rfl)) rfl)
    (pss_cons (ps_set (i := 3) sc__law_words.nd rfl (Or.inr rfl) (pe_lst (pa_cons pe_int (pa_cons pe_int (pa_cons pe_int (pa_cons (pe_un un_neg pe_int) (pa_cons (pe_op op_sub (pe_op op_pow pe_int pe_int) pe_int) (pa_cons (pe_op op_sub pe_int (pe_op op_pow pe_int pe_int)) pa_nil))))))))
    (pss_cons (ps_dput hu1 (pv 2) pe_str (pe_callTy (call_dictP rfl) (by rfl) T.n_dict (by decide +kernel) (pa_cons (pe_lc (own := [("_law_name", 4)]) rfl sc__law_words.nd (pi_list (pe_dget hu1 (pv 2) pe_str (fun _ _ => rfl))) (blkOk_by (N := N__law_words) (sc := defScope s__law_words) (by decide +kernel)) (fun _ _ _ _ _ => pg_name (i := 4) sc__law_words.nd rfl (Or.inl rfl)) (fun _ _ _ _ _ => pts_nil) (fun _ _ _ _ _ => (pe_tup (pa_cons (pv 4) (pa_cons (pe_callD d__law_pick (hr.mono (by decide)) (pa_cons (pv 0) (pa_cons (pv 3) pa_nil))) pa_nil))))) pa_nil)) rfl)
    (pss_one (ps_ret (pv 2))))))))), ?_⟩
  obtain ⟨b, N, rfl, hbag, hN, hq⟩ := h
  have hb : b ∈ [b] := List.mem_singleton.mpr rfl
  refine sk_par (B := [b]) (m := 1) (m' := 0) (bgAt1 hbag) (by omega) hb (fun _ _ _ h _ => h) (ek_take (c := 4) rfl (by decide)) (P' := fun x H' => ∃ p, x = .ref p ∧ H' p = some (.dK []) ∧ p ∉ [b] ∧ ∀ a o, a ≠ b → H a = some o → a ≠ p) (fun N H1 l k g Q q p hp => by
    obtain ⟨n1, g3, k3⟩ := g.new (o := .dK []) hp
    exact q _ _ N (Nat.le_refl _) k3 g3 ⟨p, rfl, upd_same, n1, fun a o na e z => by
      have z1 := k a o na e
      rw [z, hp] at z1; cases z1⟩) fun x y H1 M1 l1 k1 g1 ⟨r, ex, r0, r1⟩ ⟨p, ey, hp, np, fresh⟩ => ?_
  subst ex
  subst ey
  have np' : p ≠ b := fun e => np (List.mem_singleton.mpr e)
  have G1 : BgAt b [b, p] M1 H1 := ⟨g1.bag, List.mem_cons_self, fun a ha => by
    rcases List.mem_cons.mp ha with rfl | ha
    · exact g1.live _ hb
    · rw [List.mem_singleton.mp ha]; exact ⟨_, hp⟩⟩
  have K1 : KeepB [b, p] H H1 := kb List.mem_cons_self k1
  clear hb
  have hb : b ∈ [b, p] := List.mem_cons_self
  have hpB : p ∈ [b, p] := by simp
  have c4 : ∀ {H}, EK b [b, p] 0 (tVar 1) [some (V.ref b), some (V.int r), some (V.ref p), none, none] H (fun x _ => ∃ r, x = .int r ∧ 0 ≤ r ∧ r < (4 : Nat)) := fun {H} => ek_v rfl fun _ _ => ⟨r, rfl, r0, by exact_mod_cast r1⟩
  refine sk_dput (m := 0) (P := Ls okN [b, p] 3) G1 (by omega) hpB np' rfl hp (by decide) (ls_stb okN_stb) (by exact ek_ixL (K := K) (m := 0) (m' := 0) (n := 4) hb (ls_stb okN_stb) (ek_lst hb (ls_stb okN_stb) (eka_cons0 hb (ls_stb okN_stb) (ek_lst hb okN_stb (eka_cons0 hb okN_stb (ek_c fun _ => ⟨_, rfl, by decide +kernel, by decide +kernel⟩) (eka_cons0 hb okN_stb (ek_c fun _ => ⟨_, rfl, by decide +kernel, by decide +kernel⟩) (eka_cons0 hb okN_stb (ek_c fun _ => ⟨_, rfl, by decide +kernel, by decide +kernel⟩) eka_nil))) (by decide)) (eka_cons0 hb (ls_stb okN_stb) (ek_lst hb okN_stb (eka_cons0 hb okN_stb (ek_c fun _ => ⟨_, rfl, by decide +kernel, by decide +kernel⟩) (eka_cons0 hb okN_stb (ek_c fun _ => ⟨_, rfl, by decide +kernel, by decide +kernel⟩) (eka_cons0 hb okN_stb (ek_c fun _ => ⟨_, rfl, by decide +kernel, by decide +kernel⟩) eka_nil))) (by decide)) (eka_cons0 hb (ls_stb okN_stb) (ek_lst hb okN_stb (eka_cons0 hb okN_stb (ek_c fun _ => ⟨_, rfl, by decide +kernel, by decide +kernel⟩) (eka_cons0 hb okN_stb (ek_c fun _ => ⟨_, rfl, by decide +kernel, by decide +kernel⟩) (eka_cons0 hb okN_stb (ek_c fun _ => ⟨_, rfl, by decide +kernel, by decide +kernel⟩) eka_nil))) (by decide)) (eka_cons0 hb (ls_stb okN_stb) (ek_lst hb okN_stb (eka_cons0 hb okN_stb (ek_c fun _ => ⟨_, rfl, by decide +kernel, by decide +kernel⟩) (eka_cons0 hb okN_stb (ek_c fun _ => ⟨_, rfl, by decide +kernel, by decide +kernel⟩) (eka_cons0 hb okN_stb (ek_c fun _ => ⟨_, rfl, by decide +kernel, by decide +kernel⟩) eka_nil))) (by decide)) eka_nil)))) (by decide)) c4) fun vf H2 M2 l2 g2 k2 q2 d2 p2 => ?_
  rw [pw0] at d2
  refine sk_dput (m := 0) (P := Ls okN [b, p] 2) g2 (by omega) hpB np' rfl d2 (by show 1 < 100; decide) (ls_stb okN_stb) (by exact ek_ixL (K := K) (m := 0) (m' := 0) (n := 4) hb (ls_stb okN_stb) (ek_lst hb (ls_stb okN_stb) (eka_cons0 hb (ls_stb okN_stb) (ek_lst hb okN_stb (eka_cons0 hb okN_stb (ek_c fun _ => ⟨_, rfl, by decide +kernel, by decide +kernel⟩) (eka_cons0 hb okN_stb (ek_c fun _ => ⟨_, rfl, by decide +kernel, by decide +kernel⟩) eka_nil)) (by decide)) (eka_cons0 hb (ls_stb okN_stb) (ek_lst hb okN_stb (eka_cons0 hb okN_stb (ek_c fun _ => ⟨_, rfl, by decide +kernel, by decide +kernel⟩) (eka_cons0 hb okN_stb (ek_c fun _ => ⟨_, rfl, by decide +kernel, by decide +kernel⟩) eka_nil)) (by decide)) (eka_cons0 hb (ls_stb okN_stb) (ek_lst hb okN_stb (eka_cons0 hb okN_stb (ek_c fun _ => ⟨_, rfl, by decide +kernel, by decide +kernel⟩) (eka_cons0 hb okN_stb (ek_c fun _ => ⟨_, rfl, by decide +kernel, by decide +kernel⟩) eka_nil)) (by decide)) (eka_cons0 hb (ls_stb okN_stb) (ek_lst hb okN_stb (eka_cons0 hb okN_stb (ek_c fun _ => ⟨_, rfl, by decide +kernel, by decide +kernel⟩) (eka_cons0 hb okN_stb (ek_c fun _ => ⟨_, rfl, by decide +kernel, by decide +kernel⟩) eka_nil)) (by decide)) eka_nil)))) (by decide)) c4) fun vi H3 M3 l3 g3 k3 q3 d3 p3 => ?_
  rw [pw1] at d3
  refine sk_dput (m := 1) (P := Ls okN [b, p] 3) g3 (by omega) hpB np' rfl d3 (by show 2 < 100; decide) (ls_stb okN_stb) (by exact ek_ixL (K := K) (m := 0) (m' := 1) (n := 3) hb (ls_stb okN_stb) (ek_lst hb (ls_stb okN_stb) (eka_cons0 hb (ls_stb okN_stb) (ek_lst hb okN_stb (eka_cons0 hb okN_stb (ek_c fun _ => ⟨_, rfl, by decide +kernel, by decide +kernel⟩) (eka_cons0 hb okN_stb (ek_c fun _ => ⟨_, rfl, by decide +kernel, by decide +kernel⟩) (eka_cons0 hb okN_stb (ek_c fun _ => ⟨_, rfl, by decide +kernel, by decide +kernel⟩) eka_nil))) (by decide)) (eka_cons0 hb (ls_stb okN_stb) (ek_lst hb okN_stb (eka_cons0 hb okN_stb (ek_c fun _ => ⟨_, rfl, by decide +kernel, by decide +kernel⟩) (eka_cons0 hb okN_stb (ek_c fun _ => ⟨_, rfl, by decide +kernel, by decide +kernel⟩) (eka_cons0 hb okN_stb (ek_c fun _ => ⟨_, rfl, by decide +kernel, by decide +kernel⟩) eka_nil))) (by decide)) (eka_cons0 hb (ls_stb okN_stb) (ek_lst hb okN_stb (eka_cons0 hb okN_stb (ek_c fun _ => ⟨_, rfl, by decide +kernel, by decide +kernel⟩) (eka_cons0 hb okN_stb (ek_c fun _ => ⟨_, rfl, by decide +kernel, by decide +kernel⟩) (eka_cons0 hb okN_stb (ek_c fun _ => ⟨_, rfl, by decide +kernel, by decide +kernel⟩) eka_nil))) (by decide)) eka_nil))) (by decide)) (ek_take (c := 3) rfl (by decide))) fun vk H4 M4 l4 g4 k4 q4 d4 p4 => ?_
  rw [pw2] at d4
  have i1 : EK b [b, p] 0 (tC (.int 0)) [some (V.ref b), some (V.int r), some (V.ref p), none, none] H4 okI := ek_c fun _ => ⟨_, rfl⟩
  refine sk_asg (m := 0) (P := Ls okI [b, p] 6) g4 (by omega) (by exact ek_lst hb okI_stb (eka_cons0 hb okI_stb (ek_c fun _ => ⟨_, rfl⟩) (eka_cons0 hb okI_stb (ek_c fun _ => ⟨_, rfl⟩) (eka_cons0 hb okI_stb (ek_c fun _ => ⟨_, rfl⟩) (eka_cons0 hb okI_stb (ek_neg fun _ => ⟨_, rfl⟩)
    (eka_cons0 hb okI_stb (fun N H1 l k g Q q => ⟨_, _, rfl, rfl, ⟨by decide, by decide, by decide⟩, _, _, rfl, rfl, q _ H1 N (Nat.le_refl _) (Keep.refl b H1) g ⟨_, rfl⟩⟩) (eka_cons0 hb okI_stb (fun N H1 l k g Q q => ⟨_, _, rfl, rfl, ⟨by decide, by decide, by decide⟩, _, _, rfl, rfl, q _ H1 N (Nat.le_refl _) (Keep.refl b H1) g ⟨_, rfl⟩⟩) eka_nil)))))) (by decide)) fun y H5 M5 l5 k5 g5 p5 => ?_
  have d5 : H5 p = some (.dK (w2 vf vi vk)) := k5 _ _ np' d4
  obtain ⟨lf, xf, rfl, nf, hlf, gf, lnf⟩ := (ls_stb okN_stb _ _ _ p3 (k4.trans (kb hb k5)) : Ls okN [b, p] 2 vi H5)
  obtain ⟨ly, xy, rfl, ny, hly, gy, lny⟩ := p5
  refine sk_dput (m := 2) (P := fun v H => ∃ lc cs, v = .ref lc ∧ lc ∉ [b, p] ∧ H lc = some (.dK cs) ∧ ∀ z, V.str z ∈ xf → ∃ i, valV cs (.inr z) = some (.int i)) g5 (by omega) hpB np' rfl d5 (by show 3 < 100; decide) (fun x H H' ⟨lc, cs, e, n, h, r⟩ k => ⟨lc, cs, e, n, k _ _ n h, r⟩) ?_ fun vc H6 M6 l6 g6 k6 q6 d6 p6 => ?_
  · intro N7 H7 lN7 k7 g7 Q7 q7
    have d7 := k7 _ _ np' d5
    have hf7 := k7 _ _ (fun e => nf (by rw [e]; simp)) hlf
    have hy7 := k7 _ _ (fun e => ny (by rw [e]; simp)) hly
    have dg : DGet H7 p (.str "files") (some (.ref lf)) := by
      have := DGet.k (k := .inr "files") d7
      rw [vw3] at this
      exact this
    refine ⟨.ref p, rfl, p, .ref lf, rfl, dg, lf, rfl, ⟨xf, SqL.of hf7⟩, fun Dl hD => ?_⟩
    have nDb : Dl ≠ b := BagC.ne g7.bag hD
    refine lc_it walk_list (fun i H' => ∃ M, M ≤ N7 + i ∧ BgAt b [b, p] M H' ∧ Keep b H7 H' ∧ ∃ L : List (Addr × (Key × V)), H' Dl = some (.lst ((L.map (·.1)).map V.ref)) ∧ (∀ e ∈ L, H' e.1 = some (.tup [kV e.2.1, e.2.2]) ∧ e.1 ≠ Dl ∧ e.1 ≠ b ∧ ∃ j, e.2.2 = .int j) ∧ L.map (fun e => kV e.2.1) = xf.take i)
      ⟨N7, Nat.le_refl _, (g7.new hD).2.1, (g7.new hD).2.2, [], upd_same, (fun e he => (nomatch he)), rfl⟩ (fun i H' _ ⟨M, _, _, k, _⟩ => SqL.of (k _ _ (fun e => nf (by rw [e]; simp)) hf7)) ?_ ?_
    · rintro i x H8 H8' hi ⟨M8, l8, g8, k8, L, hL, hE, hn⟩ ⟨rfl, hx⟩
      obtain ⟨z, rfl, hz⟩ := gf x (List.mem_of_getElem? hx)
      refine ⟨rfl, ?_⟩
      have hLl : L.length ≤ i := by
        have := congrArg List.length hn
        rw [List.length_map, List.length_take] at this; omega
      have hy8 := k8 _ _ (fun e => ny (by rw [e]; simp)) hy7
      refine ⟨_, rfl, _, rfl, _, rfl, b, ly, xy, M8, rfl, g8.bag, by omega, fun e => ny (by rw [e]; simp), SqL.of hy8, by omega, by omega, fun H9 v k9 g9 hv => ?_⟩
      refine ⟨by show 2 ≤ sizeLine; decide, fun q hq' => ?_⟩
      have G9 : BgAt b [b, p] (M8 + 1) H9 := g8.keep k9 g9
      have hD9 := k9 _ _ nDb hL
      obtain ⟨nq, G10, k10⟩ := G9.new (o := .tup [.str z, v]) hq'
      have nqD : q ≠ Dl := fun e => by rw [e, hD9] at hq'; cases hq'
      have nqb : q ≠ b := fun e => nq (by rw [e]; simp)
      refine ⟨(L.map (·.1)).map V.ref, k10 _ _ nDb hD9, ?_, M8 + 1, by omega, ⟨?_, hb, fun a ha => ?_⟩, fun a o na e => ?_, L ++ [(q, (.inr z, v))], ?_, fun e he => ?_, ?_⟩
      · rw [List.length_map, List.length_map]; exact Evl.sz_lt (by omega)
      · obtain ⟨d, x, n, e, r⟩ := G10.bag
        exact ⟨d, x, n, by rw [upd_ne nDb.symm]; exact e, r⟩
      · obtain ⟨u, hu⟩ := G10.live a ha
        by_cases e : a = Dl
        · subst e; exact ⟨_, upd_same⟩
        · exact ⟨u, by rw [upd_ne e]; exact hu⟩
      · have nDa : a ≠ Dl := fun z => by rw [z, hD] at e; cases e
        rw [upd_ne nDa]
        exact k10 _ _ na (k9 _ _ na (k8 _ _ na e))
      · rw [upd_same, List.map_append, List.map_append]; rfl
      · rcases List.mem_append.mp he with he | he
        · obtain ⟨a1, a2, a3, a4⟩ := hE e he
          exact ⟨by rw [upd_ne a2]; exact k10 _ _ a3 (k9 _ _ a3 a1), a2, a3, a4⟩
        · rw [List.mem_singleton.mp he]
          exact ⟨by rw [upd_ne nqD]; exact upd_same, nqD, nqb, gy v hv⟩
      · rw [List.map_append, hn, List.take_add_one, hx]; rfl
    · rintro H8 ⟨M8, l8, g8, k8, L, hL, hE, hn⟩
      refine ⟨Dl, L.map (·.1), L.map (·.2), rfl, SqL.of hL, paired_of L fun e he => SqT.of (hE e he).1, fun r hr' => ?_⟩
      obtain ⟨nr, G9, k9⟩ := g8.new (o := .dK (mergeK [] (L.map (·.2)))) hr'
      refine q7 _ _ M8 (by omega) (k8.trans k9) G9 ⟨r, _, rfl, nr, upd_same, fun z hz => ?_⟩
      have hz' : V.str z ∈ L.map (fun e => kV e.2.1) := by rw [hn, List.take_of_length_le (Nat.le_refl _)]; exact hz
      obtain ⟨e, he, ee⟩ := List.mem_map.mp hz'
      have ek : e.2.1 = .inr z := by
        rcases e with ⟨_, k | k, _⟩
        · cases ee
        · cases ee; rfl
      obtain ⟨v, h1, j, h2⟩ := merge_val (G := fun v => ∃ j, v = .int j) (kvs := L.map (·.2)) (acc := []) (k := .inr z) (fun kv hk => by
        obtain ⟨e', he', rfl⟩ := List.mem_map.mp hk
        exact (hE e' he').2.2.2) (Or.inl (List.mem_map.mpr ⟨e.2, List.mem_map.mpr ⟨e, he, rfl⟩, ek⟩))
      exact ⟨j, by rw [h1, h2]⟩
  · have kk : Keep b H H6 := fun a o na e => by
      have npa : a ≠ p := fresh a o na e
      exact q6 _ _ na npa (k5 _ _ na (q4 _ _ na npa (q3 _ _ na npa (q2 _ _ na npa (k1 _ _ na e)))))
    have vv := vw2 vf (.ref lf) vk vc
    exact sk_ret (m := 0) (P := fun x _ => x = .ref p) g6 (by omega) (ek_v rfl fun _ _ => rfl) fun x H7 M7 l7 k7 g7 e => by
      subst e
      have d7 := k7 _ _ np' d6
      obtain ⟨lc, cs, rfl, nlc, hlc, hcs⟩ := p6
      have nlb : lc ≠ b := fun e => nlc (by rw [e]; simp)
      have nlfb : lf ≠ b := fun e => nf (by rw [e]; simp)
      have nlfp : lf ≠ p := fun e => nf (by rw [e]; simp)
      have less : ∀ a ∈ [b], a ∈ [b, p] := fun a ha => by rw [List.mem_singleton.mp ha]; simp
      refine hq H7 p M7 (by omega) (kk.trans k7) g7.bag ⟨_, vf, .ref lf, vk, lc, cs, d7, np, vv.1, vv.2.2.1, vv.2.1, vv.2.2.2, ?_, ?_, fun m => nlc (less _ m), k7 _ _ nlb hlc, lf, xf, rfl, fun m => nf (less _ m), k7 _ _ nlfb (q6 _ _ nlfb nlfp hlf), ⟨fun v hv => ?_, lnf⟩⟩
      · exact Ls_less less (ls_stb okN_stb _ _ _ p2 ((((k3.trans k4).trans (kb hb k5)).trans k6).trans (kb hb k7)))
      · exact Ls_less less (ls_stb okN_stb _ _ _ p4 (((kb hb k5).trans k6).trans (kb hb k7)))
      · obtain ⟨z, rfl, h1, h2⟩ := gf v hv
        exact ⟨z, rfl, h1, h2, hcs z hv⟩
end
end KD

set_option Elab.async false
set_option linter.all false
set_option maxRecDepth 100000
set_option maxHeartbeats 4000000
namespace LF
open PySem PySem.Spec PyProof.Rows L2 TL KD
def parts (z : Str) : List Str := if z = "" then [] else PySem.Txt.split z c_sl
theorem isNm_len {z : Str} (h : isNm z = true) : 1 ≤ z.length ∧ z.length ≤ 8 := by
  unfold isNm at h
  rw [Bool.and_eq_true, decide_eq_true_eq] at h
  exact h.1
def low (z : Str) : Prop := ∀ c ∈ z.cps.toList, c ∈ letters.cps.toList
theorem isNm_iff {z : Str} : isNm z = true ↔ (1 ≤ z.length ∧ z.length ≤ 8) ∧ low z := by
  unfold isNm low
  rw [Bool.and_eq_true, decide_eq_true_eq, List.all_eq_true]
  simp only [decide_eq_true_eq]
theorem sl_not_low : (47 : Nat) ∉ letters.cps.toList := by decide +kernel
theorem isNm_sl {z : Str} (h : isNm z = true) : 47 ∉ tl z := fun hm => sl_not_low ((isNm_iff.mp h).2 _ hm)
theorem tl_sl : tl c_sl = [47] := by decide +kernel
theorem kind_sl : c_sl.cps.all (· < 256) = true := by decide +kernel
theorem len_app (x y : Str) : (x ++ y).length = x.length + y.length := by
  rw [len_tl, len_tl, len_tl, tl_append, List.length_append]
theorem low_app {x y : Str} (hx : low x) (hy : low y) : low (x ++ y) := fun c hc => by
  have e := tl_append x y
  have hc' : c ∈ tl (x ++ y) := hc
  rw [e] at hc'
  exact (List.mem_append.mp hc').elim (hx c) (hy c)
theorem low_sub {x y : Str} (hx : low x) (h : ∀ c ∈ y.cps.toList, c ∈ x.cps.toList) : low y := fun c hc => hx c (h c hc)
theorem cut_mem (z : Str) (lo hi : Option Int) : ∀ c ∈ (cutS z lo hi).cps.toList, c ∈ z.cps.toList := fun c hc => by
  unfold cutS at hc
  exact List.mem_of_mem_drop (List.mem_of_mem_take (by simpa using hc))
theorem cut_to (z : Str) (i : Nat) (h : i ≤ z.length) : (cutS z none (some (i : Int))).length = i := by
  have e : z.cps.toList.length = z.length := by simp [Str.length]
  unfold cutS
  rw [HT.sIx_none, HT.sIx_nat]
  show (((z.cps.toList.drop 0).take (min i z.length - 0)).toArray).size = i
  rw [List.size_toArray, List.length_take, List.length_drop]
  omega
theorem cut_from (z : Str) (i : Nat) (h : i ≤ z.length) : (cutS z (some (i : Int)) none).length = z.length - i := by
  have e : z.cps.toList.length = z.length := by simp [Str.length]
  unfold cutS
  rw [HT.sIx_none, HT.sIx_nat]
  show (((z.cps.toList.drop (min i z.length)).take (z.length - min i z.length)).toArray).size = _
  rw [List.size_toArray, List.length_take, List.length_drop]
  omega
theorem join_nil_tl (ss : List Str) : tl (PySem.Txt.join "" ss) = (ss.map tl).flatten := by
  rw [join_eq, tl_join]
  have e : tl ("" : Str) = [] := by decide +kernel
  rw [e]
  generalize ss.map tl = l
  induction l with
  | nil => rfl
  | cons a l ih =>
    cases l with
    | nil => simp [joinL]
    | cons b l =>
      show a ++ ([] ++ joinL [] (b :: l)) = _
      rw [ih]; simp
/-- what a word is: a stem with one more letter -/
theorem stem_of {ss : List Str} (h : ∀ s ∈ ss, ∃ c, s = ⟨#[c]⟩ ∧ c ∈ letters.cps.toList) : (PySem.Txt.join "" ss).length = ss.length ∧ low (PySem.Txt.join "" ss) := by
  have e := join_nil_tl ss
  constructor
  · rw [len_tl, e]
    clear e
    induction ss with
    | nil => rfl
    | cons a l ih =>
      obtain ⟨c, rfl, _⟩ := h a List.mem_cons_self
      have := ih fun s hs => h s (List.mem_cons_of_mem _ hs)
      have e1 : (tl (⟨#[c]⟩ : Str)).length = 1 := rfl
      simp only [List.map_cons, List.flatten_cons, List.length_append, List.length_cons, e1, this]
      omega
  · intro c hc
    have hc' : c ∈ tl (PySem.Txt.join "" ss) := hc
    rw [e, List.mem_flatten] at hc'
    obtain ⟨l, hl, hcl⟩ := hc'
    obtain ⟨s, hs, rfl⟩ := List.mem_map.mp hl
    obtain ⟨d, rfl, hd⟩ := h s hs
    have : c ∈ [d] := hcl
    rw [List.mem_singleton.mp this]
    exact hd
theorem split_names {ns : List Str} (hne : ns ≠ []) (h : ∀ n ∈ ns, isNm n = true) : PySem.Txt.split (PySem.Txt.join c_sl ns) c_sl = ns :=
  split_join tl_sl kind_sl hne fun p hp => isNm_sl (h p hp)
theorem join_nil0 : PySem.Txt.join c_sl [] = "" := by decide +kernel
theorem join_ne {ns : List Str} (hne : ns ≠ []) (h : ∀ n ∈ ns, isNm n = true) : PySem.Txt.join c_sl ns ≠ "" := fun e => by
  have h1 := split_names hne h
  rw [e] at h1
  have h2 : PySem.Txt.split "" c_sl = [("" : Str)] := by decide +kernel
  rw [h2] at h1
  have h3 := h "" (by rw [← h1]; exact List.mem_singleton_self _)
  exact absurd h3 (by decide +kernel)
theorem parts_join {ns : List Str} (h : ∀ n ∈ ns, isNm n = true) : parts (PySem.Txt.join c_sl ns) = ns := by
  unfold parts
  by_cases hne : ns = []
  · subst hne
    rw [join_nil0, if_pos rfl]
  · rw [if_neg (join_ne hne h), split_names hne h]
theorem isPt_join {ns : List Str} (h : ∀ n ∈ ns, isNm n = true) : isPt (PySem.Txt.join c_sl ns) = true := by
  unfold isPt
  by_cases hne : ns = []
  · subst hne
    rw [join_nil0]; rfl
  · rw [split_names hne h, List.all_eq_true.mpr h, Bool.or_true]
theorem join_len_le {ns : List Str} (h : ∀ n ∈ ns, isNm n = true) : (PySem.Txt.join c_sl ns).length ≤ 9 * ns.length := by
  rw [len_tl, join_eq, tl_join, tl_sl]
  induction ns with
  | nil => exact Nat.zero_le _
  | cons a l ih =>
    have ha := (isNm_len (h a List.mem_cons_self)).2
    have e : (tl a).length = a.length := (len_tl a).symm
    have il := ih fun n hn => h n (List.mem_cons_of_mem _ hn)
    cases l with
    | nil =>
      show (tl a).length ≤ _
      rw [List.length_singleton]; omega
    | cons b l =>
      show (tl a ++ ([47] ++ joinL [47] ((b :: l).map tl))).length ≤ _
      have e1 : ([47] : List Nat).length = 1 := rfl
      simp only [List.length_append, List.length_cons, e1] at il ⊢
      try simp only [List.length_nil] at il ⊢
      omega
theorem joinL_app (S : List Nat) : ∀ a b : List (List Nat), a ≠ [] → b ≠ [] → joinL S (a ++ b) = joinL S a ++ (S ++ joinL S b)
  | [], _, h, _ => absurd rfl h
  | [p], [], _, h => absurd rfl h
  | [p], q :: r, _, _ => rfl
  | p :: q :: r, b, _, hb => by
    show p ++ (S ++ joinL S ((q :: r) ++ b)) = (p ++ (S ++ joinL S (q :: r))) ++ _
    rw [joinL_app S (q :: r) b (by simp) hb]
    simp only [List.append_assoc]
theorem join_app {a b : List Str} (ha : a ≠ []) (hb : b ≠ []) : PySem.Txt.join c_sl a ++ "/" ++ PySem.Txt.join c_sl b = PySem.Txt.join c_sl (a ++ b) := by
  apply ext_tl
  rw [tl_append, tl_append, join_eq, join_eq, join_eq, tl_join, tl_join, tl_join, List.map_append, joinL_app _ _ _ (by simpa using ha) (by simpa using hb), List.append_assoc]
  rfl
/-- a path: names joined -/
def Pth (k : Nat) (z : Str) : Prop := ∃ ns : List Str, z = PySem.Txt.join c_sl ns ∧ ns.length ≤ k ∧ ∀ n ∈ ns, isNm n = true
def jn (a n : Str) : Str := if a = "" then n else a ++ "/" ++ n
theorem join_one (n : Str) : PySem.Txt.join c_sl [n] = n := by
  apply ext_tl
  rw [join_eq, tl_join]
  rfl
theorem Pth.root {k : Nat} : Pth k "" := ⟨[], join_nil0.symm, Nat.zero_le _, fun _ h => nomatch h⟩
theorem Pth.jn {k : Nat} {a n : Str} (h : Pth k a) (hn : isNm n = true) : Pth (k + 1) (jn a n) := by
  obtain ⟨ns, rfl, hl, hs⟩ := h
  refine ⟨ns ++ [n], ?_, by rw [List.length_append]; simp; omega, fun m hm => ?_⟩
  · unfold LF.jn
    by_cases hne : ns = []
    · subst hne
      rw [if_pos join_nil0]
      exact (join_one n).symm
    · rw [if_neg (join_ne hne hs), ← join_app hne (by simp), join_one]
  · rcases List.mem_append.mp hm with hm | hm
    · exact hs m hm
    · rw [List.mem_singleton.mp hm]; exact hn
theorem Pth.pt {k : Nat} {z : Str} (h : Pth k z) : isPt z = true := by
  obtain ⟨ns, rfl, _, hs⟩ := h
  exact isPt_join hs
theorem Pth.len {k : Nat} {z : Str} (h : Pth k z) : z.length ≤ 9 * k := by
  obtain ⟨ns, rfl, hl, hs⟩ := h
  have := join_len_le hs
  omega
theorem Pth.more {k m : Nat} {z : Str} (h : Pth k z) (hk : k ≤ m) : Pth m z := by
  obtain ⟨ns, e, hl, hs⟩ := h
  exact ⟨ns, e, by omega, hs⟩
end LF

set_option Elab.async false
set_option linter.all false
set_option maxRecDepth 100000
set_option maxHeartbeats 4000000
namespace LF
open PySem PySem.Spec PyProof.Rows L2
open Evl (Ev EvL EvU EvT EvA EvO Ex sq_of st_of)
/-- a list, of so many items at most -/
def LsM (G : V → Hp → Prop) (B : List Addr) (n : Nat) : V → Hp → Prop := fun x H => ∃ p xs, x = .ref p ∧ p ∉ B ∧ H p = some (.lst xs) ∧ (∀ v ∈ xs, G v H) ∧ xs.length ≤ n
/-- a list that is not empty -/
def LsN (G : V → Hp → Prop) (B : List Addr) : V → Hp → Prop := fun x H => ∃ p xs, x = .ref p ∧ p ∉ B ∧ H p = some (.lst xs) ∧ (∀ v ∈ xs, G v H) ∧ 1 ≤ xs.length ∧ xs.length ≤ 100
section
variable {K : PySem.W.Frag} {b : Addr} {B : List Addr} {σ : L2.St} {H H' : Hp} {ta tb te : TE} {tr : TA} {tt : TT} {x y z v : V} {P P' : V → Hp → Prop} {G : V → Hp → Prop} {n n' m m' N : Nat}
theorem lsm_stb (hG : Stb B G) : Stb B (LsM G B n) := fun x H H' ⟨p, xs, e, hp, h, g, l⟩ k => ⟨p, xs, e, hp, k _ _ hp h, fun v hv => hG v H H' (g v hv) k, l⟩
theorem ls_lsm (h : Ls G B n x H) : LsM G B n x H := by
  obtain ⟨p, xs, e, hp, h, g, l⟩ := h
  exact ⟨p, xs, e, hp, h, g, by omega⟩
theorem ls_lsn (h : Ls G B n x H) (h1 : 1 ≤ n ∧ n ≤ 100) : LsN G B x H := by
  obtain ⟨p, xs, e, hp, h, g, l⟩ := h
  exact ⟨p, xs, e, hp, h, g, by omega, by omega⟩
theorem lsm_w {G' : V → Hp → Prop} (h : LsM G B n x H) (hn : n ≤ n') (w : ∀ v, G v H → G' v H) : LsM G' B n' x H := by
  obtain ⟨p, xs, e, hp, h, g, l⟩ := h
  exact ⟨p, xs, e, hp, h, fun v hv => w v (g v hv), by omega⟩
theorem ls_w {G' : V → Hp → Prop} (h : Ls G B n x H) (w : ∀ v, G v H → G' v H) : Ls G' B n x H := by
  obtain ⟨p, xs, e, hp, h, g, l⟩ := h
  exact ⟨p, xs, e, hp, h, fun v hv => w v (g v hv), l⟩
theorem mem_cut {xs : List V} {lo hi : Option Int} {v : V} (h : v ∈ cutV xs lo hi) : v ∈ xs := List.mem_of_mem_drop (List.mem_of_mem_take h)
theorem len_cut {xs : List V} {lo hi : Option Int} : (cutV xs lo hi).length ≤ xs.length := by
  unfold cutV
  rw [List.length_take, List.length_drop]; omega
theorem ek_if (ht : EKT b B m tt σ H) (ha : EK b B m' ta σ H P) (hc : EK b B m' tb σ H P) : EK b B (m + m') (tIf tt ta tb) σ H P := fun N H1 l k g Q q =>
  ht N H1 (by omega) k g _ fun c H2 M lm k2 g2 => by
    have q' : ∀ x H3 M3, M3 ≤ M + m' → Keep b H2 H3 → BgAt b B M3 H3 → P x H3 → Q x H3 := fun x H3 M3 l3 k3 g3 p => q x H3 M3 (by omega) (k2.trans k3) g3 p
    cases c with
    | true => exact iteT (ha M H2 (by omega) (k.trans k2) g2 Q q')
    | false => exact iteF (hc M H2 (by omega) (k.trans k2) g2 Q q')
/-- a test that is known -/
theorem ek_ifB {c : Bool} (ht : ∀ N H1, Keep b H H1 → BgAt b B N H1 → ∀ Q : Bool → Hp → Prop, Q c H1 → tt σ H1 Q) (ha : c = true → EK b B m ta σ H P) (hc : c = false → EK b B m tb σ H P) : EK b B m (tIf tt ta tb) σ H P := fun N H1 l k g Q q =>
  ht N H1 k g _ (by
    cases c with
    | true => exact iteT (ha rfl N H1 l k g Q q)
    | false => exact iteF (hc rfl N H1 l k g Q q))
theorem ek_takeM {i : Nat} {E : XK} {c : Int} (hi : σ[i]? = some (some (.ref b))) (h : EK b B m te σ H (fun x _ => x = .int c)) (h1 : 1 ≤ c ∧ c < 1000000) : EK b B (m + 1) (tCall spTakeC [] E (tCons (tVar i) (tCons te tNil))) σ H (fun x _ => ∃ r, x = .int r ∧ 0 ≤ r ∧ r < c) := fun N H1 l k g Q q =>
  ⟨_, hi, h N H1 (by omega) k g _ fun x H2 M lm k2 g2 e => by
    subst e
    exact ⟨b, c, M, rfl, g2.bag, by omega, h1.1, h1.2, fun H' r k' g' r0 r1 => q _ _ (M + 1) (by omega) (k2.trans k') (g2.keep k' g') ⟨r, rfl, r0, r1⟩⟩⟩
theorem ek_pickN {i : Nat} {E : XK} (hb : b ∈ B) (hG : Stb B G) (hi : σ[i]? = some (some (.ref b))) (h : EK b B m te σ H (LsN G B)) : EK b B (m + 1) (tCall (spPickC K) [] E (tCons (tVar i) (tCons te tNil))) σ H G := fun N H1 l k g Q q =>
  ⟨_, hi, h N H1 (by omega) k g _ fun x H2 M lm k2 g2 p => by
    obtain ⟨l1, xs, rfl, n1, hl, gx, lx, lz⟩ := p
    refine ⟨b, l1, xs, M, rfl, g2.bag, by omega, fun e => n1 (e ▸ hb), SqL.of hl, by omega, by omega, fun H' v k' g' hv => q _ _ (M + 1) (by omega) (k2.trans k') (g2.keep k' g') (hG _ _ _ (gx v hv) (kb hb k'))⟩⟩
/-- one of a list that may change later -/
theorem ek_pickL {i j : Nat} {E : XK} {l0 : Addr} {xs : List V} (hi : σ[i]? = some (some (.ref b))) (hj : σ[j]? = some (some (.ref l0))) (hl : H l0 = some (.lst xs)) (nl : l0 ≠ b) (h1 : 1 ≤ xs.length) (h2 : xs.length < 100000) :
    EK b B 1 (tCall (spPickC K) [] E (tCons (tVar i) (tCons (tVar j) tNil))) σ H (fun x _ => x ∈ xs) := fun N H1 l k g Q q =>
  ⟨_, hi, _, hj, b, l0, xs, N, rfl, g.bag, by omega, nl, SqL.of (k _ _ nl hl), h1, by omega, fun H' v k' g' hv => q _ _ (N + 1) (Nat.le_refl _) k' (g.keep k' g') hv⟩
theorem ek_dgetL {i : Nat} {p : Addr} {kvs : List (Key × V)} {key : Str} (hb : b ∈ B) (hP : Stb B P) (hi : σ[i]? = some (some (.ref p))) (hd : H p = some (.dK kvs)) (np : p ≠ b) (hv : valV kvs (.inr key) = some v) (hl : P v H) : EK b B 0 (tDGet (tVar i) (tC (.str key))) σ H P := fun N H1 l k g Q q => by
  have dg := DGet.k (k := .inr key) (k _ _ np hd)
  rw [hv] at dg
  exact ⟨.ref p, hi, p, v, rfl, dg, q v H1 N (Nat.le_refl _) (Keep.refl b H1) g (hP _ _ _ hl (kb hb k))⟩
/-- a comprehension over range, each item drawn -/
theorem ek_lcR {G : List Addr → V → Hp → Prop} {j : Nat} {c : Int} (hr : EK b B m tb σ H (fun x _ => ∃ r, x = .int r ∧ 0 ≤ r ∧ r < c)) (hc : c ≤ 100) (hG : ∀ D, D ∉ B → Stb (B ++ [D]) (G (B ++ [D])))
    (he : ∀ (i : Nat) D H1, D ∉ B → D ≠ b → Keep b H H1 → H D = none → EK b (B ++ [D]) m' te ((wipe σ [j]).set j (some (.int (0 + (i : Int))))) H1 (G (B ++ [D]))) :
    EK b B (m + c.toNat * m') (tLc (iRng1 (tCons tb tNil)) (gName j) tYes te [j]) σ H (fun x H' => ∃ p xs, x = .ref p ∧ p ∉ B ∧ H' p = some (.lst xs) ∧ (∀ v ∈ xs, G (B ++ [p]) v H') ∧ (xs.length : Int) < c) := fun N H1 l k g Q q =>
  hr N H1 (by omega) k g _ fun x H2 M lm k2 g2 ⟨r, e, r0, r1⟩ => by
    subst e
    refine ⟨r, rfl, by omega, by omega, fun D hD => ?_⟩
    obtain ⟨nD, g3, k3⟩ := g2.new (o := .lst []) hD
    have nDb : D ≠ b := fun e => nD (by rw [e]; exact g.inB)
    have hD0 : H D = none := by
      cases hh : H D with
      | none => rfl
      | some o => rw [(k.trans k2) _ _ nDb hh] at hD; cases hD
    have hs : ∀ i : Nat, (i : Int) < r → (i + 1) * m' ≤ c.toNat * m' := fun i hi => Nat.mul_le_mul_right _ (by omega)
    refine lc_range (lo := 0) (fun i H' => ∃ M', M' ≤ M + i * m' ∧ BgAt b (B ++ [D]) M' H' ∧ Keep b H2 H' ∧ ∃ xs, H' D = some (.lst xs) ∧ (∀ v ∈ xs, G (B ++ [D]) v H') ∧ xs.length = i) ?_ ?_ ?_
    · refine ⟨M, by omega, ⟨g3.bag, by simp [g3.inB], fun a ha => ?_⟩, k3, [], upd_same, (fun v hv => nomatch hv), rfl⟩
      rcases List.mem_append.mp ha with ha | ha
      · exact g3.live a ha
      · rw [List.mem_singleton.mp ha]; exact ⟨_, upd_same⟩
    · rintro i H3 hi ⟨M3, l3, g4, k4, xs, hx, gx, lx⟩
      have hi' := hs i (by omega)
      have e1 : (i + 1) * m' = i * m' + m' := Nat.succ_mul _ _
      refine ⟨wipe_set, ?_⟩
      refine he i D H3 nD nDb ((k.trans k2).trans k4) hD0 M3 H3 (by omega) (Keep.refl b H3) g4 _ fun y H4 M4 l4 k5 g5 py => ?_
      have hx4 := k5 _ _ nDb hx
      have kk : KeepB (B ++ [D]) H4 (upd H4 D (.lst (xs ++ [y]))) := fun a o na e => by
        rw [upd_ne (fun z => na (by rw [z]; simp))]; exact e
      refine ⟨xs, hx4, Evl.sz_lt (by omega), M4, by omega, ⟨?_, g5.inB, fun a ha => ?_⟩, keep_upd hD (k4.trans k5), xs ++ [y], upd_same, fun v hv => ?_, by rw [List.length_append, lx]; rfl⟩
      · obtain ⟨d, x, n, e, rr⟩ := g5.bag
        exact ⟨d, x, n, by rw [upd_ne nDb.symm]; exact e, rr⟩
      · obtain ⟨u, hu⟩ := g5.live a ha
        by_cases e : a = D
        · subst e; exact ⟨_, upd_same⟩
        · exact ⟨u, by rw [upd_ne e]; exact hu⟩
      · rcases List.mem_append.mp hv with hv | hv
        · exact hG D nD _ _ _ (hG D nD _ _ _ (gx v hv) (kb g4.inB k5)) kk
        · rw [List.mem_singleton.mp hv]; exact hG D nD _ _ _ py kk
    · rintro H3 ⟨M3, l3, g4, k4, xs, hx, gx, lx⟩
      have := Nat.mul_le_mul_right m' (show r.toNat ≤ c.toNat by omega)
      exact q _ _ M3 (by omega) (k2.trans k4) ⟨g4.bag, g.inB, fun a ha => g4.live a (by simp [ha])⟩ ⟨D, xs, rfl, nD, hx, gx, by omega⟩
/-- a comprehension over a list, each item drawn -/
theorem ek_lcL {G : List Addr → V → Hp → Prop} {Gi : V → Hp → Prop} {j : Nat} (hb : b ∈ B) (hGi : Stb B Gi) (hr : EK b B m tb σ H (LsM Gi B n)) (hc : n ≤ 100) (hG : ∀ D, D ∉ B → Stb (B ++ [D]) (G (B ++ [D])))
    (he : ∀ (x : V) D H1, D ∉ B → D ≠ b → Keep b H H1 → H D = none → Gi x H1 → EK b (B ++ [D]) m' te ((wipe σ [j]).set j (some x)) H1 (G (B ++ [D]))) (hGi2 : ∀ x H H' D, Gi x H → D ∉ B → KeepB (B ++ [D]) H H' → Gi x H') :
    EK b B (m + n * m') (tLc (iList K tb) (gName j) tYes te [j]) σ H (fun x H' => ∃ p xs, x = .ref p ∧ p ∉ B ∧ H' p = some (.lst xs) ∧ (∀ v ∈ xs, G (B ++ [p]) v H') ∧ xs.length ≤ n) := fun N H1 l k g Q q =>
  hr N H1 (by omega) k g _ fun x H2 M lm k2 g2 ⟨l0, ys, e, nl, hl, gi, ly⟩ => by
    subst e
    refine ⟨l0, rfl, ⟨ys, SqL.of hl⟩, fun D hD => ?_⟩
    obtain ⟨nD, g3, k3⟩ := g2.new (o := .lst []) hD
    have nDb : D ≠ b := fun e => nD (by rw [e]; exact g.inB)
    have nlb : l0 ≠ b := fun e => nl (by rw [e]; exact hb)
    have nlD : l0 ≠ D := fun e => by rw [e, hD] at hl; cases hl
    have hD0 : H D = none := by
      cases hh : H D with
      | none => rfl
      | some o => rw [(k.trans k2) _ _ nDb hh] at hD; cases hD
    have hs : ∀ i : Nat, i < ys.length → (i + 1) * m' ≤ n * m' := fun i hi => Nat.mul_le_mul_right _ (by omega)
    have kb1 : ∀ {H3}, Keep b H2 H3 → KeepB (B ++ [D]) H2 H3 := fun k4 a o na e => k4 a o (fun z => na (by rw [z]; simp [hb])) e
    refine lc_it (walk_list (xs := ys)) (fun i H' => ∃ M', M' ≤ M + i * m' ∧ BgAt b (B ++ [D]) M' H' ∧ Keep b H2 H' ∧ ∃ xs, H' D = some (.lst xs) ∧ (∀ v ∈ xs, G (B ++ [D]) v H') ∧ xs.length = i) ?_ (fun i H' _ ⟨_, _, _, k4, _⟩ => SqL.of (k4 _ _ nlb hl)) ?_ ?_
    · refine ⟨M, by omega, ⟨g3.bag, by simp [g3.inB], fun a ha => ?_⟩, k3, [], upd_same, (fun v hv => nomatch hv), rfl⟩
      rcases List.mem_append.mp ha with ha | ha
      · exact g3.live a ha
      · rw [List.mem_singleton.mp ha]; exact ⟨_, upd_same⟩
    · rintro i x H3' H3 hi ⟨M3, l3, g4, k4, xs, hx, gx, lx⟩ ⟨rfl, hxi⟩
      have hi' := hs i hi
      have e1 : (i + 1) * m' = i * m' + m' := Nat.succ_mul _ _
      have gx3 : Gi x H3 := hGi2 _ _ _ D (gi x (List.mem_of_getElem? hxi)) nD (kb1 k4)
      refine ⟨wipe_set, ?_⟩
      refine he x D H3 nD nDb ((k.trans k2).trans k4) hD0 gx3 M3 H3 (by omega) (Keep.refl b H3) g4 _ fun y H4 M4 l4 k5 g5 py => ?_
      have hx4 := k5 _ _ nDb hx
      have kk : KeepB (B ++ [D]) H4 (upd H4 D (.lst (xs ++ [y]))) := fun a o na e => by
        rw [upd_ne (fun z => na (by rw [z]; simp))]; exact e
      refine ⟨xs, hx4, Evl.sz_lt (by omega), M4, by omega, ⟨?_, g5.inB, fun a ha => ?_⟩, keep_upd hD (k4.trans k5), xs ++ [y], upd_same, fun v hv => ?_, by rw [List.length_append, lx]; rfl⟩
      · obtain ⟨d, x, n, e, rr⟩ := g5.bag
        exact ⟨d, x, n, by rw [upd_ne nDb.symm]; exact e, rr⟩
      · obtain ⟨u, hu⟩ := g5.live a ha
        by_cases e : a = D
        · subst e; exact ⟨_, upd_same⟩
        · exact ⟨u, by rw [upd_ne e]; exact hu⟩
      · rcases List.mem_append.mp hv with hv | hv
        · exact hG D nD _ _ _ (hG D nD _ _ _ (gx v hv) (kb g4.inB k5)) kk
        · rw [List.mem_singleton.mp hv]; exact hG D nD _ _ _ py kk
    · rintro H3 ⟨M3, l3, g4, k4, xs, hx, gx, lx⟩
      have := Nat.mul_le_mul_right m' (show ys.length ≤ n by omega)
      exact q _ _ M3 (by omega) (k2.trans k4) ⟨g4.bag, g.inB, fun a ha => g4.live a (by simp [ha])⟩ ⟨D, xs, rfl, nD, hx, gx, by omega⟩
variable {D : Ends} {tz tu tw : TS}
theorem sk_if (g : BgAt b B N H) (hN : N + m ≤ 900000) (h : EKT b B m tt σ H) (kt : ∀ H2 M, M ≤ N + m → Keep b H H2 → BgAt b B M H2 → tu D σ H2) (kf : ∀ H2 M, M ≤ N + m → Keep b H H2 → BgAt b B M H2 → tw D σ H2) : tIfS tt tu tw D σ H := h N H hN (Keep.refl b H) g _ fun c H2 M lm k2 g2 => by
  cases c with
  | true => exact iteT (kt H2 M lm k2 g2)
  | false => exact iteF (kf H2 M lm k2 g2)
theorem sk_asg1 {i : Nat} (g : BgAt b B N H) (hN : N + m ≤ 900000) (h : EK b B m te σ H P) (k : ∀ x H1 M, M ≤ N + m → Keep b H H1 → BgAt b B M H1 → P x H1 → D.nx (σ.set i (some x)) H1) : tAsg te (gName i) D σ H := h N H hN (Keep.refl b H) g _ k
theorem sk_rng {c : Int} {R : It → Hp → Prop} (g : BgAt b B N H) (hN : N + m ≤ 900000) (hc : c ≤ 100000) (h : EK b B m te σ H (fun x _ => ∃ r, x = .int r ∧ 0 ≤ r ∧ r < c)) (k : ∀ r H2 M, M ≤ N + m → Keep b H H2 → BgAt b B M H2 → 0 ≤ r → r < c → R (Itr 0 r.toNat) H2) :
    iRng1 (tCons te tNil) σ H R := h N H hN (Keep.refl b H) g _ fun x H2 M lm k2 g2 ⟨r, e, r0, r1⟩ => by
  subst e
  exact ⟨r, rfl, by omega, by omega, k r H2 M lm k2 g2 r0 r1⟩
/-- d[y] = e, d among what may change -/
theorem sk_dput1 {i j : Nat} {p : Addr} {key : Key} {kvs : List (Key × V)} (g : BgAt b B N H) (hN : N + m ≤ 900000) (hp : p ∈ B) (np : p ≠ b) (hi : σ[i]? = some (some (.ref p))) (hj : σ[j]? = some (some (kV key))) (hd : H p = some (.dK kvs)) (hl : kvs.length < 1000)
    (hP : Stb B P) (h : EK b B m te σ H P) (k : ∀ v H2 M, M ≤ N + m → BgAt b B M H2 → KeepB B H H2 → (∀ a o, a ≠ b → a ≠ p → H a = some o → H2 a = some o) → H2 p = some (.dK (putK kvs key v)) → P v H2 → D.nx σ H2) :
    sDPut (tVar i) (tVar j) te D σ H :=
  h N H hN (Keep.refl b H) g _ fun v H1 M lm k1 g1 pv => ⟨_, hi, _, hj, p, _, rfl, DPut.k (k := key) (k1 _ _ np hd) (Nat.lt_of_lt_of_le hl (by decide)), by
    have kk : KeepB B H1 (upd H1 p (.dK (putK kvs key v))) := fun a u n e => by
      rw [upd_ne (fun z => n (by rw [z]; exact hp))]; exact e
    refine k v _ M lm ⟨?_, g1.inB, fun a ha => ?_⟩ ((kb g1.inB k1).trans kk) (fun a o n1 n2 e => by rw [upd_ne n2]; exact k1 a o n1 e) upd_same (hP _ _ _ pv kk)
    · obtain ⟨d, x, n, e, r⟩ := g1.bag
      exact ⟨d, x, n, by rw [upd_ne np.symm]; exact e, r⟩
    · by_cases e : a = p
      · subst e; exact ⟨_, upd_same⟩
      · obtain ⟨u, hu⟩ := g1.live a ha
        exact ⟨u, by rw [upd_ne e]; exact hu⟩⟩
/-- xs.append(e), xs among what may change -/
theorem sk_appB {i : Nat} {l : Addr} {xs : List V} (g : BgAt b B N H) (hN : N + m ≤ 900000) (hp : l ∈ B) (np : l ≠ b) (hi : σ[i]? = some (some (.ref l))) (hd : H l = some (.lst xs)) (hl : xs.length < 1000)
    (hP : Stb B P) (h : EK b B m te σ H P) (k : ∀ v H2 M, M ≤ N + m → BgAt b B M H2 → KeepB B H H2 → (∀ a o, a ≠ b → a ≠ l → H a = some o → H2 a = some o) → H2 l = some (.lst (xs ++ [v])) → P v H2 → D.nx σ H2) :
    tDrop (tBM K "list" rAppend (tVar i) (tCons te tNil)) D σ H :=
  ⟨_, hi, Or.inl ⟨rfl, _, SqL.of hd⟩, h N H hN (Keep.refl b H) g _ fun v H1 M lm k1 g1 pv => ⟨l, xs, v, rfl, rfl, k1 _ _ np hd, Evl.sz_lt (by omega), by
    have kk : KeepB B H1 (upd H1 l (.lst (xs ++ [v]))) := fun a u n e => by
      rw [upd_ne (fun z => n (by rw [z]; exact hp))]; exact e
    refine k v _ M lm ⟨?_, g1.inB, fun a ha => ?_⟩ ((kb g1.inB k1).trans kk) (fun a o n1 n2 e => by rw [upd_ne n2]; exact k1 a o n1 e) upd_same (hP _ _ _ pv kk)
    · obtain ⟨d, x, n, e, r⟩ := g1.bag
      exact ⟨d, x, n, by rw [upd_ne np.symm]; exact e, r⟩
    · by_cases e : a = l
      · subst e; exact ⟨_, upd_same⟩
      · obtain ⟨u, hu⟩ := g1.live a ha
        exact ⟨u, by rw [upd_ne e]; exact hu⟩⟩⟩
end
end LF

set_option Elab.async false
set_option linter.all false
set_option maxRecDepth 100000
set_option maxHeartbeats 4000000
namespace KD
open PySem PySem.Spec PyProof.Rows L2 LF
open Evl (Ex sq_of st_of)
def spJoined : Sp := fun vs H Q _ => ∃ a n : Str, vs = [.str a, .str n] ∧ a.length ≤ 10000 ∧ n.length ≤ 10000 ∧ Q (.str (jn a n)) H
/-- an entry of a package -/
def EnK (k : Nat) (kvs : List (Key × V)) : Prop := ∀ kv ∈ kvs, (∃ z, kv.1 = .inr z ∧ Pth k z) ∧ (kv.2 = .non ∨ (∃ i, kv.2 = .int i) ∨ ∃ s, kv.2 = .str s)
theorem EnK.put {k : Nat} {kvs : List (Key × V)} {z : Str} {v : V} (h : EnK k kvs) (hz : Pth k z) (hv : v = .non ∨ (∃ i, v = .int i) ∨ ∃ s, v = .str s) : EnK k (putK kvs (.inr z) v) := fun kv m => by
  rcases mem_put m with e | m
  · rw [e]; exact ⟨⟨z, rfl, hz⟩, hv⟩
  · exact h kv m
theorem EnK.more {k m : Nat} {kvs : List (Key × V)} (h : EnK k kvs) (hk : k ≤ m) : EnK m kvs := fun kv i => by
  obtain ⟨⟨z, e, hz⟩, hv⟩ := h kv i
  exact ⟨⟨z, e, hz.more hk⟩, hv⟩
def spEntries : Sp := fun vs H Q _ => ∃ (b p : Addr) (most : Int) (r : Bool) (N : Nat), vs = [.ref b, .ref p, .int most, .bl r] ∧ BagC H b N ∧ N + 200 ≤ 900000 ∧ Wd [b] p H ∧ 0 ≤ most ∧ most ≤ 20 ∧
  ∀ H' e kvs M, M ≤ N + 200 → Keep b H H' → BagC H' b M → e ≠ b → (∀ a o, a ≠ b → H a = some o → a ≠ e) → H' e = some (.dK kvs) → EnK 30 kvs → kvs.length ≤ 20 → Q (.ref e) H'
abbrev s__law_joined : Stmt := topS 24
abbrev N__law_joined : List Str := ["_law_path", "_law_name"]
theorem sc__law_joined : FnScope ["_law_path", "_law_name"] ["_law_path", "_law_name"] (defScope s__law_joined) := ⟨rfl, rfl, rfl, by decide +kernel, rfl, by decide +kernel, by decide +kernel⟩
abbrev s__law_entries : Stmt := topS 25
abbrev N__law_entries : List Str := ["_law_bag_here", "_law_words_here", "_law_most", "_law_has_references", "_law_folders", "_law_found", "_law_turn", "_law_base", "_law_way", "_law_name", "_law_path", "_law_own_names", "_law_step"]
theorem sc__law_entries : FnScope ["_law_bag_here", "_law_words_here", "_law_most", "_law_has_references", "_law_folders", "_law_found", "_law_turn", "_law_base", "_law_way", "_law_name", "_law_path", "_law_own_names", "_law_step"] ["_law_bag_here", "_law_words_here", "_law_most", "_law_has_references"] (defScope s__law_entries) := ⟨rfl, rfl, rfl, by decide +kernel, rfl, by decide +kernel, by decide +kernel⟩
theorem sif_known {tt : TT} {tu tw : TS} {D : Ends} {σ : L2.St} {H : Hp} {c : Bool} (ht : ∀ Q : Bool → Hp → Prop, Q c H → tt σ H Q) (h1 : c = true → tu D σ H) (h2 : c = false → tw D σ H) : tIfS tt tu tw D σ H := ht _ (by
  cases c with
  | true => exact iteT (h1 rfl)
  | false => exact iteF (h2 rfl))
theorem strs_of {k : Nat} : ∀ {xs : List V}, (∀ v ∈ xs, ∃ z, v = .str z ∧ z.length ≤ k) → ∃ ys : List Str, xs = ys.map V.str ∧ ∀ y ∈ ys, y.length ≤ k
  | [], _ => ⟨[], rfl, fun _ h => nomatch h⟩
  | v :: xs, h => by
    obtain ⟨z, e, hz⟩ := h v List.mem_cons_self
    obtain ⟨ys, e2, hy⟩ := strs_of fun u hu => h u (List.mem_cons_of_mem _ hu)
    exact ⟨z :: ys, by rw [e, e2]; rfl, fun y hy' => by
      rcases List.mem_cons.mp hy' with rfl | hy'
      · exact hz
      · exact hy y hy'⟩
theorem sum_len {k : Nat} : ∀ {ys : List Str}, (∀ y ∈ ys, y.length ≤ k) → (ys.map (·.length)).sum ≤ k * ys.length
  | [], _ => Nat.zero_le _
  | y :: ys, h => by
    have h1 := h y List.mem_cons_self
    have h2 := sum_len fun u hu => h u (List.mem_cons_of_mem _ hu)
    have h3 : (y :: ys).length = ys.length + 1 := rfl
    rw [List.map_cons, List.sum_cons, h3, Nat.mul_succ]; omega
section
variable {P : Program} {w : World} {K : PySem.W.Frag} {mg : Str → Option Value} {base : Heap} {tk1 tk2 : Tok}
theorem ok_joined {f : Addr} {fd : FuncData} (F : Fun K "_law_joined" "_law_joined" s__law_joined f fd) : FnOk P w K mg base CX0 1 f fd ["_law_path", "_law_name"] spJoined := by
  refine F.ok sc__law_joined (fun vs H Q E h => ?_) (fun cdv A outer s H vs Q E hr h => ?_)
  · obtain ⟨a, n, rfl, _⟩ := h
    rfl
  refine ⟨_, (pss_one (ps_ret (pe_ifExp (pt_cmpR op_eq (pv 0) pe_str (nomark _)) (pv 1) (pe_op op_add_str (pe_op op_add_str (pv 0) pe_str) (pv 1))))), ?_⟩
  obtain ⟨a, n, rfl, ha, hn, hq⟩ := h
  have hbig : (100000 : Nat) ≤ sizeLine := by decide
  have c1 : ("/" : Str).length = 1 := by decide +kernel
  unfold jn at hq
  refine ⟨_, rfl, rfl, _, rfl, ?_⟩
  by_cases e : a = ""
  · rw [if_pos e] at hq
    have : decide (V.str a = V.str "") = true := decide_eq_true (by rw [e])
    rw [this]
    exact iteT ⟨_, rfl, hq⟩
  · rw [if_neg e] at hq
    have : decide (V.str a = V.str "") = false := decide_eq_false fun h => e (V.str.inj h)
    rw [this]
    refine iteF ⟨_, rfl, _, _, rfl, rfl, by rw [c1]; omega, _, rfl, _, _, rfl, rfl, by rw [len_app, c1]; omega, hq⟩
theorem ok_entries {f f1 f2 f3 : Addr} {fd fd1 fd2 fd3 : FuncData} (F : Fun K "_law_entries" "_law_entries" s__law_entries f fd) (T : Txt K mg tk1 tk2) (d__law_take : DefAt P w K mg base "_law_take" 1 f1 fd1 ["_law_bag_here", "_law_many"] spTakeC)
    (d__law_pick : DefAt P w K mg base "_law_pick" 2 f2 fd2 ["_law_bag_here", "_law_items"] (spPickC K)) (d__law_joined : DefAt P w K mg base "_law_joined" 1 f3 fd3 ["_law_path", "_law_name"] spJoined) :
    FnOk P w K mg base CX0 3 f fd ["_law_bag_here", "_law_words_here", "_law_most", "_law_has_references"] spEntries := by
  refine F.ok sc__law_entries (fun vs H Q E h => ?_) (fun cdv A outer s H vs Q E hr h => ?_)
  · obtain ⟨b, p, most, r, N, rfl, _⟩ := h
    rfl
  have hu1 := hu_of hr
  refine ⟨_, (pss_cons (ps_par (i := 4) (j := 5) (by rfl) sc__law_entries.nd rfl rfl (by decide) rfl rfl (pa_cons (pe_lst (pa_cons pe_str pa_nil)) (pa_cons pe_dnewK pa_nil)) (by rfl))
    (Evl.pss_cut (ps_for PassesOwn.never rfl (pi_range1 (by rfl) T.n_range (pa_cons (pe_callD d__law_take (hr.mono (by decide)) (pa_cons (pv 0) (pa_cons (pe_op op_add (pv 2) pe_int) pa_nil))) pa_nil)) (pg_name (i := 6) sc__law_entries.nd rfl (Or.inl rfl)) (pss_cons (ps_par (i := 7) (j := 8) (by rfl) sc__law_entries.nd rfl rfl (by decide) rfl rfl (pa_cons (pe_callD d__law_pick (hr.mono (by decide)) (pa_cons (pv 0) (pa_cons (pv 4) pa_nil))) (pa_cons (pe_callD d__law_take (hr.mono (by decide)) (pa_cons (pv 0) (pa_cons pe_int pa_nil))) pa_nil)) (by rfl))
    (pss_cons (ps_set (i := 9) sc__law_entries.nd rfl (Or.inl rfl) (pe_callD d__law_pick (hr.mono (by decide)) (pa_cons (pv 0) (pa_cons (pe_ifExp (pt_cmpR op_lt (pv 8) pe_int (nomark _)) (pe_dget hu1 (pv 1) pe_str (fun _ _ => rfl)) (pe_dget hu1 (pv 1) pe_str (fun _ _ => rfl))) pa_nil))))
    (pss_cons (ps_set (i := 10) sc__law_entries.nd rfl (Or.inl rfl) (pe_callD d__law_joined (hr.mono (by decide)) (pa_cons (pv 7) (pa_cons (pv 9) pa_nil))))
    (pss_cons (ps_if (PW.pt (pw_or (pt_cmp (pc_din hu1 (pv 10) (pv 5))) (pw_or1 (pt_cmpR op_gt (pe_bm PySem.F.plainAttrs_str PySem.F.slot_str_count PySem.F.type_str_count mt_count (pv 10) (pa_cons pe_str pa_nil)) pe_int (nomark _))))) (pss_one ps_continue) pss_nil)
    (pss_one (ps_if (pt_cmpR op_lt (pv 8) pe_int (nomark _)) (pss_one (ps_dput hu1 (pv 5) (pv 10) (pe_dget hu1 (pe_dget hu1 (pv 1) pe_str (fun _ _ => rfl)) (pv 9) (fun _ _ => rfl)) rfl)) (pss_one (ps_if (PW.pt (pw_and (pt_cmpR op_eq (pv 8) pe_int (nomark _)) (pw_and1 (pt_val (pv 3))))) (pss_cons (ps_setLc (i := 11) (own := [("_law_step", 12)]) rfl sc__law_entries.nd rfl rfl (sw_true rfl rfl rfl (by decide +kernel)) (pi_range1 (by rfl) T.n_range (pa_cons (pe_callD d__law_take (hr.mono (by decide)) (pa_cons (pv 0) (pa_cons pe_int pa_nil))) pa_nil)) (blkOk_by (N := N__law_entries) (sc := defScope s__law_entries) (by decide +kernel)) (fun _ _ _ _ _ => pg_name (i := 12) sc__law_entries.nd rfl (Or.inl rfl)) (fun _ _ _ _ _ => pts_nil) (fun _ _ _ _ _ => (pe_callD d__law_pick (hr.mono (by decide)) (pa_cons (pv 0) (pa_cons (pe_dget hu1 (pv 1) pe_str (fun _ _ => rfl)) pa_nil)))))
    (pss_one (ps_dput hu1 (pv 5) (pv 10) (pe_join pe_str (pv 11)) rfl))) (pss_cons (ps_dput hu1 (pv 5) (pv 10) pe_non rfl)
    (pss_one (ps_expr (pe_bm PySem.F.plainAttrs_list PySem.F.slot_list_append PySem.F.type_list_append mt_append (pv 4) (pa_cons (pv 10) pa_nil))))))))))))))
    (pss_one (ps_ret (pv 5))))), ?_⟩
  obtain ⟨b, p, most, r, N, rfl, hbag, hN, hw, hm0, hm20, hq⟩ := h
  obtain ⟨wkvs, vf, vi, vk, lc, cs, w1, w2, w3, w4, w5, w6, w7, w8, w9, w10, w11⟩ := hw
  have npb : p ≠ b := fun e => w2 (by rw [e]; simp)
  have nlb : lc ≠ b := fun e => w9 (by rw [e]; simp)
  have hb1 : b ∈ [b] := List.mem_singleton.mpr rfl
  -- folders, found
  refine sk_par (B := [b]) (m := 0) (m' := 0) (P := fun x H' => ∃ fo, x = .ref fo ∧ fo ≠ b ∧ H' fo = some (.lst [.str ""]) ∧ ∀ a o, a ≠ b → H a = some o → a ≠ fo) (P' := fun x H' => ∃ e, x = .ref e ∧ e ≠ b ∧ H' e = some (.dK []) ∧ ∀ a o, a ≠ b → H a = some o → a ≠ e) (bgAt1 hbag) (by omega) hb1
    (fun x H1 H2 ⟨fo, e, n, h, r⟩ k => ⟨fo, e, n, k _ _ (by simpa using n) h, r⟩) (fun N1 H1 l1 k1 g1 Q1 q1 => ⟨by show 1 ≤ sizeLine; decide, fun q hq' => by
      obtain ⟨n2, g2, k2⟩ := g1.new (o := .lst [.str ""]) hq'
      exact q1 _ _ N1 (Nat.le_refl _) k2 g2 ⟨q, rfl, by simpa using n2, upd_same, fun a o na e z => by
        have := k1 a o na e
        rw [z, hq'] at this; cases this⟩⟩) (fun N1 H1 l1 k1 g1 Q1 q1 q hq' => by
      obtain ⟨n2, g2, k2⟩ := g1.new (o := .dK []) hq'
      exact q1 _ _ N1 (Nat.le_refl _) k2 g2 ⟨q, rfl, by simpa using n2, upd_same, fun a o na e z => by
        have := k1 a o na e
        rw [z, hq'] at this; cases this⟩) fun x y H1 M1 l1 k1 g1 ⟨fo, e1, nfo, hfo, ffo⟩ ⟨e, e2, neb, he, fe⟩ => ?_
  subst e1
  subst e2
  have nef : fo ≠ e := fun z => by rw [z, he] at hfo; cases hfo
  have g1' : BgAt b [b, fo, e] M1 H1 := ⟨g1.bag, by simp, fun a ha => by
    simp only [List.mem_cons, List.not_mem_nil, or_false] at ha
    rcases ha with rfl | rfl | rfl
    · exact g1.live _ hb1
    · exact ⟨_, hfo⟩
    · exact ⟨_, he⟩⟩
  have hb : b ∈ [b, fo, e] := by simp
  have less : ∀ a ∈ [b], a ∈ [b, fo, e] := fun a ha => by rw [List.mem_singleton.mp ha]; simp
  -- what stands as it was
  have kK : ∀ {H'}, (∀ a o, a ≠ b → H a = some o → H' a = some o) → KeepB [b] H H' := fun k a o n e => k a o (by simpa using n) e
  have inB : ∀ {a o}, a ≠ b → H a = some o → a ∉ [b, fo, e] := fun n h => by simp [n, ffo _ _ n h, fe _ _ n h]
  have upN : ∀ {G : V → Hp → Prop} {n : Nat} {v : V} {H'}, (∀ v H H', G v H → G v H') → Ls G [b] n v H → (∀ a o, a ≠ b → H a = some o → H' a = some o) → Ls G [b, fo, e] n v H' := fun hG ⟨q, xs, ev, nq, h, g, l⟩ k => by
    have nqb : q ≠ b := fun z => nq (by rw [z]; simp)
    exact ⟨q, xs, ev, inB nqb h, k _ _ nqb h, fun v hv => hG _ _ _ (g v hv), l⟩
  refine ⟨fun σ' H' => ∃ v6 v7 v8 v9 v10 v11 M kvs, M ≤ N + 150 ∧ σ' = [some (.ref b), some (.ref p), some (.int most), some (.bl r), some (.ref fo), some (.ref e), v6, v7, v8, v9, v10, v11, none] ∧ BagC H' b M ∧ (∀ a o, a ≠ b → H a = some o → H' a = some o) ∧ H' e = some (.dK kvs) ∧ EnK 30 kvs ∧ kvs.length ≤ 20, ?_, ?_⟩
  · refine sk_rng (c := most + 1) (m := 1) g1' (by omega) (by omega) (ek_takeM (m := 0) rfl (fun N1 H1 l1 k1 g1 Q1 q1 => ⟨_, rfl, _, _, rfl, rfl, q1 _ H1 N1 (Nat.le_refl _) (Keep.refl b H1) g1 rfl⟩) ⟨by omega, by omega⟩) fun n H2 M2 l2 k2 g2 n0 n1 => ?_
    refine for_range (lo := 0) (fun i σ' H' => ∃ v6 v7 v8 v9 v10 v11 M kvs xs, M ≤ M2 + 7 * i ∧ σ' = [some (.ref b), some (.ref p), some (.int most), some (.bl r), some (.ref fo), some (.ref e), v6, v7, v8, v9, v10, v11, none] ∧ BgAt b [b, fo, e] M H' ∧ (∀ a o, a ≠ b → H a = some o → H' a = some o) ∧
      H' e = some (.dK kvs) ∧ EnK 30 kvs ∧ kvs.length ≤ i ∧ H' fo = some (.lst xs) ∧ (∀ v ∈ xs, ∃ z, v = .str z ∧ Pth i z) ∧ 1 ≤ xs.length ∧ xs.length ≤ 1 + i) ?_ ?_ ?_
    · exact ⟨_, _, _, _, _, _, M2, [], _, by omega, rfl, g2, fun a o n e => k2 a o n (k1 a o n e), k2 _ _ neb he, fun _ h => (nomatch h), Nat.le_refl _, k2 _ _ nfo hfo, fun v hv => ⟨_, List.mem_singleton.mp hv, Pth.root⟩, by decide, by decide⟩
    · rintro i σ' H3 hi ⟨v6, v7, v8, v9, v10, v11, M3, kvs, xs, l3, rfl, g3, k3, he3, hen, hel, hfo3, hfx, hx1, hx2⟩
      have li : i < 21 := by omega
      refine sk_par (B := [b, fo, e]) (m := 1) (m' := 1) (P := fun x _ => x ∈ xs) (P' := fun x _ => ∃ r, x = .int r ∧ 0 ≤ r ∧ r < 6) g3 (by omega) hb (fun _ _ _ h _ => h) (ek_pickL rfl rfl hfo3 nfo hx1 (by omega)) (ek_take (c := 6) rfl (by decide)) fun x4 y4 H4 M4 l4 k4 g4 p4 ⟨way, e4, wy0, wy6⟩ => ?_
      subst e4
      obtain ⟨zb, rfl, hzb⟩ := hfx x4 p4
      have k4' : ∀ a o, a ≠ b → H a = some o → H4 a = some o := fun a o n e => k4 a o n (k3 a o n e)
      refine sk_asg (m := 1) (P := fun x _ => ∃ z, x = .str z ∧ isNm z = true ∧ (way < 2 → ∃ i, valV cs (.inr z) = some (.int i))) g4 (by omega) (by
        refine ek_pickN (K := K) (m := 0) (G := fun x _ => ∃ z, x = .str z ∧ isNm z = true ∧ (way < 2 → ∃ i, valV cs (.inr z) = some (.int i))) hb (fun _ _ _ h _ => h) rfl ?_
        refine ek_ifB (c := decide (way < 2)) (fun N1 H1 k1 g1 Q1 q1 => ⟨_, rfl, _, _, rfl, rfl, _, rfl, q1⟩) (fun c => ?_) (fun c => ?_)
        · refine ek_dgetL hb (fun x H H' h k => ?_) rfl (k4' _ _ npb w1) npb w4 (ls_lsn (ls_w (upN (fun _ _ _ h => h) w11 k4') fun v ⟨z, e, h1, h2, h3⟩ => ⟨z, e, h1, fun _ => h3⟩) (by decide))
          obtain ⟨q, ys, e, nq, h, r⟩ := h
          exact ⟨q, ys, e, nq, k _ _ nq h, r⟩
        · refine ek_dgetL hb (fun x H H' h k => ?_) rfl (k4' _ _ npb w1) npb w3 (ls_lsn (ls_w (upN (fun _ _ _ h => h) w7 k4') fun v ⟨z, e, h1, h2⟩ => ⟨z, e, h1, fun hh => absurd hh (of_decide_eq_false c)⟩) (by decide))
          obtain ⟨q, ys, e, nq, h, r⟩ := h
          exact ⟨q, ys, e, nq, k _ _ nq h, r⟩) fun x5 H5 M5 l5 k5 g5 ⟨zn, e5, hzn, hcs⟩ => ?_
      subst e5
      have k5' : ∀ a o, a ≠ b → H a = some o → H5 a = some o := fun a o n e => k5 a o n (k4' a o n e)
      have hpt : Pth (i + 1) (jn zb zn) := hzb.jn hzn
      have lzb := hzb.len
      have lzn := (isNm_len hzn).2
      have he5 := k5 _ _ neb (k4 _ _ neb he3)
      have hfo5 := k5 _ _ nfo (k4 _ _ nfo hfo3)
      refine ⟨_, rfl, _, rfl, zb, zn, rfl, by omega, by omega, ?_⟩
      have stay : ∀ {v11} {σ'}, σ' = [some (V.ref b), some (.ref p), some (.int most), some (.bl r), some (.ref fo), some (.ref e), some (.int (0 + (i : Int))), some (.str zb), some (.int way), some (.str zn), some (.str (jn zb zn)), v11, none] → ∀ {H6 M6 kvs6 xs6}, M6 ≤ M5 + 4 → BgAt b [b, fo, e] M6 H6 → (∀ a o, a ≠ b → H a = some o → H6 a = some o) → H6 e = some (.dK kvs6) → EnK 30 kvs6 → kvs6.length ≤ i + 1 → H6 fo = some (.lst xs6) → (∀ v ∈ xs6, ∃ z, v = .str z ∧ Pth (i + 1) z) → 1 ≤ xs6.length → xs6.length ≤ 1 + (i + 1) →
          ∃ v6 v7 v8 v9 v10 v11 M kvs xs, M ≤ M2 + 7 * (i + 1) ∧ σ' = [some (.ref b), some (.ref p), some (.int most), some (.bl r), some (.ref fo), some (.ref e), v6, v7, v8, v9, v10, v11, none] ∧ BgAt b [b, fo, e] M H6 ∧ (∀ a o, a ≠ b → H a = some o → H6 a = some o) ∧ H6 e = some (.dK kvs) ∧ EnK 30 kvs ∧ kvs.length ≤ i + 1 ∧ H6 fo = some (.lst xs) ∧ (∀ v ∈ xs, ∃ z, v = .str z ∧ Pth (i + 1) z) ∧ 1 ≤ xs.length ∧ xs.length ≤ 1 + (i + 1) :=
        by intro v11 σ' hs H6 M6 kvs6 xs6 a1 a2 a3 a4 a5 a6 a7 a8 a9 a10; exact ⟨_, _, _, _, _, _, M6, kvs6, xs6, by omega, hs, a2, a3, a4, a5, a6, a7, a8, a9, a10⟩
      have same : ∀ {H6 : Hp} {M6 : Nat}, Keep b H5 H6 → BgAt b [b, fo, e] M6 H6 → M6 ≤ M5 + 4 → _ := fun {H6 M6} k g l => stay (v11 := v11) rfl l g (fun a o n e => k a o n (k5' a o n e)) (k _ _ neb he5) hen (by omega) (k _ _ nfo hfo5) (fun v hv => by
        obtain ⟨z, e, h⟩ := hfx v hv
        exact ⟨z, e, h.more (by omega)⟩) hx1 (by omega)
      refine ⟨_, rfl, _, rfl, e, _, rfl, DGet.k (k := .inr (jn zb zn)) he5, _, rfl, ?_⟩
      cases hv : valV kvs (.inr (jn zb zn)) with
      | some v0 => exact same (Keep.refl b H5) g5 (by omega)
      | none =>
      refine ⟨_, rfl, rfl, _, _, rfl, rfl, _, _, rfl, rfl, _, rfl, ?_⟩
      refine ifD (fun _ => same (Keep.refl b H5) g5 (by omega)) (fun _ => ?_)
      refine ⟨_, rfl, _, _, rfl, rfl, _, rfl, ?_⟩
      have hfx' : ∀ v ∈ xs, ∃ z, v = .str z ∧ Pth (i + 1) z := fun v hv => by
        obtain ⟨z, e, h⟩ := hfx v hv
        exact ⟨z, e, h.more (by omega)⟩
      have hpt30 := hpt.more (show i + 1 ≤ 30 by omega)
      have heB : e ∈ [b, fo, e] := by simp
      have hfB : fo ∈ [b, fo, e] := by simp
      refine ifD (fun hw2 => ?_) (fun hw2 => ?_)
      · refine sk_dput1 (m := 0) (P := fun v _ => ∃ i, v = .int i) (key := .inr (jn zb zn)) g5 (by omega) heB neb rfl rfl he5 (by omega) (fun _ _ _ h _ => h) (fun N1 H1 l1 k1 g1 Q1 q1 => ?_) fun v H6 M6 l6 g6 _ k6 d6 ⟨i6, e6⟩ => ?_
        · obtain ⟨i6, hi6⟩ := hcs hw2
          have dg1 := DGet.k (k := .inr "contents") (k1 _ _ npb (k5' _ _ npb w1))
          rw [w6] at dg1
          have dg2 := DGet.k (k := .inr zn) (k1 _ _ nlb (k5' _ _ nlb w10))
          rw [hi6] at dg2
          exact ⟨_, rfl, p, .ref lc, rfl, dg1, _, rfl, lc, _, rfl, dg2, q1 _ H1 N1 (Nat.le_refl _) (Keep.refl b H1) g1 ⟨i6, rfl⟩⟩
        · exact stay (v11 := v11) rfl (by omega) g6 (fun a o n ha => k6 a o n (fe a o n ha) (k5' a o n ha)) d6 (hen.put hpt30 (Or.inr (Or.inl ⟨i6, e6⟩))) (Nat.le_trans len_put (by omega)) (k6 _ _ nfo nef hfo5) hfx' hx1 (by omega)
      refine sif_known (c := decide (V.int way = V.int 5) && r) (fun Q q => ?_) (fun _ => ?_) (fun _ => ?_)
      · refine ⟨_, rfl, rfl, _, rfl, ?_⟩
        revert q
        generalize decide (V.int way = V.int 5) = dd
        cases dd with
        | false => exact fun q => iteF q
        | true => exact fun q => iteT ⟨_, rfl, r, rfl, q⟩
      · refine sk_asg (B := [b, fo, e]) (m := 4) g5 (by omega) (ek_lcR (b := b) (B := [b, fo, e]) (m := 1) (m' := 1) (c := 3) (j := 12) (G := fun _ v _ => ∃ z, v = .str z ∧ z.length ≤ 8) (ek_take rfl (by decide)) (by decide) (fun _ _ _ _ _ h _ => h) (fun i6 D H1 nD nDb kD hD => ?_)) fun y6 H6 M6 l6 k6 g6 ⟨q6, xs6, ey6, nq6, hq6, hx6, hl6⟩ => ?_
        · refine ek_w (ek_pickN (K := K) (m := 0) (G := okN) (by simp) okN_stb rfl (ek_dgetL (v := vf) (by simp) (fun x H H' h k => ?_) rfl (kD _ _ npb (k5' _ _ npb w1)) npb w3 ?_)) fun x H ⟨z, e, hz, _⟩ => ⟨z, e, (isNm_len hz).2⟩
          · obtain ⟨q, ys, e, nq, h, r⟩ := h
            exact ⟨q, ys, e, nq, k _ _ nq h, r⟩
          · obtain ⟨q, ys, ev, nq, h, gx, l⟩ := w7
            have nqb : q ≠ b := fun z => nq (by rw [z]; simp)
            have nqD : q ≠ D := fun z => by
              have := k5' _ _ nqb h
              rw [z, hD] at this; cases this
            exact ⟨q, ys, ev, by have := inB nqb h; simp at this; simp [this, nqD], kD _ _ nqb (k5' _ _ nqb h), gx, by omega, by omega⟩
        subst ey6
        obtain ⟨ys, rfl, hys⟩ := strs_of hx6
        have he6 := k6 _ _ neb he5
        have nq6b : q6 ≠ b := fun z => nq6 (by rw [z]; simp)
        refine sk_dput1 (m := 0) (P := fun v _ => ∃ s, v = .str s) (key := .inr (jn zb zn)) g6 (by omega) heB neb rfl rfl he6 (by omega) (fun _ _ _ h _ => h) (fun N1 H1 l1 k1 g1 Q1 q1 => ?_) fun v H7 M7 l7 g7 _ k7 d7 ⟨i7, e7⟩ => ?_
        · have hsum := sum_len hys
          have c1 : ("/" : Str).length = 1 := by decide +kernel
          rw [List.length_map] at hl6
          exact ⟨⟨_, rfl⟩, _, rfl, _, q6, ys, rfl, rfl, Or.inl (SqL.of (k1 _ _ nq6b hq6)), by rw [c1]; omega, q1 _ H1 N1 (Nat.le_refl _) (Keep.refl b H1) g1 ⟨_, rfl⟩⟩
        · exact stay rfl (by omega) g7 (fun a o n ha => k7 a o n (fe a o n ha) (k6 a o n (k5' a o n ha))) d7 (hen.put hpt30 (Or.inr (Or.inr ⟨i7, e7⟩))) (Nat.le_trans len_put (by omega)) (k7 _ _ nfo nef (k6 _ _ nfo hfo5)) hfx' hx1 (by omega)
      · refine sk_dput1 (m := 0) (P := fun v _ => v = .non) (key := .inr (jn zb zn)) g5 (by omega) heB neb rfl rfl he5 (by omega) (fun _ _ _ h _ => h) (ek_c fun _ => rfl) fun v H6 M6 l6 g6 _ k6 d6 e6 => ?_
        refine sk_appB (m := 0) (P := fun v _ => v = .str (jn zb zn)) g6 (by omega) hfB nfo rfl (k6 _ _ nfo nef hfo5) (by omega) (fun _ _ _ h _ => h) (ek_v rfl fun _ _ => rfl) fun v' H7 M7 l7 g7 _ k7 d7 e7 => ?_
        subst e7
        exact stay (v11 := v11) rfl (by omega) g7 (fun a o n ha => k7 a o n (ffo a o n ha) (k6 a o n (fe a o n ha) (k5' a o n ha))) (k7 _ _ neb nef.symm d6) (hen.put hpt30 (Or.inl e6)) (Nat.le_trans len_put (by omega)) d7 (fun u hu => by
          rcases List.mem_append.mp hu with hu | hu
          · exact hfx' u hu
          · exact ⟨_, List.mem_singleton.mp hu, hpt⟩) (by simp) (by rw [List.length_append]; simp; omega)
    · rintro σ' H3 ⟨v6, v7, v8, v9, v10, v11, M3, kvs, xs, l3, rfl, g3, k3, he3, hen, hel, hfo3, hfx, hx1, hx2⟩
      exact ⟨v6, v7, v8, v9, v10, v11, M3, kvs, by omega, rfl, g3.bag, k3, he3, hen, by omega⟩
  · rintro σ' H3 ⟨v6, v7, v8, v9, v10, v11, M, kvs, l3, rfl, g3, k3, he3, hen, hel⟩
    exact ⟨_, rfl, hq H3 e kvs M (by omega) (fun a o n e => k3 a o n e) g3 neb fe he3 hen hel⟩
end
end KD

set_option Elab.async false
set_option linter.all false
set_option maxRecDepth 100000
set_option maxHeartbeats 4000000
namespace LF
open PySem PySem.Spec PyProof.Rows L2
open Evl (Ev EvL EvU EvT EvA EvO Ex sq_of st_of)
section
variable {K : PySem.W.Frag} {b : Addr} {B : List Addr} {σ : L2.St} {H H' : Hp} {ta tb te : TE} {tr : TA} {tt : TT} {x y z v : V} {P P' : V → Hp → Prop} {G : V → Hp → Prop} {n n' m m' N : Nat}
/-- a part, drawn or not -/
def EKO (b : Addr) (B : List Addr) (m : Nat) (to : TO) (σ : L2.St) (H : Hp) (R : Option Int → Prop) : Prop := ∀ N H1, N + m ≤ 900000 → Keep b H H1 → BgAt b B N H1 → ∀ Q : Option Int → Hp → Prop, (∀ x H2 M, M ≤ N + m → Keep b H1 H2 → BgAt b B M H2 → R x → Q x H2) → to σ H1 Q
theorem eko_none {R : Option Int → Prop} (h : R none) : EKO b B 0 tNoPart σ H R := fun N H1 l k g Q q => q none H1 N (Nat.le_refl _) (Keep.refl b H1) g h
theorem eko_some {R : Option Int → Prop} (h : EK b B m te σ H (fun x _ => ∃ i, x = .int i ∧ R (some i))) : EKO b B m (tPart te) σ H R := fun N H1 l k g Q q => h N H1 l k g _ fun x H2 M lm k2 g2 ⟨i, e, r⟩ => ⟨i, e, q _ H2 M lm k2 g2 r⟩
/-- xs[..] : which part is told by R1, R2 -/
theorem ek_slR {tl th : TO} {R1 R2 : Option Int → Prop} {P : V → Hp → Prop} (hb : b ∈ B) (hG : Stb B G) (h : EK b B 0 te σ H (LsM G B n)) (h1 : EKO b B m tl σ H R1) (h2 : EKO b B m' th σ H R2)
    (hP : ∀ r xs lo hi H, R1 lo → R2 hi → r ∉ B → H r = some (.lst (cutV xs lo hi)) → (∀ v ∈ xs, G v H) → xs.length ≤ n → P (.ref r) H) : EK b B (m + m') (tSl (rSlL K) te tl th) σ H P := fun N H1 l k g Q q =>
  h N H1 (by omega) k g _ fun x H2 M lm k2 g2 p => h1 M H2 (by omega) (k.trans k2) g2 _ fun lo H3 M3 l3 k3 g3 r1 => h2 M3 H3 (by omega) ((k.trans k2).trans k3) g3 _ fun hi H4 M4 l4 k4 g4 r2 => by
    obtain ⟨a, xs, rfl, na, ha, gx, lx⟩ := lsm_stb hG _ _ _ p ((kb hb k3).trans (kb hb k4))
    refine ⟨a, xs, rfl, SqL.of ha, fun r hr => ?_⟩
    obtain ⟨n1, g5, k5⟩ := g4.new (o := .lst (cutV xs lo hi)) hr
    exact q _ _ M4 (by omega) (((k2.trans k3).trans k4).trans k5) g5 (hP r xs lo hi _ r1 r2 n1 upd_same (fun v hv => hG _ _ _ (gx v hv) (kb hb k5)) lx)
theorem ek_slM {tl th : TO} (hb : b ∈ B) (hG : Stb B G) (h : EK b B 0 te σ H (LsM G B n)) (h1 : EKO b B m tl σ H fun _ => True) (h2 : EKO b B m' th σ H fun _ => True) : EK b B (m + m') (tSl (rSlL K) te tl th) σ H (LsM G B n) :=
  ek_slR hb hG h h1 h2 fun r xs lo hi H _ _ nr hr gx lx => ⟨r, _, rfl, nr, hr, fun v hv => gx v (mem_cut hv), Nat.le_trans len_cut lx⟩
theorem ek_catM (hb : b ∈ B) (hG : Stb B G) (h : EK b B m ta σ H (LsM G B n)) (h' : EK b B m' tb σ H (LsM G B n')) (hn : n + n' ≤ 1000) : EK b B (m + m') (tOp rCat ta tb) σ H (LsM G B (n + n')) := fun N H1 l k g Q q =>
  h N H1 (by omega) k g _ fun x H2 M lm k2 g2 p => h' M H2 (by omega) (k.trans k2) g2 _ fun y H3 M3 lm3 k3 g3 p' => by
    obtain ⟨l1, xs, rfl, n1, hl, gx, lx⟩ := lsm_stb hG _ _ _ p (kb hb k3)
    obtain ⟨l2, ys, rfl, n2, hl', gy, ly⟩ := p'
    refine ⟨l1, l2, xs, ys, rfl, rfl, hl, hl', Evl.sz_of (by omega), fun r hr => ?_⟩
    obtain ⟨n3, g4, k4⟩ := g3.new (o := .lst (xs ++ ys)) hr
    refine q _ _ M3 (by omega) ((k2.trans k3).trans k4) g4 ⟨r, xs ++ ys, rfl, n3, upd_same, fun v hv => ?_, by rw [List.length_append]; omega⟩
    rcases List.mem_append.mp hv with hv | hv
    · exact hG _ _ _ (gx v hv) (kb hb k4)
    · exact hG _ _ _ (gy v hv) (kb hb k4)
/-- a built-in of one argument -/
theorem ek_cb1 {r : List V → Hp → VK → Prop} (h : EK b B m te σ H P) (hr : ∀ x H1 N, BgAt b B N H1 → Keep b H H1 → P x H1 → ∀ Q : VK, (∀ y H2, Keep b H1 H2 → BgAt b B N H2 → P' y H2 → Q y H2) → r [x] H1 Q) : EK b B m (tCB r (tCons te tNil)) σ H P' := fun N H1 l k g Q q =>
  h N H1 l k g _ fun x H2 M lm k2 g2 p => hr x H2 M g2 (k.trans k2) p Q fun y H3 k3 g3 p3 => q y H3 M lm (k2.trans k3) g3 p3
/-- a reading that gives a bool, whichever -/
def EvB (te : TE) (σ : L2.St) (H : Hp) : Prop := ∀ H1, Ex H H1 → ∀ Q : VK, (∀ c H2, Ex H1 H2 → Q (.bl c) H2) → te σ H1 Q
theorem EvB.of {c : Bool} (h : Ev te σ H (.bl c)) : EvB te σ H := fun H1 e Q q => h H1 e Q fun H2 e2 => q c H2 e2
theorem evb_and (h1 : EvB ta σ H) (h2 : EvB tb σ H) : EvB (tAndV ta tb) σ H := fun H1 e Q q => h1 H1 e _ fun c H2 e2 => ⟨c, rfl, by
  cases c with
  | true => exact iteT (h2 H2 (e.trans e2) Q fun c H3 e3 => q c H3 (e2.trans e3))
  | false => exact iteF (q false H2 e2)⟩
theorem evb_not (h1 : EvB ta σ H) : EvB (tNotV ta) σ H := fun H1 e Q q => h1 H1 e _ fun c H2 e2 => ⟨c, rfl, q _ H2 e2⟩
end
/-- from pairs in the heap to the pairs themselves -/
theorem pairs_of {Gp : Addr → Key → V → Prop} : ∀ {xs : List V}, (∀ v ∈ xs, ∃ q k u, v = .ref q ∧ Gp q k u) → ∃ L : List (Addr × (Key × V)), xs = (L.map (·.1)).map V.ref ∧ ∀ e ∈ L, Gp e.1 e.2.1 e.2.2
  | [], _ => ⟨[], rfl, fun _ h => nomatch h⟩
  | v :: xs, h => by
    obtain ⟨q, k, u, e, g⟩ := h v List.mem_cons_self
    obtain ⟨L, e2, g2⟩ := pairs_of fun u hu => h u (List.mem_cons_of_mem _ hu)
    exact ⟨(q, (k, u)) :: L, by rw [e, e2]; rfl, fun e he => by
      rcases List.mem_cons.mp he with rfl | he
      · exact g
      · exact g2 e he⟩
theorem paired_of' {α β : Type} {F : α → β → Prop} : ∀ L : List (α × β), (∀ e ∈ L, F e.1 e.2) → Paired F (L.map (·.1)) (L.map (·.2))
  | [], _ => .nil
  | e :: L, h => .cons (h e List.mem_cons_self) (paired_of' L fun x hx => h x (List.mem_cons_of_mem _ hx))
end LF

set_option Elab.async false
set_option linter.all false
set_option maxRecDepth 100000
set_option maxHeartbeats 4000000
namespace KD
open PySem PySem.Spec PyProof.Rows L2 LF
open Evl (Ev EvL EvU EvT EvA Ex sq_of st_of)
/-- the entries of a package, at e -/
def EntA (B : List Addr) (e : Addr) (H : Hp) : Prop := ∃ es, e ∉ B ∧ H e = some (.dK es) ∧ EnK 30 es ∧ es.length ≤ 20
theorem EntA.stb {B : List Addr} {e : Addr} {H H' : Hp} (h : EntA B e H) (k : KeepB B H H') : EntA B e H' := by
  obtain ⟨es, n, h1, h2⟩ := h
  exact ⟨es, n, k _ _ n h1, h2⟩
/-- the farm drawn, at g -/
def Farm (B : List Addr) (g : Addr) (H : Hp) : Prop := ∃ kvs, H g = some (.dK kvs) ∧ g ∉ B ∧ kvs.length ≤ 3 ∧ ∀ kv ∈ kvs, ∃ z e, kv = (.inr z, .ref e) ∧ isNm z = true ∧ PyData.strOk z = true ∧ e ≠ g ∧ EntA B e H
theorem Farm.stb {B : List Addr} {g : Addr} {H H' : Hp} (h : Farm B g H) (k : KeepB B H H') : Farm B g H' := by
  obtain ⟨kvs, h1, h2, h3, h4⟩ := h
  exact ⟨kvs, k _ _ h2 h1, h2, h3, fun kv hkv => by
    obtain ⟨z, e, a, b, c, d, f⟩ := h4 kv hkv
    exact ⟨z, e, a, b, c, d, f.stb k⟩⟩
def spFarm : Sp := fun vs H Q _ => ∃ (b p : Addr) (most : Int) (r : Bool) (N : Nat), vs = [.ref b, .ref p, .int most, .bl r] ∧ BagC H b N ∧ N + 700 ≤ 900000 ∧ Wd [b] p H ∧ 0 ≤ most ∧ most ≤ 20 ∧
  ∀ H' g M, M ≤ N + 700 → Keep b H H' → BagC H' b M → Farm [b] g H' → Q (.ref g) H'
def spPlain : Sp := fun vs H Q _ => ∃ (e : Addr) (z : Str) (o : Obj) (es : List (Key × V)), vs = [.ref e, .str z] ∧ H e = some (.frz o (.dK es)) ∧ EnK 30 es ∧ es.length ≤ 20 ∧ z.length ≤ 1000 ∧ ∀ H' c, Ex H H' → Q (.bl c) H'
abbrev s__law_farm : Stmt := topS 26
abbrev N__law_farm : List Str := ["_law_bag_here", "_law_words_here", "_law_most", "_law_has_references", "_law_labels", "_law_label"]
theorem sc__law_farm : FnScope ["_law_bag_here", "_law_words_here", "_law_most", "_law_has_references", "_law_labels", "_law_label"] ["_law_bag_here", "_law_words_here", "_law_most", "_law_has_references"] (defScope s__law_farm) := ⟨rfl, rfl, rfl, by decide +kernel, rfl, by decide +kernel, by decide +kernel⟩
abbrev s__law_is_plain : Stmt := topS 21
abbrev N__law_is_plain : List Str := ["_law_entries_here", "_law_path", "_law_inner", "_law_one"]
theorem sc__law_is_plain : FnScope ["_law_entries_here", "_law_path", "_law_inner", "_law_one"] ["_law_entries_here", "_law_path"] (defScope s__law_is_plain) := ⟨rfl, rfl, rfl, by decide +kernel, rfl, by decide +kernel, by decide +kernel⟩
/-- a pair of a label and the entries -/
def Gp (B : List Addr) : V → Hp → Prop := fun v H => ∃ q k u, v = .ref q ∧ q ∉ B ∧ H q = some (.tup [kV k, u]) ∧ ∃ z e, (k, u) = (Sum.inr z, .ref e) ∧ isNm z = true ∧ PyData.strOk z = true ∧ EntA B e H
theorem Gp_stb {B : List Addr} : Stb B (Gp B) := fun v H H' ⟨q, k, u, e, n, h, z, e', h1, h2, h3, h4⟩ kk => ⟨q, k, u, e, n, kk _ _ n h, z, e', h1, h2, h3, h4.stb kk⟩
def Farm' (b : Addr) : V → Hp → Prop := fun x H => ∃ g, x = .ref g ∧ Farm [b] g H
section
variable {P : Program} {w : World} {K : PySem.W.Frag} {mg : Str → Option Value} {base : Heap} {tk1 tk2 : Tok}
theorem ok_farm {f f1 f2 : Addr} {fd fd1 fd2 : FuncData} (F : Fun K "_law_farm" "_law_farm" s__law_farm f fd) (T : Txt K mg tk1 tk2) (d__law_take : DefAt P w K mg base "_law_take" 1 f1 fd1 ["_law_bag_here", "_law_many"] spTakeC)
    (d__law_entries : DefAt P w K mg base "_law_entries" 3 f2 fd2 ["_law_bag_here", "_law_words_here", "_law_most", "_law_has_references"] spEntries) :
    FnOk P w K mg base CX0 4 f fd ["_law_bag_here", "_law_words_here", "_law_most", "_law_has_references"] spFarm := by
  refine F.ok sc__law_farm (fun vs H Q E h => ?_) (fun cdv A outer s H vs Q E hr h => ?_)
  · obtain ⟨b, p, most, r, N, rfl, _⟩ := h
    rfl
  have hu1 := hu_of hr
  refine ⟨_, (pss_cons (ps_set (i := 4) sc__law_farm.nd rfl (Or.inl rfl) (pe_slice sl_list (pe_dget hu1 (pv 1) pe_str (fun _ _ => rfl)) po_none (po_some (pe_op op_add pe_int (pe_callD d__law_take (hr.mono (by decide)) (pa_cons (pv 0) (pa_cons pe_int pa_nil)))))))
    (pss_one (ps_ret (pe_callTy (call_dictP rfl) (by rfl) T.n_dict (by decide +kernel) (pa_cons (pe_lc (own := [("_law_label", 5)]) rfl sc__law_farm.nd (pi_list (pv 4)) (blkOk_by (N := N__law_farm) (sc := defScope s__law_farm) (by decide +kernel)) (fun _ _ _ _ _ => pg_name (i := 5) sc__law_farm.nd rfl (Or.inl rfl)) (fun _ _ _ _ _ => pts_nil) (fun _ _ _ _ _ => (pe_tup (pa_cons (pv 5) (pa_cons (pe_callD d__law_entries (hr.mono (by decide)) (pa_cons (pv 0) (pa_cons (pv 1) (pa_cons (pv 2) (pa_cons (pv 3) pa_nil))))) pa_nil))))) pa_nil))))), ?_⟩
  obtain ⟨b, p, most, r, N, rfl, hbag, hN, hw, hm0, hm20, hq⟩ := h
  have hw' := hw
  obtain ⟨wkvs, vf, vi, vk, lc, cs, w1, w2, w3, w4, w5, w6, w7, w8, w9, w10, w11⟩ := hw'
  have npb : p ≠ b := fun e => w2 (by rw [e]; simp)
  have hb : b ∈ [b] := List.mem_singleton.mpr rfl
  refine sk_asg (B := [b]) (m := 1) (P := LsM okN [b] 3) (bgAt1 hbag) (by omega) (by
    exact ek_slM (m := 0) (m' := 1) hb okN_stb (ek_dgetL (v := vk) hb (lsm_stb okN_stb) rfl w1 npb w5 (ls_lsm w8)) (eko_none trivial) (eko_some (fun N1 H1 l1 k1 g1 Q1 q1 => ek_take (B := [b]) (H := H1) (c := 3) rfl (by decide) N1 H1 l1 (Keep.refl b H1) g1 _ fun x H2 M2 lm2 k2 g2 ⟨r, e, _⟩ => by
      subst e
      exact ⟨_, _, rfl, rfl, q1 _ H2 M2 lm2 k2 g2 ⟨_, rfl, trivial⟩⟩))) fun y1 H1 M1 l1 k1 g1 p1 => ?_
  have hw1 := hw.stb (kb hb k1)
  refine sk_ret (m := 600) (P := Farm' b) g1 (by omega) (ek_cb1 (ek_lcL (K := K) (b := b) (B := [b]) (m := 0) (m' := 200) (n := 3) (j := 5) (Gi := okN) (G := Gp) hb okN_stb (ek_v rfl fun H3 k3 => lsm_stb okN_stb _ _ _ p1 (kb hb k3)) (by decide) (fun D nD => Gp_stb) (fun x D H3 nD nDb kD hD gx => ?_) (fun _ _ _ _ h _ _ => h)) fun x H3 M3 g3 k3 ⟨l, xs, ex, nl, hl, gx, lx⟩ Q2 q2 => ?_) fun x H2 M2 l2 k2 g2 ⟨gg, e, hf⟩ => ?_
  · obtain ⟨z, rfl, hz, hzo⟩ := gx
    intro N4 H4 l4 k4 g4 Q4 q4
    have hw4 := hw1.stb ((kb hb kD).trans (kb hb k4))
    refine ⟨_, rfl, _, rfl, _, rfl, _, rfl, _, rfl, b, p, most, r, N4, rfl, g4.bag, by omega, hw4, hm0, hm20, fun H5 e es M5 l5 k5 b5 neb fresh he hen hel => ?_⟩
    have g5 := g4.keep k5 b5
    have neD : e ≠ D := fun ee => by
      obtain ⟨u, hu⟩ := g4.live D (by simp)
      exact fresh D u nDb hu ee.symm
    refine ⟨by show 2 ≤ sizeLine; decide, fun q hq' => ?_⟩
    obtain ⟨nq, g6, k6⟩ := g5.new (o := .tup [.str z, .ref e]) hq'
    exact q4 _ _ M5 (by omega) (k5.trans k6) g6 ⟨q, .inr z, .ref e, rfl, nq, upd_same, z, e, rfl, hz, hzo, es, by simp [neb, neD], k6 _ _ neb he, hen, hel⟩
  · subst ex
    obtain ⟨L, rfl, hL⟩ := pairs_of (Gp := fun q k u => q ∉ [b] ++ [l] ∧ H3 q = some (.tup [kV k, u]) ∧ ∃ z e, (k, u) = (Sum.inr z, .ref e) ∧ isNm z = true ∧ PyData.strOk z = true ∧ EntA ([b] ++ [l]) e H3) fun v hv => by
      obtain ⟨q, k, u, e, h1, h2, z, e', h3, h4⟩ := gx v hv
      exact ⟨q, k, u, e, h1, h2, z, e', h3, h4⟩
    refine ⟨l, L.map (·.1), L.map (·.2), rfl, SqL.of hl, paired_of' L fun e he => SqT.of (hL e he).2.1, fun r hr' => ?_⟩
    obtain ⟨nr, g4, k4⟩ := g3.new (o := .dK (mergeK [] (L.map (·.2)))) hr'
    refine q2 _ _ k4 g4 ⟨r, rfl, _, upd_same, nr, ?_, fun kv hkv => ?_⟩
    · have := len_merge (kvs := L.map (·.2)) (acc := [])
      simp only [List.length_map, List.length_nil] at lx this; omega
    · rcases mem_merge hkv with h | h
      · exact nomatch h
      · obtain ⟨e, he, rfl⟩ := List.mem_map.mp h
        obtain ⟨_, _, z, e', h1, h2, h3, es, h4, h5, h6⟩ := hL e he
        have ner : e' ≠ r := fun x => by rw [x, hr'] at h5; cases h5
        have neb : e' ≠ b := fun x => h4 (by simp [x])
        exact ⟨z, e', by rw [← h1], h2, h3, ner, es, by simpa using neb, k4 _ _ neb h5, h6⟩
  · subst e
    exact hq H2 gg M2 (by omega) (k1.trans k2) g2.bag hf
end
end KD

set_option Elab.async false
set_option linter.all false
set_option maxRecDepth 100000
set_option maxHeartbeats 4000000
namespace KD
open PySem PySem.Spec PyProof.Rows L2 LF
open Evl (Ev EvL EvU EvT EvA Ex sq_of st_of)
section
variable {P : Program} {w : World} {K : PySem.W.Frag} {mg : Str → Option Value} {base : Heap} {tk1 tk2 : Tok}
theorem ok_plain {f : Addr} {fd : FuncData} (F : Fun K "_law_is_plain" "_law_is_plain" s__law_is_plain f fd) (T : Txt K mg tk1 tk2) : FnOk P w K mg base CX0 1 f fd ["_law_entries_here", "_law_path"] spPlain := by
  refine F.ok sc__law_is_plain (fun vs H Q E h => ?_) (fun cdv A outer s H vs Q E hr h => ?_)
  · obtain ⟨e, z, o, es, rfl, _⟩ := h
    rfl
  have hu1 := hu_of hr
  refine ⟨_, (pss_cons (ps_setLc (i := 2) (own := [("_law_one", 3)]) rfl sc__law_is_plain.nd rfl rfl (sw_true rfl rfl rfl (by decide +kernel)) (pi_keys (pv 0)) (blkOk_by (N := N__law_is_plain) (sc := defScope s__law_is_plain) (by decide +kernel)) (fun _ _ _ _ _ => pg_name (i := 3) sc__law_is_plain.nd rfl (Or.inl rfl)) (fun _ _ _ _ _ => (pts_one (pt_cmpR op_eq (pe_slice sl_str (pv 3) po_none (po_some (pe_op op_add (pe_callB call_len_str (by rfl) T.n_len (by decide +kernel) (pa_cons (pv 1) pa_nil)) pe_int))) (pe_op op_add_str (pv 1) pe_str) (nomark _)))) (fun _ _ _ _ _ => (pv 3)))
    (pss_one (ps_ret (pe_and (pe_cmp (pc_din hu1 (pv 1) (pv 0))) (pe_and (pe_cmpR op_isN (pe_dget hu1 (pv 0) (pv 1) (fun _ _ => rfl)) pe_non (nomark _)) (pe_one (pe_not (pe_callB (cr_any rfl) (by rfl) T.n_any (by decide +kernel) (pa_cons (pe_lc (own := [("_law_one", 3)]) rfl sc__law_is_plain.nd (pi_list (pv 2)) (blkOk_by (N := N__law_is_plain) (sc := defScope s__law_is_plain) (by decide +kernel)) (fun _ _ _ _ _ => pg_name (i := 3) sc__law_is_plain.nd rfl (Or.inl rfl)) (fun _ _ _ _ _ => pts_nil) (fun _ _ _ _ _ => (pe_callB (show CallR _ (.builtin "isinstance") (rIsi K) from call_isi) (by rfl) T.n_isinstance (by decide +kernel) (pa_cons (pe_dget hu1 (pv 0) (pv 3) (fun _ _ => rfl)) (pa_cons (pe_bltn (v := .ty "str") (by rfl) T.n_str (by decide +kernel) rfl) pa_nil))))) pa_nil))))))))), ?_⟩
  obtain ⟨e, z, o, es, rfl, he, hen, hel, hz, hq⟩ := h
  have hbig : (100000 : Nat) ≤ sizeLine := by decide
  have c1 : ("/" : Str).length = 1 := by decide +kernel
  have pt : ∀ {z : Str} {v : V}, (Sum.inr z, v) ∈ es → Pth 30 z ∧ (v = .non ∨ (∃ i, v = .int i) ∨ ∃ s, v = .str s) := fun h => by
    obtain ⟨⟨z', e1, h1⟩, h2⟩ := hen _ h
    cases e1
    exact ⟨h1, h2⟩
  refine ⟨_, rfl, e, o, rfl, Or.inl ⟨es, he, fun D hD => ?_⟩⟩
  have neD : e ≠ D := fun x => by rw [x, hD] at he; cases he
  refine lc_it (walk_keys (kvs := es)) (fun i H' => Ex H H' ∧ ∃ xs, H' D = some (.lst xs) ∧ xs.length ≤ i ∧ ∀ v ∈ xs, ∃ z', v = .str z' ∧ (Sum.inr z' : Key) ∈ es.map (·.1)) ⟨Ex.new hD, [], upd_same, Nat.le_refl _, fun _ h => nomatch h⟩ (fun i H' _ h => h.1 _ _ he) ?_ ?_
  · rintro i x H1' H1 hi ⟨e1, xs, hx, lx, gx⟩ ⟨rfl, k, v, hk, rfl⟩
    have hm := List.mem_of_getElem? hk
    obtain ⟨⟨z', ek, hz'⟩, hv⟩ := hen _ hm
    cases ek
    have lz := hz'.len
    refine ⟨wipe_set, ?_⟩
    refine ⟨_, rfl, _, rfl, z, rfl, by omega, _, _, rfl, rfl, _, rfl, z', rfl, by omega, ?_⟩
    refine ⟨_, rfl, _, _, rfl, rfl, by rw [c1]; omega, rfl, _, rfl, ?_⟩
    refine ifD (fun _ => ⟨_, rfl, xs, hx, Evl.sz_lt (by omega), Ex.mut e1 hD, xs ++ [.str z'], upd_same, by rw [List.length_append]; simp; omega, fun u hu => ?_⟩) (fun _ => ⟨e1, xs, hx, by omega, gx⟩)
    rcases List.mem_append.mp hu with hu | hu
    · exact gx u hu
    · exact ⟨z', List.mem_singleton.mp hu, List.mem_map.mpr ⟨_, hm, rfl⟩⟩
  · rintro H1 ⟨e1, xs, hx, lx, gx⟩
    have he1 := e1 _ _ he
    have dget : ∀ {H2}, Ex H H2 → ∀ k, DGet H2 e (kV k) (valV es k) := fun e2 k => Or.inl ⟨es, k, Or.inr ⟨o, e2 _ _ he⟩, rfl, rfl⟩
    refine ⟨_, rfl, _, rfl, e, _, rfl, dget e1 (.inr z), _, rfl, ?_⟩
    cases hv : valV es (.inr z) with
    | none => exact iteF (hq H1 _ e1)
    | some v0 =>
      refine iteT ?_
      have hv0 : DGet H1 e (.str z) (some v0) := by
        have := dget e1 (.inr z)
        rw [hv] at this; exact this
      refine ⟨_, rfl, _, rfl, e, v0, rfl, hv0, rfl, _, rfl, ?_⟩
      refine ifD (fun _ => ?_) (fun _ => hq H1 _ e1)
      refine ⟨_, rfl, D, rfl, ⟨xs, SqL.of hx⟩, fun D2 hD2 => ?_⟩
      have nD2 : D ≠ D2 := fun x => by rw [x, hD2] at hx; cases hx
      refine lc_it (walk_list (xs := xs)) (fun i H' => Ex H1 H' ∧ ∃ bs : List Bool, H' D2 = some (.lst (bs.map V.bl)) ∧ bs.length = i) ⟨Ex.new hD2, [], upd_same, rfl⟩ (fun i H' _ h => SqL.of (h.1 _ _ hx)) ?_ ?_
      · rintro i x H2' H2 hi ⟨e2, bs, hbs, lbs⟩ ⟨rfl, hxi⟩
        obtain ⟨z', rfl, hz'⟩ := gx x (List.mem_of_getElem? hxi)
        obtain ⟨v, hv', hm⟩ := val_some hz'
        have hty : ∃ t c, TyX K H2 v (.type t) ∧ PySem.W.kitOne K (.type t) (.type "str") = some c := by
          rcases (pt hm).2 with rfl | ⟨i, rfl⟩ | ⟨s, rfl⟩
          · exact ⟨"NoneType", false, .base .non, kit_ty (by decide +kernel)⟩
          · exact ⟨"int", false, .base (.int i), kit_ty (by decide +kernel)⟩
          · exact ⟨"str", true, .base (.str s), kit_ty (by decide +kernel)⟩
        obtain ⟨t, c, ht, hk⟩ := hty
        have hv2 : DGet H2 e (.str z') (some v) := by
          have := dget (e1.trans e2) (.inr z')
          rw [hv'] at this; exact this
        refine ⟨wipe_set, ?_⟩
        refine ⟨_, rfl, _, rfl, e, v, rfl, hv2, v, .ty "str", _, _, c, rfl, .ty _, ht, hk, bs.map V.bl, hbs, Evl.sz_lt (by rw [List.length_map]; omega), Ex.mut e2 hD2, bs ++ [c], ?_, by rw [List.length_append]; simp; omega⟩
        rw [upd_same, List.map_append]; rfl
      · rintro H2 ⟨e2, bs, hbs, lbs⟩
        exact ⟨D2, bs, rfl, SqL.of hbs, _, rfl, hq H2 _ (e1.trans e2)⟩
end
end KD

set_option Elab.async false
set_option linter.all false
set_option maxRecDepth 100000
set_option maxHeartbeats 4000000
namespace LF
open PySem PySem.Spec PyProof.Rows L2
/-! sets of texts: made of a list, sorted -/
def tkey (e : Int × Value) : Str := match e.2 with | .str z _ => z | _ => ""
def Tx (w : World) (e : Int × Value) : Prop := ∃ z q, e.2 = Value.str z q ∧ e.1 = hashStr w z
/-- the set at a holds just the texts of L; its table can be walked -/
structure TSet (w : World) (h : Heap) (a : Addr) (L : List Str) (o : Obj) (es : Array (Int × Value)) (ep : Nat) (t : SetTable) : Prop where
  ob : h.get? a = some o
  ex : o.ExactSet
  dat : o.data = .set es ep t
  tx : ∀ e ∈ es.toList, Tx w e
  pm : (es.toList.map tkey).Perm L
  nd : L.Nodup
  few : es.size < scanBound
  fit : t.fits es.size = true
  ris : Ris t.place.toList
  led : w.params.followText "set-order" = true ∨ t.led = true
def TSetAt (w : World) (h : Heap) (a : Addr) (L : List Str) : Prop := ∃ o es ep t, TSet w h a L o es ep t
section
variable {P : Program} {w : World} {h h' : Heap} {a : Addr} {L : List Str} {o : Obj} {es : Array (Int × Value)} {ep : Nat} {t : SetTable}
theorem TSetAt.at (R : TSetAt w h a L) (k : ∀ o, h.get? a = some o → h'.get? a = some o) : TSetAt w h' a L := by
  obtain ⟨o, es, ep, t, T⟩ := R
  exact ⟨o, es, ep, t, { T with ob := k o T.ob }⟩
theorem Tx.is {e : Int × Value} (x : Tx w e) (z : Str) : (strKind P w).is z e.2 = true ↔ tkey e = z := by
  obtain ⟨y, q, e1, _⟩ := x
  unfold tkey
  rw [e1]
  constructor
  · intro hz
    have := (strKind P w).inj _ _ _ hz (strKind_is P w y q)
    exact this.symm
  · rintro rfl
    exact strKind_is P w _ q
theorem TSet.elems (T : TSet w h a L o es ep t) : ElemsOf (strKind P w) es.toList := fun e he => by
  obtain ⟨y, q, e1, e2⟩ := T.tx e he
  exact ⟨⟨y, by rw [e1]; exact strKind_is P w y q, e2⟩, by rw [e1]; rfl⟩
theorem TSet.size (T : TSet w h a L o es ep t) : es.size = L.length := by
  have q := T.pm.length_eq
  rw [List.length_map, Array.length_toList] at q
  exact q
theorem tset_new (w : World) : TSetAt w (h.push { cls := .type "set", dict := none, data := .set #[] 0 (.fresh 0 0 (!w.params.followText "set-order")) }) h.objs.size [] :=
  ⟨_, #[], 0, _, ⟨Heap.get?_push_size _ rfl, ⟨rfl, rfl, rfl⟩, rfl, fun e he => by simp at he, by simp, List.nodup_nil, by decide, rfl, List.Pairwise.nil, by
    cases hq : w.params.followText "set-order"
    · exact Or.inr rfl
    · exact Or.inl rfl⟩⟩
end
section
variable {P : Program} {w : World} {A : Around} {E : Value → Shared → Prop} {s : Shared} {a : Addr} {L : List Str}
/-- what stands at a set's place when its table is laid anew -/
theorem put_set {h : Heap} {o : Obj} {es es' : Array (Int × Value)} {ep : Nat} {t t' : SetTable} (ho : h.get? a = some o) (hd : o.data = .set es ep t) : (h.update a (Obj.putSet es' t')).get? a = some { o with data := .set es' (ep + 1) t' } := L2.store_at ho hd
/-- the new text is laid: the table is stored, and grown if it is too full -/
theorem tset_lay {g : Bool → Sem Unit} (hg : ∀ (b : Bool) (u : Shared) (W : Unit → Shared → Prop), W () u → wpAny (model P w) A (g b) W E u)
    {o : Obj} {es : Array (Int × Value)} {ep : Nat} {t : SetTable} (ho : s.heap.get? a = some o) (hx : o.ExactSet) (hd : o.data = .set es ep t)
    {fs : Array (Int × Value)} {u : SetTable} (tx : ∀ e ∈ fs.toList, Tx w e) (pm : (fs.toList.map tkey).Perm L) (nd : L.Nodup) (few : fs.size < scanBound) (fit : u.fits fs.size = true) (ris : Ris u.place.toList)
    (led : w.params.followText "set-order" = true ∨ u.led = true) {dm : Bool} {R : Option Bool → Shared → Prop} (hR : ∀ h', Heap.SameBut a s.heap h' → TSetAt w h' a L → R (some true) { s with heap := h' }) :
    wpAny (model P w) A (do
        storeSet a fs u
        if (!dm && u.tooFull) = true then do
            g (relayAll u fs (SetTable.grown fs.size)).2.2
            storeSet a (relayAll u fs (SetTable.grown fs.size)).1 (relayAll u fs (SetTable.grown fs.size)).2.1
            pure (some true)
          else pure (some true)) R E s := by
  have h1 := put_set (es' := fs) (t' := u) ho hd
  have b1 := Heap.SameBut.update s.heap a (Obj.putSet fs u)
  refine wpAny_bind (wpAny_storeSet_of ho hd ?_ (fits_of_scanBound few))
  by_cases hc : (!dm && u.tooFull) = true
  · rw [if_pos hc]
    have p2 := relayAll_perm u fs (SetTable.grown fs.size)
    have f2 := relayAll_fits u fs (SetTable.grown fs.size)
    have r2 := relayAll_ris u fs (SetTable.grown fs.size)
    have l2 := relayAll_led u fs (SetTable.grown fs.size)
    generalize relayAll u fs (SetTable.grown fs.size) = Y at p2 f2 r2 l2 ⊢
    obtain ⟨gs, v, gv⟩ := Y
    dsimp only at p2 f2 r2 l2 ⊢
    have z2 : gs.size = fs.size := by rw [← Array.length_toList, ← Array.length_toList]; exact p2.length_eq
    have few2 : gs.size < scanBound := by rw [z2]; exact few
    refine wpAny_bind (hg _ _ _ (wpAny_bind (wpAny_storeSet_of h1 rfl ?_ (fits_of_scanBound few2))))
    refine wpAny_pure (hR _ (b1.trans (Heap.SameBut.update _ a _)) ⟨_, gs, _, v, ⟨put_set (es' := gs) (t' := v) h1 rfl, hx, rfl, fun e he => tx e (p2.mem_iff.mp he), (p2.map tkey).trans pm, nd, few2, f2, r2, ?_⟩⟩)
    rcases led with q | q
    · exact Or.inl q
    · exact Or.inr (by rw [l2]; exact q)
  · rw [if_neg hc]
    exact wpAny_pure (hR _ b1 ⟨_, fs, _, u, ⟨h1, hx, rfl, tx, pm, nd, few, fit, ris, led⟩⟩)
/-- a text is added -/
theorem tset_hashed {z : Str} {q : Tok} {Q : Bool → Shared → Prop} (R : TSetAt w s.heap a L) (room : L.length + 1 < scanBound)
    (hQ : ∀ h', Heap.SameBut a s.heap h' → TSetAt w h' a (if z ∈ L then L else z :: L) → Q (!decide (z ∈ L)) { s with heap := h' }) :
    wpAny (model P w) A (setAddHashed a (.str z q) (hashStr w z)) Q E s := by
  obtain ⟨o, es, ep, t, T⟩ := R
  have hkey : (strKind P w).is z (.str z q) = true := strKind_is P w z q
  have hsc : (Value.str z q).scannable = true := rfl
  have hel : ElemsOf (strKind P w) es.toList := T.elems
  have hsize := T.size
  unfold setAddHashed setAddHashedIn
  refine wpAny_holding (wpAny_bind (wpAny_setState_of T.ob T.dat T.fit ?_))
  dsimp only
  rw [byScan_of hsc T.few hel, if_pos rfl]
  unfold setAddByScan
  refine wpAny_bind (wpAny_bind (wpAny_rule (wpAny_bind (wpAny_setScan_of hkey T.ob T.dat T.fit hel ?_))))
  cases hf : List.findIdx? (fun e => (strKind P w).is z e.2) es.toList with
  | some j =>
    dsimp only
    obtain ⟨hj, pj, _⟩ := List.findIdx?_eq_some_iff_getElem.mp hf
    have hz : z ∈ L := T.pm.mem_iff.mp (List.mem_map.mpr ⟨es.toList[j], List.getElem_mem hj, ((T.tx _ (List.getElem_mem hj)).is (P := P) z).mp pj⟩)
    have hh := hQ s.heap (Heap.SameBut.refl a s.heap)
    rw [if_pos hz, decide_eq_true hz] at hh
    exact wpAny_pure (wpAny_pure (hh ⟨o, es, ep, t, T⟩))
  | none =>
    dsimp only
    have hz : z ∉ L := fun hm => by
      obtain ⟨e, he, e1⟩ := List.mem_map.mp (T.pm.mem_iff.mpr hm)
      have c := List.findIdx?_eq_none_iff.mp hf e he
      rw [((T.tx e he).is (P := P) z).mpr e1] at c
      cases c
    have fin : ∀ h', Heap.SameBut a s.heap h' → TSetAt w h' a (z :: L) → Q true { s with heap := h' } := fun h' sb r => by
      have hh := hQ h' sb
      rw [if_neg hz, decide_eq_false hz] at hh
      exact hh r
    have hgw : ∀ (b : Bool) {u : Shared} {W : Unit → Shared → Prop}, W () u → wpAny (model P w) A (match b with | true => rule "set.scan.the-table-gave-way" | false => pure ()) W E u := fun b u W c => by
      cases b
      · exact wpAny_pure c
      · exact wpAny_rule c
    have p1 := layNew_perm t es ((strKind P w).hash z) (.str z q)
    have f1 := layNew_fits t es ((strKind P w).hash z) (.str z q)
    have r1 := layNew_ris t es ((strKind P w).hash z) (.str z q) T.ris
    have l1 := layNew_led t es ((strKind P w).hash z) (.str z q)
    show wpAny _ _ _ _ _ _
    have eh : hashStr w z = (strKind P w).hash z := rfl
    rw [eh]
    generalize layNew t es ((strKind P w).hash z) (.str z q) = Y at p1 f1 r1 l1 ⊢
    obtain ⟨fs, u, dm, gv⟩ := Y
    dsimp only at p1 f1 r1 l1 ⊢
    rw [Array.toList_push] at p1
    have pc : fs.toList.Perm ((hashStr w z, Value.str z q) :: es.toList) := p1.trans (List.perm_append_singleton _ _)
    have tx : ∀ e ∈ fs.toList, Tx w e := fun e he => by
      rcases List.mem_cons.mp (pc.mem_iff.mp he) with c | c
      · exact ⟨z, q, by rw [c], by rw [c]⟩
      · exact T.tx e c
    have pk : (fs.toList.map tkey).Perm (z :: L) := (pc.map tkey).trans (List.Perm.cons z T.pm)
    have zs : fs.size = L.length + 1 := by
      have c := pk.length_eq
      rw [List.length_map, Array.length_toList, List.length_cons] at c
      exact c
    have few : fs.size < scanBound := by rw [zs]; exact room
    have nd : (z :: L).Nodup := List.nodup_cons.mpr ⟨hz, T.nd⟩
    have led : w.params.followText "set-order" = true ∨ u.led = true := T.led.imp id fun c => by rw [l1]; exact c
    refine wpAny_bind (hgw _ ?_)
    have hg : ∀ (b : Bool) (u : Shared) (W : Unit → Shared → Prop), W () u → wpAny (model P w) A (match b with | true => rule "set.scan.the-table-gave-way" | false => pure ()) W E u := fun b u W c => hgw b c
    split
    · refine wpAny_bind ?_
      rw [hashByValue_scannable 8 hsc]
      refine wpAny_pure ?_
      refine tset_lay (L := z :: L) ?_ T.ob T.ex T.dat tx pk nd few ?_ ?_ ?_ ?_
      · intro b u W c
        cases b
        · exact wpAny_pure c
        · exact wpAny_rule c
      · first | exact f1 | (split <;> first | exact f1 | exact SetTable.fits_plain_off f1)
      · first | exact r1 | (split <;> exact r1)
      · first | exact led | (split <;> exact led)
      · intro h' sb r
        dsimp only
        exact wpAny_pure (fin h' sb r)
    · refine wpAny_bind (wpAny_pure ?_)
      simp only [↓reduceIte]
      refine tset_lay (L := z :: L) ?_ T.ob T.ex T.dat tx pk nd few f1 r1 led ?_
      · intro b u W c
        cases b
        · exact wpAny_pure c
        · exact wpAny_rule c
      · intro h' sb r
        dsimp only
        exact wpAny_pure (fin h' sb r)
end
end LF

set_option Elab.async false
set_option linter.all false
set_option maxRecDepth 100000
set_option maxHeartbeats 4000000
namespace LF
open PySem PySem.Spec PyProof.Rows L2
/-- the texts of a list, each once: the last that came stands first -/
def once : List Str → List Str → List Str
  | L, [] => L
  | L, z :: r => once (if z ∈ L then L else z :: L) r
theorem once_app : ∀ (xs ys L : List Str), once L (xs ++ ys) = once (once L xs) ys
  | [], _, _ => rfl
  | x :: xs, ys, L => once_app xs ys _
theorem mem_once : ∀ (xs L : List Str) (z : Str), z ∈ once L xs ↔ z ∈ L ∨ z ∈ xs
  | [], L, z => by simp [once]
  | x :: xs, L, z => by
    unfold once
    rw [mem_once xs]
    by_cases h : x ∈ L
    · rw [if_pos h, List.mem_cons]
      constructor
      · rintro (q | q)
        · exact Or.inl q
        · exact Or.inr (Or.inr q)
      · rintro (q | rfl | q)
        · exact Or.inl q
        · exact Or.inl h
        · exact Or.inr q
    · rw [if_neg h, List.mem_cons, List.mem_cons]
      constructor
      · rintro ((q | q) | q)
        · exact Or.inr (Or.inl q)
        · exact Or.inl q
        · exact Or.inr (Or.inr q)
      · rintro (q | q | q)
        · exact Or.inl (Or.inr q)
        · exact Or.inl (Or.inl q)
        · exact Or.inr q
theorem once_len : ∀ (xs L : List Str), (once L xs).length ≤ L.length + xs.length
  | [], L => Nat.le_refl _
  | x :: xs, L => by
    unfold once
    refine Nat.le_trans (once_len xs _) ?_
    rw [List.length_cons]
    split
    · omega
    · rw [List.length_cons]; omega
theorem once_nodup : ∀ (xs L : List Str), L.Nodup → (once L xs).Nodup
  | [], L, h => h
  | x :: xs, L, h => by
    unfold once
    refine once_nodup xs _ ?_
    split
    · exact h
    · rename_i q
      exact List.nodup_cons.mpr ⟨q, h⟩
theorem once_next {ws : List Str} {i : Nat} {z : Str} (h : ws[i]? = some z) (L : List Str) : once L (ws.take (i + 1)) = (if z ∈ once L (ws.take i) then once L (ws.take i) else z :: once L (ws.take i)) := by
  rw [List.take_add_one, h]
  show once L (ws.take i ++ [z]) = _
  rw [once_app]; rfl
section
variable {P : Program} {w : World} {A : Around} {E : Value → Shared → Prop} {s : Shared}
/-- the loop of set.update: one text a turn -/
theorem tset_loop {I : Addr} {fp wr : List Addr} {G : Array GenState → Array GenState → Prop} {n : Nat} {Pv : Nat → Value → Prop} {St : Nat → Shared → Prop} {R : Result → Shared → Prop}
    (W : WalksS P w A.in1 I fp wr G n Pv St) (S : Addr) (apart : S ∉ fp) (ws : List Str) (hn : n = ws.length) (room : ws.length + 1 < scanBound) (val : ∀ i v, Pv i v → ∃ z q, ws[i]? = some z ∧ v = .str z q) :
    ∀ (left i : Nat) (u : Shared), n - i = left → i ≤ n → St i u → TSetAt w u.heap S (once [] (ws.take i)) →
      (∀ u', Moved (S :: wr) G u u' → TSetAt w u'.heap S (once [] ws) → R (.ok (.ret .none)) u') → codeAny (model P w) A (.builtin "set.update.loop" ⟨[.ref S, .ref I], []⟩) R u := by
  have Swr : S ∉ wr := fun c => apart (W.sub _ c)
  have wide : ∀ b ∈ wr, b ∈ S :: wr := fun b c => List.mem_cons_of_mem _ c
  intro left
  induction left with
  | zero =>
    intro i u hl hi st T hR
    obtain rfl : i = n := by omega
    refine codeAny_builtin F.entry_set_update_loop ?_
    rw [Around.under_plainId F.plain_set_update_loop _]
    show wpAny _ A.in1 (pyNext (.ref I) >>= _) _ _ u
    refine wpAny_bind (W.done u _ _ st fun u' mv => ?_)
    show wpAny _ A.in1 (ret Value.none) _ _ u'
    rw [hn, List.take_length] at T
    exact wpAny_pure (hR u' (mv.mono wide) (T.at fun o e => mv.heap S o Swr e))
  | succ left ih =>
    intro i u hl hi st T hR
    have lt : i < n := by omega
    refine codeAny_builtin F.entry_set_update_loop ?_
    rw [Around.under_plainId F.plain_set_update_loop _]
    show wpAny _ A.in1 (pyNext (.ref I) >>= _) _ _ u
    refine wpAny_bind (W.item i u _ _ lt st fun v u' hv st' mv => ?_)
    obtain ⟨z, q, hz, rfl⟩ := val i v hv
    have T' := T.at (h' := u'.heap) fun o e => mv.heap S o Swr e
    have nx := once_next hz []
    have few := once_len (ws.take i) []
    rw [List.length_take] at few
    generalize once [] (ws.take i) = D at T' nx few
    show wpAny _ A.in1 (holding [Value.str z q] (setAdd S (.str z q)) >>= _) _ _ u'
    refine wpAny_bind (wpAny_holding ?_)
    unfold setAdd
    refine wpAny_holding ?_
    refine wpAny_bind ((strKind P w).pyHash (strKind_is P w z q) ?_)
    refine tset_hashed (s := { u' with toks := u'.toks + 1 }) T' (by have h0 : ([] : List Str).length = 0 := rfl; omega) fun h' sb T2 => ?_
    rw [← nx] at T2
    have off : ∀ b o, b ≠ S → u'.heap.get? b = some o → h'.get? b = some o := fun b o c e => (sb.2 b c).trans e
    refine wpAny_pure ⟨plainId_quiet F.plain_set_update_loop _, ih (i + 1) _ (by omega) lt (W.frame _ u' _ _ st' (Nat.le_succ _) fun b c o e => off b o (fun c2 : b = S => apart (by rw [← c2]; exact c)) e) T2 fun u2 mv2 T3 => ?_⟩
    refine hR u2 (Moved.trans W.gtrans ((mv.mono wide).then_heap (Nat.le_succ _) fun b o c e => off b o (fun c2 : b = S => c (by rw [c2]; exact List.mem_cons_self)) e) mv2) T3
end
end LF

set_option Elab.async false
set_option linter.all false
set_option maxRecDepth 100000
set_option maxHeartbeats 4000000
namespace LF
open PySem PySem.Spec PyProof.Rows L2
section
variable {P : Program} {w : World} {A : Around} {E : Value → Shared → Prop} {s : Shared}
set_option maxHeartbeats 8000000 in
/-- set(xs), xs a list of texts -/
theorem tset_call {l : Addr} {items : Array Value} (ws : List Str) {Q : Value → Shared → Prop} (calm : A.handled = none) (hl : s.heap.IsList l items) (hit : StrsAre items.toList ws) (room : ws.length + 1 < scanBound)
    (hq : ∀ (h' : Heap) (tk : Nat), TSetAt w h' s.heap.objs.size (once [] ws) → (∀ b o, s.heap.get? b = some o → h'.get? b = some o) → Q (.ref s.heap.objs.size) { s with heap := h', toks := tk }) :
    wpAny (model P w) A (call (.type "set") [.ref l]) Q E s := by
  have isz : items.size = ws.length := by
    have c := hit.length
    rw [Array.length_toList] at c
    exact c
  obtain ⟨c0, t0, mro⟩ := F.called_set.mro
  have m1 := F.called_set.made
  have m2 := F.called_set.sub
  have m3 := F.called_set.notType
  have m4 := F.called_set.canCreate
  have m5 := F.typeCall_set_1 (.ref l)
  refine wpAny_call (codeAny_of_tree ?_)
  show wpAny _ _ (callAny (.type "set") _) _ _ _
  refine wpAny_pure ⟨Code.quiet_builtin _ (by decide +kernel), codeAny_builtin F.entry_type_call ?_⟩
  rw [Around.under_plain (weight_type_call_type "set" [.ref l] []) rfl]
  repeat (any_goals (first | assumption | wp_step))
  generalize ho0 : ({ cls := .type "set", dict := none, data := .set #[] 0 (.fresh 0 0 (!w.params.followText "set-order")) } : Obj) = o0
  have R0 : TSetAt w (s.heap.push o0) s.heap.objs.size [] := by rw [← ho0]; exact tset_new w
  have hcls : o0.cls = .type "set" := by rw [← ho0]
  have hfr : o0.isFreed = false := by rw [← ho0]; rfl
  refine codeAny_mono (code_set_led1 (.ref l) (E := E) (Q₁ := fun ob u => ob = .ref s.heap.objs.size ∧ u = { s with heap := s.heap.push o0 }) (by rw [ho0]; exact ⟨rfl, rfl⟩)) fun r u hr => ?_
  cases r with
  | error e => exact hr
  | ok fl =>
    cases fl with
    | ret ob =>
      obtain ⟨rfl, rfl⟩ := hr
      have hS : (s.heap.push o0).get? s.heap.objs.size = some o0 := Heap.get?_push_size _ hfr
      have hT : Shared.TypeIs { s with heap := s.heap.push o0 } (.ref s.heap.objs.size) "set" := ⟨_, hS, hcls⟩
      have hli := F.called_set.init.lookup
      have hbi := F.called_set.init.bind (.ref s.heap.objs.size)
      repeat (any_goals (first | assumption | wp_step))
      refine codeAny_mono (codeAny_call_builtin (R := wants (fun r u2 => r = .none ∧ ∃ h' tk, u2 = { s with heap := h', toks := tk } ∧ TSetAt w h' s.heap.objs.size (once [] ws) ∧ (∀ b o, s.heap.get? b = some o → h'.get? b = some o)) E) F.called_set.init.plain F.entry_set_init (check_set_init_1 hT ?_)) fun r2 u2 hr2 => ?_
      · obtain ⟨ol, hol, hcl, nl, hdl⟩ := hl
        obtain ⟨oc, od, oda, osl⟩ := ol
        simp only at hcl hdl
        subst hcl
        subst hdl
        have hol1 : (s.heap.push o0).get? l = some { cls := .type "list", dict := od, data := .seq items nl, slots := osl } := Heap.get?_push_of_some _ hol
        have n1 := F.sub_list_set
        have n2 := F.sub_list_frozenset
        have n3 : (Value.type "list" == Value.type "dict") = false := by decide
        have hl1 : (s.heap.push o0).IsList l items := ⟨_, hol1, rfl, nl, rfl⟩
        have lt : l < s.heap.objs.size := Heap.lt_size hol
        have c3 : A.in1.in1.in1.handled = none := by simp [calm]
        have z1 : (s.heap.push o0).objs.size = s.heap.objs.size + 1 := Heap.size_push ..
        have neI : l ≠ (s.heap.push o0).objs.size := by rw [z1]; exact Nat.ne_of_lt (Nat.lt_succ_of_lt lt)
        have apart : s.heap.objs.size ∉ [(s.heap.push o0).objs.size, l] := by
          rw [z1]
          simp only [List.mem_cons, List.mem_singleton, List.not_mem_nil, or_false, not_or]
          exact ⟨Nat.ne_of_lt (Nat.lt_succ_self _), Nat.ne_of_gt lt⟩
        have val : ∀ (i : Nat) (v : Value), items[i]? = some v → ∃ z q, ws[i]? = some z ∧ v = .str z q := fun i v hv => by
          have e1 : items.toList[i]? = some v := by rw [Array.getElem?_toList]; exact hv
          obtain ⟨z, q, rfl⟩ := hit.all v (List.mem_of_getElem? e1)
          refine ⟨z, q, ?_, rfl⟩
          rw [← hit.strs, List.getElem?_map, e1]; rfl
        have hin : ∀ b o, s.heap.get? b = some o → b < s.heap.objs.size := fun b o e => Heap.lt_size e
        subst ho0
        unfold Builtin.«set.__init__» noKeywords Builtin.Frozenset.updateFrom
        generalize hPI : pyIter = PI
        wp_walk
        subst hPI
        refine wpAny_pyIter_list hl1 ?_
        refine wpAny_bind (wpAny_runValue ?_)
        refine tset_loop ((Walks.list c3 _ l neI items).toS) s.heap.objs.size apart ws isz room val (items.size - 0) 0 _ (by omega) (Nat.zero_le _)
          ⟨⟨_, Heap.get?_push_size _ rfl, rfl, rfl⟩, (hl1.push _)⟩ (R0.at fun o e => Heap.get?_push_of_some _ e) fun u' mv T => ?_
        obtain ⟨h', g', d', tk', os'⟩ := u'
        have eg : g' = s.gens := mv.gens
        have ed : d' = s.drawn := mv.drawn
        have eo : os' = s.os := mv.os
        subst eg
        subst ed
        subst eo
        refine wpAny_pure ?_
        show wpAny _ _ (ret Value.none) _ _ _
        refine wpAny_pure ⟨rfl, h', tk', rfl, T, fun b o e => ?_⟩
        have ltb := Heap.lt_size e
        refine mv.heap b o (fun c => ?_) (Heap.get?_push_of_some _ (Heap.get?_push_of_some _ e))
        rcases List.mem_cons.mp c with c | c
        · exact absurd c (Nat.ne_of_lt ltb)
        · have c1 := List.mem_singleton.mp c
          rw [z1] at c1
          exact absurd c1 (Nat.ne_of_lt (Nat.lt_succ_of_lt ltb))
      · cases r2 with
        | error e => exact hr2
        | ok fl2 =>
          cases fl2 with
          | ret r =>
            obtain ⟨rfl, h', tk, rfl, T, k⟩ := hr2
            repeat (any_goals (first | assumption | wp_step))
            exact hq _ _ T k
          | _ => exact hr2.elim
    | _ => exact hr.elim
/-- sorted(found): its texts in some order, each once -/
theorem tset_sorted {a : Addr} {L : List Str} {Q : Value → Shared → Prop} (R : TSetAt w s.heap a L) (calm : A.handled = none) (hu : A.units + 64 < cLine)
    (hq : ∀ u p (out : List Value) (c : Nat) (ws : List Str), (∀ b o, s.heap.get? b = some o → u.heap.get? b = some o) → u.gens = s.gens → u.os = s.os → s.heap.objs.size ≤ p →
      u.heap.get? p = some (seqObj "list" out.toArray c) → PySem.W.EachIs (fun v z => ∃ q, v = Value.str z q) out ws → ws.Perm L → Q (.ref p) u) :
    wpAny (model P w) A (call (.builtin "sorted") [.ref a]) Q E s := by
  obtain ⟨o, es, ep, t, T⟩ := R
  refine Calls.call_function_entry kind_sorted plain_sorted entry_sorted (args_sorted1 _) ?_
  unfold Builtin.«sorted»
  refine wpAny_bind (m := checkCount "sorted" 1 1 _) (wpAny_pure ?_)
  refine wpAny_bind (collect_set (A := A.in1) calm ⟨o, T.ob, T.ex.1, T.dat⟩ T.fit T.few T.ris T.led fun u vs k1 hz g1 o1 pm => ?_)
  have each : ∀ vs : List Value, (∀ v ∈ vs, ∃ z q, v = Value.str z q) → PySem.W.EachIs (fun v z => ∃ q, v = Value.str z q) vs (vs.map fun v => tkey (0, v)) := by
    intro vs
    induction vs with
    | nil => intro _; exact .nil
    | cons v vs ih =>
      intro hv
      obtain ⟨z, q, rfl⟩ := hv v List.mem_cons_self
      exact .cons ⟨q, rfl⟩ (ih fun x hx => hv x (List.mem_cons_of_mem _ hx))
  have e1 := each vs fun v hv => by
    obtain ⟨e, he, rfl⟩ := List.mem_map.mp (pm.mem_iff.mp hv)
    obtain ⟨z, q, e1, _⟩ := T.tx e he
    exact ⟨z, q, e1⟩
  have p1 : (vs.map fun v => tkey (0, v)).Perm L := by
    refine List.Perm.trans (pm.map _) ?_
    rw [List.map_map]
    exact T.pm
  generalize vs.map (fun v => tkey (0, v)) = zs at e1 p1
  have zl := e1.length
  have ll : zs.length = es.size := by rw [p1.length_eq, T.size]
  have fw := fits_of_scanBound T.few
  refine wpAny_bind (wpAny_newList ?_ (by rw [zl, ll]; exact fw))
  have hoL : (u.heap.push (seqObj "list" vs.toArray 0)).get? u.heap.objs.size = some (seqObj "list" vs.toArray 0) := Heap.get?_push_size _ rfl
  have depth0 : ∀ z : Str, (PyData.str z).depth = 0 := fun z => by simp [PyData.depth]
  have al : PySem.W.AllAlike (zs.map PyData.str) := PySem.W.AllAlike.of fun b b' => by simp [PySem.W.alike]
  have so : PySem.W.Sortable (zs.map PyData.str) := PySem.W.Sortable.others fun b => ⟨fun c => (nomatch c), fun xs c => (nomatch c)⟩
  have er : PySem.W.EachIs (fun v (z : Str) => ∃ as, Reads (u.heap.push (seqObj "list" vs.toArray 0)) v (.str z) as ∧ u.heap.objs.size ∉ as) vs zs := e1.mono fun v z ⟨q, c⟩ => ⟨[], by rw [c]; exact .str _ _, List.not_mem_nil⟩
  refine wpAny_bind (wpAny_holding (PySem.W.list_sort_data (s := { u with heap := u.heap.push (seqObj "list" vs.toArray 0) }) (enc := PyData.str) hoL e1 er al so (by rw [ll]; exact fw) (fun b hb => ?_) fun out hl eo => ?_))
  · show A.units + 1 + 1 + (PyData.str b).depth < cLine
    rw [depth0]
    omega
  · obtain ⟨c, hc⟩ := sortedHeap_at (vs := vs) (out := out.toArray) hoL
    refine wpAny_pure ⟨_, rfl, hq _ u.heap.objs.size out c _ (fun b x e => ?_) g1 o1 hz hc eo ((List.mergeSort_perm zs _).trans p1)⟩
    have q := k1 b x e
    have lt := Heap.lt_size q
    show (sortedHeap (u.heap.push (seqObj "list" vs.toArray 0)) u.heap.objs.size vs out.toArray).get? b = some x
    rw [sortedHeap_old (Nat.ne_of_lt lt) (by rw [size_push']; exact Nat.lt_succ_of_lt lt)]
    exact Heap.get?_push_of_some _ q
end
/-- a set of texts in the heap -/
def SetTx (w : World) (a : Addr) (L : List Str) : HO := .ext fun h => TSetAt w h a L
theorem setTx_new {w : World} {P : Program} {H : Hp} {h : Heap} {a : Addr} {L : List Str} (R : TSetAt w h a L) : ObjOk P w H h a (SetTx w a L) := by
  have R' := R
  obtain ⟨o, es, ep, t, T⟩ := R'
  exact ⟨R, ⟨o, T.ob⟩, fun h1 h2 p k => TSetAt.at p k⟩
section
variable {X : Cx}
/-- set(xs), xs a list of texts -/
def rSetTx (K : PySem.W.Frag) (w : World) : List V → Hp → VK → Prop := fun xs H Q => ∃ (l : Addr) (ws : List Str), xs = [V.ref l] ∧ SqL K H l (ws.map V.str) ∧ ws.length + 1 < scanBound ∧ ∀ p, H p = none → Q (.ref p) (upd H p (SetTx w p (once [] ws)))
theorem call_setTx (hc : X.calm = true) : CallR X (.type "set") (rSetTx X.K X.w) := by
  intro pins s σ H xs us Q I r h
  obtain ⟨l, ws, rfl, hl, few, q⟩ := h
  rw [Vals.ref1 r]
  obtain ⟨its, rv, pl, hz⟩ := I.list hl
  refine tset_call (P := X.prog) (w := X.w) ws (I.ok.hd hc) pl.isList (by simpa using rv.strs) few fun h' tk R k => ?_
  exact ⟨.ref s.heap.objs.size, upd H s.heap.objs.size (SetTx X.w s.heap.objs.size (once [] ws)), I.laid (t' := tk) k (Nat.le_refl _) (setTx_new R), rfl, q _ (I.hok.fresh (Nat.le_refl _))⟩
theorem each_strs : ∀ {us : List Value} {ws : List Str}, PySem.W.EachIs (fun v z => ∃ q, v = Value.str z q) us ws → Vals (ws.map V.str) us
  | _, _, .nil => .nil
  | _, _, .cons ⟨q, e⟩ t => .cons ⟨q, e⟩ (each_strs t)
/-- sorted(found), found a set of texts -/
def rSortTx (w : World) : List V → Hp → VK → Prop := fun xs H Q => ∃ (a : Addr) (L : List Str), xs = [V.ref a] ∧ H a = some (SetTx w a L) ∧ L.length ≤ sizeLine ∧ ∀ (ws : List Str) (p : Addr), ws.Perm L → H p = none → Q (.ref p) (upd H p (.lst (ws.map V.str)))
theorem call_sortTx (hc : X.calm = true) (hu : X.A.units + 64 < cLine) : CallR X (.builtin "sorted") (rSortTx X.w) := by
  intro pins s σ H vs us Q I r h
  obtain ⟨a, L, rfl, ha, hz, q⟩ := h
  have R : TSetAt X.w s.heap a L := (I.hok a _ ha).1
  rw [Vals.ref1 r]
  refine tset_sorted R (I.ok.hd hc) hu fun u p out c ws k g o hp hg eo pm => ?_
  have len : (ws.map V.str).length ≤ sizeLine := by rw [List.length_map, pm.length_eq]; exact hz
  have new : H p = none := I.hok.fresh hp
  have J : Inv X pins σ (upd H p (.lst (ws.map V.str))) { s with heap := u.heap, gens := u.gens, drawn := u.drawn, toks := u.toks } :=
    I.call (ch := []) (Un.laid k hp new) (I.hok.laid k hp ⟨len, out, c, each_strs eo, hg⟩) (by rw [g]; exact I.bare) (fun _ z => nomatch z)
  have e : u = { s with heap := u.heap, gens := u.gens, drawn := u.drawn, toks := u.toks } := by
    cases u
    cases s
    cases o
    rfl
  rw [e]
  exact ⟨.ref p, _, J, rfl, q ws p pm new⟩
end
end LF

set_option Elab.async false
set_option linter.all false
set_option maxRecDepth 100000
set_option maxHeartbeats 4000000
namespace LF
open PySem PySem.Spec PyProof.Rows L2
open PySem.W (EachIs dataLe AllAlike Sortable)
/-- sorted(xs), xs values that read as alike data: rv tells what each stands for -/
def rSortD {β : Type} (K : PySem.W.Frag) (enc : β → PyData) : List V → Hp → VK → Prop := fun vs H Q => ∃ (rv : V → β → Prop) (a : Addr) (xs : List V) (bs : List β), vs = [.ref a] ∧ SqL K H a xs ∧ EachIs rv xs bs ∧
  EachIs (fun x b => Dp K H x (enc b)) xs bs ∧ AllAlike (bs.map enc) ∧ Sortable (bs.map enc) ∧ (∀ b ∈ bs, (enc b).depth ≤ 60) ∧
  ∀ ys p, EachIs rv ys (bs.mergeSort (dataLe false enc)) → H p = none → Q (.ref p) (upd H p (.lst ys))
theorem vals_back {β : Type} {rv : V → β → Prop} : ∀ {us : List Value} {bs : List β}, EachIs (fun u b => ∃ x, RelV x u ∧ rv x b) us bs → ∃ ys, Vals ys us ∧ EachIs rv ys bs
  | _, _, .nil => ⟨[], .nil, .nil⟩
  | _, _, .cons ⟨x, r, h⟩ t => by
    obtain ⟨ys, v, e⟩ := vals_back t
    exact ⟨x :: ys, .cons r v, .cons h e⟩
theorem each_both {β : Type} {rv rw : V → β → Prop} : ∀ {xs : List V} {us : List Value} {bs : List β}, Vals xs us → EachIs rv xs bs → EachIs rw xs bs → EachIs (fun u b => ∃ x, RelV x u ∧ rv x b) us bs ∧ EachIs (fun u b => ∃ x, RelV x u ∧ rw x b) us bs
  | _, _, _, .nil, .nil, .nil => ⟨.nil, .nil⟩
  | _, _, _, .cons r v, .cons h t, .cons h2 t2 => by
    obtain ⟨e1, e2⟩ := each_both v t t2
    exact ⟨.cons ⟨_, r, h⟩ e1, .cons ⟨_, r, h2⟩ e2⟩
section
variable {X : Cx}
theorem call_sortD {β : Type} {enc : β → PyData} (hu : X.A.units + 64 < cLine) : CallR X (.builtin "sorted") (rSortD X.K enc) := by
  intro pins s σ H vs us Q I r h
  obtain ⟨rv, a, xs, bs, rfl, hs, e1, e2, al, so, dep, q⟩ := h
  obtain ⟨its, rvs, hl, hz⟩ := I.list hs
  rw [Vals.ref1 r]
  obtain ⟨f1, f2⟩ := each_both rvs e1 e2
  have f3 : EachIs (fun u b => ∃ as, Reads s.heap u (enc b) as) its bs := f2.mono fun u b ⟨x, rx, d⟩ => Dp.reads I _ _ _ d rx
  have hzb : bs.length ≤ sizeLine := by rw [← e1.length]; exact hz
  refine PySem.W.sorted_data (R := fun u b => ∃ x, RelV x u ∧ rv x b) hl.isList f1 f3 al so hzb (fun b hb => ?_) fun out ho eo => ?_
  · have := dep b hb
    omega
  · obtain ⟨c, hc⟩ := PyProof.Rows.sortedAll_at s.heap its out.toArray
    obtain ⟨ys, v, ey⟩ := vals_back eo
    have hlen : ys.length ≤ sizeLine := by rw [v.length, ho]; exact hzb
    exact ⟨.ref _, upd H (s.heap.objs.size + 1) (.lst ys), I.laid (t' := s.toks) (fun _ _ => PyProof.Rows.sortedAll_old) (Nat.le_succ _) ⟨hlen, out, c, v, hc⟩, rfl, q ys _ ey (I.hok.fresh (Nat.le_succ _))⟩
end
end LF

set_option Elab.async false
set_option linter.all false
set_option maxRecDepth 100000
set_option maxHeartbeats 4000000
namespace KD
open PySem PySem.Spec PyProof.Rows L2 LF
open Evl (Ev EvL EvU EvT EvA Ex sq_of st_of)
open PySem.W (EachIs dataLe AllAlike Sortable)
theorem keep_unlock {b d : Addr} {H H' : Hp} {u : HO} {o : Obj} (h : H d = some u) (s : Keep b (upd H d (.frz o u)) H') : Keep b H (upd H' d u) := fun a x n e => by
  by_cases hb : a = d
  · subst hb
    rw [upd_same, ← e, h]
  · rw [upd_ne hb]
    exact s a x n (by rw [upd_ne hb]; exact e)
/-- places: pairs of a name and a path -/
def PlA (H : Hp) : V → Prop := fun v => ∃ q z t, v = .ref q ∧ H q = some (.tup [.str z, .str t]) ∧ isNm z = true ∧ Pth 30 t
def PlF (f : Addr) (xs : List V) (H : Hp) : Prop := ∀ v ∈ xs, ∃ q z t, v = .ref q ∧ q ≠ f ∧ H q = some (.tup [.str z, .str t]) ∧ isNm z = true ∧ Pth 30 t
theorem PlF.keep {f : Addr} {xs : List V} {H H' : Hp} (h : PlF f xs H) (k : Keep f H H') : PlF f xs H' := fun v hv => by
  obtain ⟨q, z, t, a, b, c, d⟩ := h v hv
  exact ⟨q, z, t, a, b, k _ _ b c, d⟩
theorem PlF.unlock {f d : Addr} {xs : List V} {H : Hp} {o : Obj} {u w : HO} (h : PlF f xs H) (hd : H d = some (.frz o u)) : PlF f xs (upd H d w) := fun v hv => by
  obtain ⟨q, z, t, a, b, c, e⟩ := h v hv
  refine ⟨q, z, t, a, b, ?_, e⟩
  rw [upd_ne (fun x => by rw [x, hd] at c; cases c)]; exact c
def encP (p : Str × Str) : PyData := .tuple [.str p.1, .str p.2]
theorem each_mem {α β : Type} {R : α → β → Prop} : ∀ {xs : List α} {bs : List β}, EachIs R xs bs → ∀ x ∈ xs, ∃ b, b ∈ bs ∧ R x b
  | _, _, .nil, _, h => nomatch h
  | _, _, .cons h t, x, hx => by
    rcases List.mem_cons.mp hx with rfl | hx
    · exact ⟨_, List.mem_cons_self, h⟩
    · obtain ⟨b, hb, r⟩ := each_mem t x hx
      exact ⟨b, List.mem_cons_of_mem _ hb, r⟩
theorem each_of {α β : Type} {R : α → β → Prop} : ∀ {xs : List α}, (∀ x ∈ xs, ∃ b, R x b) → ∃ bs, EachIs R xs bs
  | [], _ => ⟨[], .nil⟩
  | x :: xs, h => by
    obtain ⟨b, hb⟩ := h x List.mem_cons_self
    obtain ⟨bs, hs⟩ := each_of fun y hy => h y (List.mem_cons_of_mem _ hy)
    exact ⟨b :: bs, .cons hb hs⟩
def spPlaces : Sp := fun vs H Q _ => ∃ g, vs = [.ref g] ∧ Farm [] g H ∧ ∀ H' p xs, Ex H H' → H p = none → H' p = some (.lst xs) → (∀ v ∈ xs, PlA H' v) → xs.length ≤ 60 → Q (.ref p) H'
abbrev s__law_places : Stmt := topS 22
abbrev N__law_places : List Str := ["_law_farm_here", "_law_found", "_law_label", "_law_path", "_law_item"]
theorem sc__law_places : FnScope ["_law_farm_here", "_law_found", "_law_label", "_law_path", "_law_item"] ["_law_farm_here"] (defScope s__law_places) := ⟨rfl, rfl, rfl, by decide +kernel, rfl, by decide +kernel, by decide +kernel⟩
section
variable {P : Program} {w : World} {K : PySem.W.Frag} {mg : Str → Option Value} {base : Heap} {tk1 tk2 : Tok}
theorem ok_places {f f1 : Addr} {fd fd1 : FuncData} (F : Fun K "_law_places" "_law_places" s__law_places f fd) (T : Txt K mg tk1 tk2) (d__law_is_plain : DefAt P w K mg base "_law_is_plain" 1 f1 fd1 ["_law_entries_here", "_law_path"] spPlain) :
    FnOk P w K mg base CX0 2 f fd ["_law_farm_here"] spPlaces := by
  refine F.ok sc__law_places (fun vs H Q E h => ?_) (fun cdv A outer s H vs Q E hr h => ?_)
  · obtain ⟨g, rfl, _⟩ := h
    rfl
  have hu1 := hu_of hr
  have hu := hr.units
  refine ⟨_, (pss_cons (ps_set (i := 1) sc__law_places.nd rfl (Or.inl rfl) (pe_lst pa_nil))
    (Evl.pss_cut (ps_lock (ps_for PassesOwn.never rfl (pi_keys (pv 0)) (pg_name (i := 2) sc__law_places.nd rfl (Or.inl rfl)) (pss_one (ps_lock (ps_for PassesOwn.never rfl (pi_keys (pe_dget hu1 (pv 0) (pv 2) (fun _ _ => rfl))) (pg_name (i := 3) sc__law_places.nd rfl (Or.inl rfl)) (pss_cons (ps_set (i := 4) sc__law_places.nd rfl (Or.inl rfl) (pe_dget hu1 (pe_dget hu1 (pv 0) (pv 2) (fun _ _ => rfl)) (pv 3) (fun _ _ => rfl)))
    (pss_one (ps_if (PW.pt (pw_or (pt_val (pe_callB call_isi (by rfl) T.n_isinstance (by decide +kernel) (pa_cons (pv 4) (pa_cons (pe_bltn (v := .ty "int") (by rfl) T.n_int (by decide +kernel) rfl) pa_nil)))) (pw_or1 (pt_val (pe_callD d__law_is_plain (hr.mono (by decide)) (pa_cons (pe_dget hu1 (pv 0) (pv 2) (fun _ _ => rfl)) (pa_cons (pv 3) pa_nil))))))) (pss_one (ps_expr (pe_bm PySem.F.plainAttrs_list PySem.F.slot_list_append PySem.F.type_list_append mt_append (pv 1) (pa_cons (pe_tup (pa_cons (pv 2) (pa_cons (pv 3) pa_nil))) pa_nil)))) pss_nil))))))))
    (pss_one (ps_ret (pe_callB (call_sortD (enc := encP) hu) (by rfl) T.n_sorted (by decide +kernel) (pa_cons (pv 1) pa_nil)))))), ?_⟩
  obtain ⟨g, rfl, ⟨kvs, hg, _, hl3, hk⟩, hq⟩ := h
  refine ⟨by show 0 ≤ sizeLine; decide, fun fl nf => ?_⟩
  have nfg : g ≠ fl := fun x => by rw [x, nf] at hg; cases hg
  have x1 : Ex H (upd H fl (.lst [])) := Ex.new nf
  have hg1 := x1 _ _ hg
  have fl1 : (upd H fl (.lst [])) fl = some (.lst []) := upd_same
  have old : ∀ {a o}, H a = some o → a ≠ fl := fun h x => by rw [x, nf] at h; cases h
  generalize upd H fl (.lst []) = H1 at *
  refine ⟨fun σ' H' => ∃ v2 v3 v4 xs, σ' = [some (.ref g), some (.ref fl), v2, v3, v4] ∧ Keep fl H1 H' ∧ H' fl = some (.lst xs) ∧ PlF fl xs H' ∧ xs.length ≤ 60, ?_, ?_⟩
  · refine ⟨g, .dK kvs, hg1, trivial, fun od => ?_⟩
    refine ⟨_, rfl, g, od, rfl, Or.inl ⟨kvs, upd_same, ?_⟩⟩
    refine for_it walk_keys (fun i σ' H' => ∃ v2 v3 v4 xs, σ' = [some (.ref g), some (.ref fl), v2, v3, v4] ∧ Keep fl (upd H1 g (.frz od (.dK kvs))) H' ∧ H' fl = some (.lst xs) ∧ PlF fl xs H' ∧ xs.length ≤ 20 * i) ⟨_, _, _, [], rfl, Keep.refl _ _, by rw [upd_ne nfg.symm]; exact fl1, (fun _ h => nomatch h), Nat.zero_le _⟩ (fun i σ' H' _ ⟨_, _, _, _, _, k, _⟩ => k _ _ nfg upd_same) ?_ ?_
    · rintro i x σ' H2' H2 hi ⟨v2, v3, v4, xs, rfl, k2, hx, gx, lx⟩ ⟨rfl, kk, vv, hkv, rfl⟩
      obtain ⟨z, _, e0, hz, _, _, _⟩ := hk _ (List.mem_of_getElem? hkv)
      cases e0
      obtain ⟨vv', hv', hm'⟩ := val_some (kvs := kvs) (k := .inr z) (List.mem_map.mpr ⟨_, List.mem_of_getElem? hkv, rfl⟩)
      obtain ⟨z', e', e1, _, _, neg, es, _, hes, hen, hel⟩ := hk _ hm'
      cases e1
      have nef := old hes
      have he2 := k2 _ _ nef (by rw [upd_ne neg]; exact x1 _ _ hes)
      have hg2 := k2 _ _ nfg upd_same
      refine ⟨e', .dK es, he2, trivial, fun od2 => ?_⟩
      have dgg : ∀ {H3}, Keep fl (upd H2 e' (.frz od2 (.dK es))) H3 → DGet H3 g (.str z) (some (.ref e')) := fun k => by
        have : DGet _ g (kV (.inr z)) (valV kvs (.inr z)) := Or.inl ⟨kvs, .inr z, Or.inr ⟨od, k _ _ nfg (by rw [upd_ne neg.symm]; exact hg2)⟩, rfl, rfl⟩
        rw [hv'] at this; exact this
      refine ⟨_, rfl, _, rfl, g, .ref e', rfl, dgg (Keep.refl _ _), e', od2, rfl, Or.inl ⟨es, upd_same, ?_⟩⟩
      refine for_it walk_keys (fun j σ' H' => ∃ v3 v4 ys, σ' = [some (.ref g), some (.ref fl), some (.str z), v3, v4] ∧ Keep fl (upd H2 e' (.frz od2 (.dK es))) H' ∧ H' fl = some (.lst ys) ∧ PlF fl ys H' ∧ ys.length ≤ 20 * i + j) ⟨_, _, xs, rfl, Keep.refl _ _, by rw [upd_ne nef.symm]; exact hx, ?_, lx⟩ (fun j σ' H' _ ⟨_, _, _, _, k, _⟩ => k _ _ nef upd_same) ?_ ?_
      · intro v hv
        obtain ⟨q, z, t, a, b, c, d⟩ := gx v hv
        exact ⟨q, z, t, a, b, by rw [upd_ne (fun x => by rw [x, he2] at c; cases c)]; exact c, d⟩
      · rintro j x σ' H3' H3 hj ⟨v3, v4, ys, rfl, k3, hy, gy, ly⟩ ⟨rfl, kk, u, hku, rfl⟩
        have lj : j < es.length := hj
        have li : i < kvs.length := hi
        obtain ⟨⟨t, ek, ht⟩, _⟩ := hen _ (List.mem_of_getElem? hku)
        cases ek
        obtain ⟨v, hv, hm⟩ := val_some (kvs := es) (k := .inr t) (List.mem_map.mpr ⟨_, List.mem_of_getElem? hku, rfl⟩)
        have lt := ht.len
        have he3 := k3 _ _ nef upd_same
        have dge : DGet H3 e' (.str t) (some v) := by
          have : DGet H3 e' (kV (.inr t)) (valV es (.inr t)) := Or.inl ⟨es, .inr t, Or.inr ⟨od2, he3⟩, rfl, rfl⟩
          rw [hv] at this; exact this
        refine ⟨_, rfl, _, rfl, g, .ref e', rfl, dgg k3, _, rfl, e', v, rfl, dge, ?_⟩
        have hty : ∃ ty c, TyX K H3 v (.type ty) ∧ PySem.W.kitOne K (.type ty) (.type "int") = some c := by
          rcases (hen _ hm).2 with h | ⟨i, h⟩ | ⟨s, h⟩
          · cases h; exact ⟨"NoneType", false, .base .non, kit_ty (by decide +kernel)⟩
          · cases h; exact ⟨"int", true, .base (.int i), kit_ty (by decide +kernel)⟩
          · cases h; exact ⟨"str", false, .base (.str s), kit_ty (by decide +kernel)⟩
        obtain ⟨ty, c, hty, hkit⟩ := hty
        have stay : ∀ {H4}, Ex H3 H4 → ∃ v3 v4 ys, [some (V.ref g), some (.ref fl), some (.str z), some (.str t), some v] = [some (.ref g), some (.ref fl), some (.str z), v3, v4] ∧ Keep fl (upd H2 e' (.frz od2 (.dK es))) H4 ∧ H4 fl = some (.lst ys) ∧ PlF fl ys H4 ∧ ys.length ≤ 20 * i + (j + 1) := fun e4 => ⟨_, _, ys, rfl, k3.trans (Same.keep e4), e4 _ _ hy, gy.keep (Same.keep e4), by omega⟩
        have app : ∀ {D : Ends} {H4}, Ex H3 H4 → (∀ σ2 H5, (∃ v3 v4 ys, σ2 = [some (.ref g), some (.ref fl), some (.str z), v3, v4] ∧ Keep fl (upd H2 e' (.frz od2 (.dK es))) H5 ∧ H5 fl = some (.lst ys) ∧ PlF fl ys H5 ∧ ys.length ≤ 20 * i + (j + 1)) → D.nx σ2 H5) →
            tDrop (tBM K "list" rAppend (tVar 1) (tCons (tTup (tCons (tVar 2) (tCons (tVar 3) tNil))) tNil)) D [some (V.ref g), some (.ref fl), some (.str z), some (.str t), some v] H4 := fun e4 k => by
          have hy4 := e4 _ _ hy
          refine ⟨_, rfl, Or.inl ⟨rfl, _, SqL.of hy4⟩, _, rfl, _, rfl, by show 2 ≤ sizeLine; decide, fun q hq2 => ?_⟩
          have nqf : q ≠ fl := fun x => by rw [x, hy4] at hq2; cases hq2
          refine ⟨fl, ys, .ref q, rfl, rfl, by rw [upd_ne nqf.symm]; exact hy4, Evl.sz_lt (by omega), k _ _ ⟨_, _, ys ++ [.ref q], rfl, keep_put ((k3.trans (Same.keep e4)).trans (Same.keep (Ex.new hq2))), upd_same, fun u hu => ?_, by rw [List.length_append]; simp; omega⟩⟩
          rcases List.mem_append.mp hu with hu | hu
          · obtain ⟨q', z', t', a, b, c, d⟩ := gy u hu
            exact ⟨q', z', t', a, b, by rw [upd_ne b]; exact Ex.new hq2 _ _ (e4 _ _ c), d⟩
          · exact ⟨q, z, t, List.mem_singleton.mp hu, nqf, by rw [upd_ne nqf]; exact upd_same, hz, ht⟩
        refine ⟨_, rfl, v, .ty "int", _, _, c, rfl, .ty _, hty, hkit, _, rfl, ?_⟩
        cases c with
        | true => exact app (Ex.refl _) fun _ _ h => h
        | false =>
          refine ⟨_, rfl, _, rfl, g, .ref e', rfl, dgg k3, _, rfl, e', t, od2, es, rfl, he3, hen, hel, by omega, fun H4 c e4 => ⟨c, rfl, ?_⟩⟩
          cases c with
          | true => exact app e4 fun _ _ h => h
          | false => exact stay e4
      · rintro σ' H3 ⟨v3, v4, ys, rfl, k3, hy, gy, ly⟩
        have he3 := k3 _ _ nef upd_same
        refine ⟨he3, _, _, _, ys, rfl, k2.trans (keep_unlock he2 k3), by rw [upd_ne nef.symm]; exact hy, gy.unlock he3, by omega⟩
    · rintro σ' H3 ⟨v2, v3, v4, ys, rfl, k3, hy, gy, ly⟩
      have hg3 := k3 _ _ nfg upd_same
      exact ⟨hg3, v2, v3, v4, ys, rfl, keep_unlock hg1 k3, by rw [upd_ne nfg.symm]; exact hy, gy.unlock hg3, by omega⟩
  · rintro σ' H2 ⟨v2, v3, v4, xs, rfl, k2, hx, gx, lx⟩
    obtain ⟨bs, hbs⟩ := each_of (R := fun v (p : Str × Str) => ∃ q, v = V.ref q ∧ H2 q = some (.tup [.str p.1, .str p.2]) ∧ isNm p.1 = true ∧ Pth 30 p.2) (xs := xs) fun v hv => by
      obtain ⟨q, z, t, a, _, c, d, e⟩ := gx v hv
      exact ⟨(z, t), q, a, c, d, e⟩
    refine ⟨_, rfl, _, fl, xs, bs, rfl, SqL.of hx, hbs, hbs.mono fun v p ⟨q, e, h, _⟩ => ?_, AllAlike.of fun x y => by simp [encP, PySem.W.alike, PySem.W.alikeAll], Sortable.tuples fun p => ⟨_, _, rfl⟩, fun p _ => by simp [encP, PyData.depth, PyData.depthAll], fun ys p hys hp => ?_⟩
    · have hlen : ys.length = xs.length := by rw [hys.length, List.length_mergeSort, ← hbs.length]
      have nfp : H p = none := by
        cases hh : H p with
        | none => rfl
        | some o => rw [k2 _ _ (old hh) (x1 _ _ hh)] at hp; cases hp
      refine hq _ p ys (fun a o h => Ex.new hp _ _ (k2 _ _ (old h) (x1 _ _ h))) nfp upd_same (fun v hv => ?_) (by omega)
      obtain ⟨p', _, q, e, h, h1, h2⟩ := each_mem hys v hv
      exact ⟨q, p'.1, p'.2, e, Ex.new hp _ _ h, h1, h2⟩
    · rw [e]
      exact .tup (SqT.of h) (.cons (.str _) (.cons (.str _) .nil))
end
end KD

set_option Elab.async false
set_option linter.all false
set_option maxRecDepth 100000
set_option maxHeartbeats 4000000
namespace LF
open PySem PySem.Spec PyProof.Rows L2 TL KD
theorem strOk_low {z : Str} (h : low z) : PyData.strOk z = true := by
  unfold PyData.strOk
  rw [Array.all_eq_true']
  intro c hc
  have h1 := h c (Array.mem_toList_iff.mpr hc)
  have h2 : ∀ d ∈ letters.cps.toList, d < 0x110000 := by decide +kernel
  exact decide_eq_true (h2 c h1)
theorem strOk_join {ns : List Str} (h : ∀ n ∈ ns, isNm n = true) : PyData.strOk (PySem.Txt.join c_sl ns) = true := by
  unfold PyData.strOk
  rw [Array.all_eq_true']
  intro c hc
  have h1 : c ∈ TL.tl (PySem.Txt.join c_sl ns) := Array.mem_toList_iff.mpr hc
  have h2 : ∀ d ∈ letters.cps.toList, d < 0x110000 := by decide +kernel
  rw [TL.join_eq, TL.tl_join, tl_sl] at h1
  refine decide_eq_true ?_
  clear hc
  induction ns with
  | nil => exact nomatch h1
  | cons a l ih =>
    have ha : c ∈ TL.tl a → c < 0x110000 := fun q => h2 c ((isNm_iff.mp (h a List.mem_cons_self)).2 c q)
    cases l with
    | nil => exact ha h1
    | cons b l =>
      have h3 : c ∈ TL.tl a ++ ([47] ++ TL.joinL [47] ((b :: l).map TL.tl)) := h1
      rcases List.mem_append.mp h3 with q | q
      · exact ha q
      · rcases List.mem_append.mp q with q | q
        · rw [List.mem_singleton.mp q]; decide
        · exact ih (fun n hn => h n (List.mem_cons_of_mem _ hn)) q
theorem strOk_nm {z : Str} (h : isNm z = true) : PyData.strOk z = true := strOk_low (isNm_iff.mp h).2
theorem Pth.strOk {k : Nat} {z : Str} (h : Pth k z) : PyData.strOk z = true := by
  obtain ⟨ns, rfl, _, hs⟩ := h
  exact strOk_join hs
end LF

set_option Elab.async false
set_option linter.all false
set_option maxRecDepth 100000
set_option maxHeartbeats 4000000
namespace LF
open PySem PySem.Spec PyProof.Rows L2
open Evl (Ev EvL EvU EvT EvA EvO Ex sq_of st_of)
theorem TyX.same {K : PySem.W.Frag} {H H' : Hp} {x : V} {t : Value} (h : TyX K H x t) (s : Same H H') : TyX K H' x t := by
  cases h with
  | base b =>
    refine .base ?_
    cases b with
    | non => exact .non
    | bl x => exact .bl x
    | int i => exact .int i
    | str z => exact .str z
    | flt x => exact .flt x
    | lst e => exact .lst (s _ _ e)
    | frz e => exact .frz (s _ _ e)
    | tup e => exact .tup (s _ _ e)
    | dK e => exact .dK (s _ _ e)
    | dT e => exact .dT (s _ _ e)
    | ins e c a n t m => exact .ins (s _ _ e) c a n t m
  | byt b => exact .byt b
  | set e => exact .set (s _ _ e)
  | kList e c => exact .kList e c
  | kTuple e c => exact .kTuple e c
  | kDict e c => exact .kDict e c
  | fTuple e => exact .fTuple (s _ _ e)
  | fDict e => exact .fDict (s _ _ e)
/-- == of data, one of them flat -/
def rEqQ (K : PySem.W.Frag) : R2 := fun x y H Q => ∃ d e, Dp K H x d ∧ Dp K H y e ∧ d.canLay0 = true ∧ e.canLay0 = true ∧ e.depth ≤ 60 ∧ Q (.bl (PyData.eqv d e)) H
theorem op_eqQ {X : Cx} (hu : X.A.units + 64 < cLine) : OpR X (compareOp .Eq) (rEqQ X.K) := by
  intro pins s σ H x y v u Q I rx ry h
  obtain ⟨d, e, hd, he, sd, se, hz, q⟩ := h
  obtain ⟨as, r1⟩ := Dp.reads I d x v hd rx
  obtain ⟨bs, r2⟩ := Dp.reads I e y u he ry
  have h2 : min d.depth e.depth ≤ e.depth := Nat.min_le_right _ _
  exact SeqAt.compareEq_reads r1 r2 sd se (by omega) ⟨.bl _, H, I, rfl, q⟩
section
variable {K : PySem.W.Frag} {σ : L2.St} {H H' : Hp} {ta tb te tx : TE} {t u : TT} {x y z v : V} {d e : PyData}
/-- == '' of anything -/
theorem ev_eqE (h : EvD te σ H d) : Ev (tOp (rEqQ K) te (tC (.str ""))) σ H (.bl (isStr d && decide (txt d = ""))) := by
  obtain ⟨x, h1, h2⟩ := h
  refine Evl.ev_op h1 Evl.ev_c fun H1 e Q q => ⟨d, .str "", Dq.dp _ _ (Dq.same e _ _ h2), .str _, Dq.lay _ _ h2, by simp [PyData.canLay0]; decide +kernel, by simp [PyData.depth], ?_⟩
  have : PyData.eqv d (.str "") = (isStr d && decide (txt d = "")) := by
    cases d <;> simp [PyData.eqv, isStr, txt]
    rw [Bool.eq_iff_iff, beq_iff_eq]; exact decide_eq_true_iff.symm
  rw [this]; exact q H1 (Ex.refl H1)
/-- == () of a tuple -/
theorem ev_eqN (h : EvD te σ H d) (ht : isTup d = true) : Ev (tOp (rEqQ K) te (tTup tNil)) σ H (.bl (decide (((items d).length : Int) = 0))) := by
  obtain ⟨x, h1, h2⟩ := h
  refine Evl.ev_opU h1 (Evl.eu_tup Evl.ea_nil (by simp)) fun p H1 hp e => fun H2 e2 Q q => ⟨d, .tuple [], Dq.dp _ _ (Dq.same (e.trans e2) _ _ h2), .tup (SqT.of (e2 _ _ hp)) .nil, Dq.lay _ _ h2, by simp [PyData.canLay0, PyData.canLayAll0], by simp [PyData.depth, PyData.depthAll], ?_⟩
  have : PyData.eqv d (.tuple []) = decide (((items d).length : Int) = 0) := by
    cases d with
    | tuple ds =>
      cases ds with
      | nil => simp [PyData.eqv, PyData.eqvAll, items]
      | cons a l =>
        simp only [PyData.eqv, PyData.eqvAll, items, List.length_cons]
        exact (decide_eq_false (by omega)).symm
    | _ => cases ht
  rw [this]; exact q H2 (Ex.refl H2)
theorem et_neI {i j : Int} (ha : Ev ta σ H (.int i)) (hb : Ev tb σ H (.int j)) : Ev (tOp rNe ta tb) σ H (.bl (!decide (i = j))) :=
  Evl.ev_is (Evl.ev_op ha hb (Evl.rv_ne rfl)) (by rw [vint_dec])
/-- a comprehension over a text's signs -/
theorem el_lcS {z : Str} {tl : TE} {j : Nat} (ys : List V) (h : Ev tl σ H (.str z)) (hl : ys.length = z.cps.size) (hz : ys.length ≤ 40000)
    (hs : ∀ (i c : Nat) (y : V) (H1 : Hp), Ex H H1 → z.cps[i]? = some c → ys[i]? = some y → Ev te ((wipe σ [j]).set j (some (.str ⟨#[c]⟩))) H1 y) :
    EvL (tLc (iStr tl) (gName j) tYes te [j]) σ H ys := fun H0 e Q q => h H0 e _ fun H1 e1 => ⟨z, rfl, fun Dl hD =>
  ⟨fun i m H' => m = z.cps.size - i ∧ i ≤ z.cps.size ∧ Ex H1 H' ∧ H' Dl = some (.lst (ys.take i)), ⟨z.cps.size, rfl, Nat.zero_le _, Ex.new hD, by rw [List.take_zero]; exact upd_same⟩, fun i m H' hw => by
    obtain ⟨rfl, hi, x1, x2⟩ := hw
    by_cases hlt : i < z.cps.size
    · refine Or.inr ⟨hlt, fun H2 => Ex H1 H2 ∧ H2 Dl = some (.lst (ys.take (i + 1))), fun H2 p => ⟨z.cps.size - (i + 1), by omega, rfl, hlt, p⟩, fun v H2 hy => ?_⟩
      obtain ⟨rfl, c, hc, rfl⟩ := hy
      have hyi : ys[i]? = some ys[i] := List.getElem?_eq_getElem (by omega)
      have key : te ((wipe σ [j]).set j (some (.str ⟨#[c]⟩))) H2 (fun y H4 => ∃ acc, H4 Dl = some (.lst acc) ∧ acc.length < sizeLine ∧ (Ex H1 (upd H4 Dl (.lst (acc ++ [y]))) ∧ upd H4 Dl (.lst (acc ++ [y])) Dl = some (.lst (ys.take (i + 1))))) := by
        refine hs i c _ H2 ((e.trans e1).trans x1) hc hyi H2 (Ex.refl H2) _ fun H4 e4 => ⟨ys.take i, e4 _ _ x2, ?_, Ex.mut (x1.trans e4) hD, ?_⟩
        · rw [List.length_take]; exact Evl.sz_lt (by omega)
        · rw [upd_same, List.take_add_one, hyi]; rfl
      exact ⟨wipe_set, key⟩
    · refine Or.inl ⟨by show z.cps.size ≤ i; omega, q Dl H' (Evl.fresh_back e1 hD) (e1.trans x1) ?_⟩
      rw [List.take_of_length_le (by omega)] at x2
      exact x2⟩⟩
/-- zip(t, t[1:]), t a tuple -/
theorem el_lcZ {tl : TE} {g : TG} {vs : List Nat} {a : Addr} {xs : List V} (ys : List V) (h : ∀ H', Ex H H' → Ev tl σ H' (.ref a)) (hx : H a = some (.tup xs)) (hl : ys.length = xs.length - 1) (hz : xs.length ≤ 40000)
    (hs : ∀ (i : Nat) (x x' y : V) (T : Addr) (H1 : Hp) (R : L2.St → Hp → Prop), Ex H H1 → H1 T = some (.tup [x, x']) → xs[i]? = some x → xs[i + 1]? = some x' → ys[i]? = some y → (∀ σ2, wipe σ2 vs = wipe σ vs → Ev te σ2 H1 y → R σ2 H1) → g (.ref T) (wipe σ vs) H1 R) :
    EvL (tLc (RZ.iZipA K (tCons tl (tCons (tSl (rSlA K) tl (tPart (tC (.int 1))) tNoPart) tNil))) g tYes te vs) σ H ys := fun H0 e0 Q q => by
  refine h H0 e0 H0 (Ex.refl H0) _ fun H1 e1 => ?_
  refine h H1 (e0.trans e1) H1 (Ex.refl H1) _ fun H2 e2 => ⟨1, rfl, ?_⟩
  have hx2 := (e0.trans (e1.trans e2)) _ _ hx
  -- the walk, once the second tuple stands
  have walk : ∀ (b : Addr) (H3 : Hp), Ex H2 H3 → H3 b = some (.tup (xs.drop 1)) → ∀ Dl, H3 Dl = none → ∃ W : Nat → Nat → Hp → Prop, (∃ m, W 0 m (upd H3 Dl (.lst []))) ∧ ∀ i m H, W i m H →
      ((RZ.ItzT K a b).stop i H ∧ Q (.ref Dl) H) ∨ ((RZ.ItzT K a b).go i H ∧ ∃ Nx : Hp → Prop, (∀ H', Nx H' → ∃ m', m' < m ∧ W (i + 1) m' H') ∧ ∀ x H', (RZ.ItzT K a b).yld i H x H' → g x (wipe σ vs) H' fun σ2 H2 => wipe σ2 vs = wipe σ vs ∧ tYes σ2 H2 fun b H3 =>
        if b = true then te σ2 H3 fun y H4 => ∃ acc, H4 Dl = some (.lst acc) ∧ acc.length < sizeLine ∧ Nx (upd H4 Dl (.lst (acc ++ [y]))) else Nx H3) := by
    intro b H3 e3 hb Dl hD
    have e13 := (e1.trans e2).trans e3
    refine ⟨fun i m H' => m = ys.length - i ∧ i ≤ ys.length ∧ Ex H3 H' ∧ H' Dl = some (.lst (ys.take i)), ⟨ys.length, rfl, Nat.zero_le _, Ex.new hD, by rw [List.take_zero]; exact upd_same⟩, fun i m H' hw => ?_⟩
    obtain ⟨rfl, hi, x1, x2⟩ := hw
    have sa : SqT K H' a xs := st_of ((e13.trans x1) _ _ (e0 _ _ hx))
    have sb : SqT K H' b (xs.drop 1) := st_of (x1 _ _ hb)
    by_cases hlt : i < ys.length
    · have g1 : xs[i]? = some xs[i] := List.getElem?_eq_getElem (by omega)
      have g2 : xs[i + 1]? = some xs[i + 1] := List.getElem?_eq_getElem (by omega)
      have g3 : (xs.drop 1)[i]? = some xs[i + 1] := by rw [List.getElem?_drop, Nat.add_comm 1 i]; exact g2
      refine Or.inr ⟨⟨xs, xs.drop 1, _, _, sa, sb, g1, g3⟩, fun H2 => Ex H3 H2 ∧ H2 Dl = some (.lst (ys.take (i + 1))), fun H2 p => ⟨ys.length - (i + 1), by omega, rfl, hlt, p⟩, fun v H4 hy => ?_⟩
      obtain ⟨T, x, x', rfl, hT, rfl, f1, f2⟩ := hy
      have hyi : ys[i]? = some ys[i] := List.getElem?_eq_getElem hlt
      have k1 := (f1 xs sa).symm.trans g1
      have k2 := (f2 _ sb).symm.trans g3
      refine hs i x x' _ T _ _ (e0.trans (e13.trans (x1.trans (Ex.new hT)))) upd_same (f1 xs sa) (by rw [g2, ← k2]) hyi fun σ2 hw hev => ?_
      have key : te σ2 (upd H' T (.tup [x, x'])) (fun y H4 => ∃ acc, H4 Dl = some (.lst acc) ∧ acc.length < sizeLine ∧ (Ex H3 (upd H4 Dl (.lst (acc ++ [y]))) ∧ upd H4 Dl (.lst (acc ++ [y])) Dl = some (.lst (ys.take (i + 1))))) := by
        refine hev _ (Ex.refl _) _ fun H4 e4 => ⟨ys.take i, e4 _ _ ((Ex.new hT) _ _ x2), ?_, Ex.mut (x1.trans ((Ex.new hT).trans e4)) hD, ?_⟩
        · rw [List.length_take]; exact Evl.sz_lt (by omega)
        · rw [upd_same, List.take_add_one, hyi]; rfl
      exact ⟨hw, key⟩
    · refine Or.inl ⟨⟨xs, xs.drop 1, sa, sb, Or.inr (by rw [List.length_drop]; omega)⟩, q Dl H' (Evl.fresh_back e13 hD) (e13.trans x1) ?_⟩
      rw [List.take_of_length_le (by omega)] at x2
      exact x2
  refine ⟨a, xs, rfl, st_of hx2, fun hw => ?_, fun hw p hp => ?_⟩
  · have h0 : xs = [] := by
      have h1 := hw.1
      rw [show (some (1 : Int)) = some ((1 : Nat) : Int) from rfl, HT.sIx_nat] at h1
      exact List.length_eq_zero_iff.mp (by omega)
    refine ⟨a, a, xs, xs, rfl, Or.inr ⟨st_of hx2, st_of hx2, fun Dl hD => ?_⟩⟩
    exact walk a H2 (Ex.refl H2) (by rw [hx2, h0]; rfl) Dl hD
  · have hc : cutV xs (some 1) none = xs.drop 1 := by
      unfold cutV
      rw [HT.sIx_none, show (some (1 : Int)) = some ((1 : Nat) : Int) from rfl, HT.sIx_nat]
      by_cases h0 : 1 ≤ xs.length
      · rw [Nat.min_eq_left h0]
        exact List.take_of_length_le (by rw [List.length_drop]; omega)
      · have : xs = [] := List.length_eq_zero_iff.mp (by omega)
        subst this; rfl
    refine ⟨a, p, xs, xs.drop 1, rfl, Or.inr ⟨st_of ((Ex.new hp) _ _ hx2), st_of (by rw [upd_same, hc]), fun Dl hD => ?_⟩⟩
    exact walk p _ (Ex.new hp) (by rw [upd_same, hc]) Dl hD
/-- all([.. for a, b in zip(t, t[1:])]) -/
theorem ev_allZ {j k : Nat} {tl : TE} (gg : PyData → PyData → Bool) (hxd : Dq H x d) (hvm : ∀ H', Ex H H' → Ev tl σ H' x) (ht : isTup d = true)
    (hw : ∀ x y, wipe ((((wipe σ [j, k]).set j (some x)).set k (some y))) [j, k] = wipe σ [j, k])
    (hs : ∀ x y p q H1, Ex H H1 → p ∈ items d → q ∈ items d → Dq H1 x p → Dq H1 y q → Ev te (((wipe σ [j, k]).set j (some x)).set k (some y)) H1 (.bl (gg p q))) :
    Ev (tCB (rAll K) (tCons (tLc (RZ.iZipA K (tCons tl (tCons (tSl (rSlA K) tl (tPart (tC (.int 1))) tNoPart) tNil))) (gTup K 2 (gCons (gName j) (gCons (gName k) gNil))) tYes te [j, k]) tNil)) σ H
      (.bl ((List.range ((items d).length - 1)).all fun i => gg ((items d).getD i .none) ((items d).getD (i + 1) .none))) := by
  obtain ⟨a, xs, rfl, ha, hd, hz, hl⟩ := hxd.tupE ht
  refine Evl.ev_is (ev_allB (bs := (List.range ((items d).length - 1)).map fun i => gg ((items d).getD i .none) ((items d).getD (i + 1) .none)) ?_) (by rw [List.all_map]; rfl)
  refine el_lcZ (K := K) _ hvm ha (by rw [List.length_map, List.length_map, List.length_range, hl]) (by omega) fun i x x' y T H1 R e hT hx hx' hy kk => ?_
  obtain ⟨p, hp, dp⟩ := hd.get i hx
  obtain ⟨q, hq, dq⟩ := hd.get (i + 1) hx'
  have hi : i < (items d).length - 1 := by
    have := (List.getElem?_eq_some_iff.mp hq).1
    omega
  rw [List.getElem?_map, List.getElem?_map, List.getElem?_eq_getElem (by rw [List.length_range]; exact hi)] at hy
  simp only [List.getElem_range, Option.map_some, Option.some.injEq] at hy
  rw [List.getD_eq_getElem?_getD, List.getD_eq_getElem?_getD, hp, hq] at hy
  subst hy
  exact ⟨T, [x, x'], rfl, st_of hT, rfl, x, [x'], rfl, x', [], rfl, rfl, kk _ (hw x x') (hs x x' p q H1 e (List.mem_of_getElem? hp) (List.mem_of_getElem? hq) (Dq.same e _ _ dp) (Dq.same e _ _ dq))⟩
end
end LF

set_option Elab.async false
set_option linter.all false
set_option maxRecDepth 100000
set_option maxHeartbeats 16000000
namespace KD
open PySem PySem.Spec PyProof.Rows L2 LF
open Evl (Ev EvL EvU EvT EvA Ex sq_of st_of)
open PySem.W (EachIs)
/-- a target: a joint, or a place in a package -/
abbrev Tg := Int ⊕ (Str × Str)
def TgA (b : Addr) (H : Hp) (v : V) : Tg → Prop
  | .inl i => v = .int i
  | .inr p => ∃ q, v = .ref q ∧ q ≠ b ∧ H q = some (.tup [.str p.1, .str p.2])
def TgOk (js : List Int) : Tg → Prop
  | .inl i => i ∈ js
  | .inr p => isNm p.1 = true ∧ Pth 30 p.2
theorem TgA.old {b : Addr} {H H' : Hp} {v : V} {x : Tg} (h : TgA b H v x) (k : ∀ a o, a ≠ b → H a = some o → H' a = some o) : TgA b H' v x := by
  cases x with
  | inl i => exact h
  | inr p =>
    obtain ⟨q, e, n, h⟩ := h
    exact ⟨q, e, n, k _ _ n h⟩
def RowA (b : Addr) (H : Hp) (e : Addr) (r : List (Str × Tg)) : Prop := ∃ kvs : List (Key × V), e ≠ b ∧ H e = some (.dK kvs) ∧ EachIs (fun kv (x : Str × Tg) => kv.1 = Sum.inr x.1 ∧ TgA b H kv.2 x.2) kvs r
def TabA (b : Addr) (H : Hp) (t : Addr) (tabs : List (Int × List (Str × Tg))) : Prop := ∃ kvs : List (Key × V), t ≠ b ∧ H t = some (.dK kvs) ∧ EachIs (fun kv (x : Int × List (Str × Tg)) => kv.1 = Sum.inl x.1 ∧ ∃ e, kv.2 = .ref e ∧ e ≠ t ∧ RowA b H e x.2) kvs tabs ∧ (kvs.map (·.2)).Nodup
theorem RowA.keep {b : Addr} {H H' : Hp} {e : Addr} {r : List (Str × Tg)} (h : RowA b H e r) (k : Keep b H H') : RowA b H' e r := by
  obtain ⟨kvs, n, h1, h2⟩ := h
  exact ⟨kvs, n, k _ _ n h1, h2.mono fun kv x ⟨e, t⟩ => ⟨e, t.old k⟩⟩
theorem TabA.keep {b : Addr} {H H' : Hp} {t : Addr} {tabs : List (Int × List (Str × Tg))} (h : TabA b H t tabs) (k : Keep b H H') : TabA b H' t tabs := by
  obtain ⟨kvs, n, h1, h2, h3⟩ := h
  exact ⟨kvs, n, k _ _ n h1, h2.mono fun kv x ⟨e, a, h4, h5, h6⟩ => ⟨e, a, h4, h5, h6.keep k⟩, h3⟩
def RowOk (js : List Int) (r : List (Str × Tg)) : Prop := (r.map (·.1)).Nodup ∧ r.length ≤ 10 ∧ ∀ y ∈ r, isNm y.1 = true ∧ TgOk js y.2
def TabOk (tabs : List (Int × List (Str × Tg))) : Prop := (tabs.map (·.1)).Nodup ∧ 1 ≤ tabs.length ∧ tabs.length ≤ 6 ∧ ∀ x ∈ tabs, (0 ≤ x.1 ∧ x.1 < 100) ∧ RowOk (tabs.map (·.1)) x.2
/-- a row under way -/
def RowQ (b : Addr) (js : List Int) (H : Hp) (kvs : List (Key × V)) : Prop := (kvs.map (·.1)).Nodup ∧ ∀ kv ∈ kvs, ∃ z x, kv.1 = Sum.inr z ∧ isNm z = true ∧ TgA b H kv.2 x ∧ TgOk js x
theorem RowQ.put {b : Addr} {js : List Int} {H : Hp} {kvs : List (Key × V)} {z : Str} {v : V} {x : Tg} (h : RowQ b js H kvs) (hz : isNm z = true) (hx : TgA b H v x) (ho : TgOk js x) : RowQ b js H (putK kvs (.inr z) v) :=
  ⟨nodup_put h.1, fun kv m => by
    rcases mem_put m with e | m
    · rw [e]; exact ⟨z, x, rfl, hz, hx, ho⟩
    · exact h.2 kv m⟩
theorem each_map {α β γ : Type} {R : α → β → Prop} {f : α → γ} {g : β → γ} (h : ∀ a b, R a b → f a = g b) : ∀ {xs : List α} {bs : List β}, EachIs R xs bs → xs.map f = bs.map g
  | _, _, .nil => rfl
  | _, _, .cons r t => by rw [List.map_cons, List.map_cons, h _ _ r, each_map h t]
theorem each_back {α β : Type} {R : α → β → Prop} : ∀ {xs : List α} {bs : List β}, EachIs R xs bs → ∀ b ∈ bs, ∃ x, x ∈ xs ∧ R x b
  | _, _, .nil, _, h => nomatch h
  | _, _, .cons h t, x, hx => by
    rcases List.mem_cons.mp hx with rfl | hx
    · exact ⟨_, List.mem_cons_self, h⟩
    · obtain ⟨b, hb, r⟩ := each_back t x hx
      exact ⟨b, List.mem_cons_of_mem _ hb, r⟩
theorem nodup_of_map {α β : Type} {f : α → β} : ∀ {l : List α}, (l.map f).Nodup → l.Nodup
  | [], _ => .nil
  | a :: l, h => by
    rw [List.map_cons, List.nodup_cons] at h
    exact List.nodup_cons.mpr ⟨fun m => h.1 (List.mem_map.mpr ⟨a, m, rfl⟩), nodup_of_map h.2⟩
theorem RowQ.row {b : Addr} {js : List Int} {H H' : Hp} {kvs : List (Key × V)} {e : Addr} (h : RowQ b js H kvs) (hn : e ≠ b) (he : H' e = some (.dK kvs)) (hl : kvs.length ≤ 10) (k : ∀ a o, a ≠ b → H a = some o → H' a = some o) : ∃ r, RowA b H' e r ∧ RowOk js r := by
  obtain ⟨r, hr⟩ := each_of (R := fun (kv : Key × V) (x : Str × Tg) => kv.1 = Sum.inr x.1 ∧ TgA b H kv.2 x.2 ∧ isNm x.1 = true ∧ TgOk js x.2) (xs := kvs) fun kv m => by
    obtain ⟨z, x, h1, h2, h3, h4⟩ := h.2 kv m
    exact ⟨(z, x), h1, h3, h2, h4⟩
  refine ⟨r, ⟨kvs, hn, he, hr.mono fun kv x ⟨h1, h2, _⟩ => ⟨h1, h2.old k⟩⟩, ?_, by rw [← hr.length]; exact hl, fun y hy => ?_⟩
  · have e1 : kvs.map (·.1) = (r.map (·.1)).map Sum.inr := by
      rw [List.map_map]
      exact each_map (fun a b r => r.1) hr
    have h1 := h.1
    rw [e1] at h1
    exact nodup_of_map h1
  · obtain ⟨kv, _, _, _, h3, h4⟩ := each_back hr y hy
    exact ⟨h3, h4⟩
theorem sk_rngP {K : PySem.W.Frag} {b : Addr} {B : List Addr} {σ : L2.St} {H : Hp} {te : TE} {m N : Nat} {R0 : Int → Prop} {R : It → Hp → Prop} (g : BgAt b B N H) (hN : N + m ≤ 900000) (hc : ∀ r, R0 r → 0 ≤ r ∧ r ≤ 100000) (h : EK b B m te σ H (fun x _ => ∃ r, x = .int r ∧ R0 r)) (k : ∀ r H2 M, M ≤ N + m → Keep b H H2 → BgAt b B M H2 → R0 r → R (Itr 0 r.toNat) H2) :
    iRng1 (tCons te tNil) σ H R := h N H hN (Keep.refl b H) g _ fun x H2 M lm k2 g2 ⟨r, e, r0⟩ => by
  subst e
  have := hc r r0
  exact ⟨r, rfl, by omega, by omega, k r H2 M lm k2 g2 r0⟩
theorem eraseIdx_map' {α β : Type} (f : α → β) : ∀ (l : List α) (k : Nat), (l.map f).eraseIdx k = (l.eraseIdx k).map f
  | [], _ => rfl
  | _ :: _, 0 => rfl
  | a :: l, k + 1 => by simp [List.eraseIdx_cons_succ, eraseIdx_map' f l k]
theorem erase_perm {α : Type} : ∀ {l : List α} {k : Nat} (h : k < l.length), (l[k] :: l.eraseIdx k).Perm l
  | [], _, h => absurd h (by simp)
  | a :: l, 0, _ => List.Perm.refl _
  | a :: l, k + 1, h => (List.Perm.swap a _ _).trans ((erase_perm (l := l) (k := k) (by simpa using h)).cons a)
/-- the tables under way at t: a joint, its row's address, its row -/
def Tb (H4 : Hp) (b t : Addr) (js : List Int) (L : List (Int × Addr × List (Key × V))) (H' : Hp) : Prop := H' t = some (.dK (L.map fun l => (Sum.inl l.1, V.ref l.2.1))) ∧ (L.map (·.2.1)).Nodup ∧ ∀ l ∈ L, H' l.2.1 = some (.dK l.2.2) ∧ RowQ b js H4 l.2.2 ∧ l.2.2.length ≤ 10 ∧ l.2.1 ≠ b ∧ l.2.1 ≠ t
theorem Tb.keep {H4 H H' : Hp} {b t : Addr} {js : List Int} {L : List (Int × Addr × List (Key × V))} (h : Tb H4 b t js L H) (nt : t ≠ b) (k : Keep b H H') : Tb H4 b t js L H' := ⟨k _ _ nt h.1, h.2.1, fun l hl => by
  obtain ⟨a, c, d, e, f⟩ := h.2.2 l hl
  exact ⟨k _ _ e a, c, d, e, f⟩⟩
theorem ek_catX {K : PySem.W.Frag} {b : Addr} {B : List Addr} {σ : L2.St} {H : Hp} {ta tb : TE} {m m' n n' : Nat} {G : V → Hp → Prop} (hb : b ∈ B) (hG : Stb B G) (h : EK b B m ta σ H (Ls G B n)) (h' : EK b B m' tb σ H (LsM G B n')) (hn : n + n' ≤ 1000) :
    EK b B (m + m') (tOp rCat ta tb) σ H (fun x H => ∃ p xs, x = .ref p ∧ p ∉ B ∧ H p = some (.lst xs) ∧ (∀ v ∈ xs, G v H) ∧ n ≤ xs.length ∧ xs.length ≤ n + n') := fun N H1 l k g Q q =>
  h N H1 (by omega) k g _ fun x H2 M lm k2 g2 p => h' M H2 (by omega) (k.trans k2) g2 _ fun y H3 M3 lm3 k3 g3 p' => by
    obtain ⟨l1, xs, rfl, n1, hl, gx, lx⟩ := ls_stb hG _ _ _ p (kb hb k3)
    obtain ⟨l2, ys, rfl, n2, hl', gy, ly⟩ := p'
    refine ⟨l1, l2, xs, ys, rfl, rfl, hl, hl', Evl.sz_of (by omega), fun r hr => ?_⟩
    obtain ⟨n3, g4, k4⟩ := g3.new (o := .lst (xs ++ ys)) hr
    refine q _ _ M3 (by omega) ((k2.trans k3).trans k4) g4 ⟨r, xs ++ ys, rfl, n3, upd_same, fun v hv => ?_, by rw [List.length_append]; omega, by rw [List.length_append]; omega⟩
    rcases List.mem_append.mp hv with hv | hv
    · exact hG _ _ _ (gx v hv) (kb hb k4)
    · exact hG _ _ _ (gy v hv) (kb hb k4)
theorem ek_addC {b : Addr} {B : List Addr} {σ : L2.St} {H : Hp} {te : TE} {m : Nat} {c : Int} {R R' : Int → Prop} (h : EK b B m te σ H (fun x _ => ∃ r, x = .int r ∧ R r)) (hR : ∀ r, R r → R' (c + r)) : EK b B m (tOp (rI0 fun i j => .int (i + j)) (tC (.int c)) te) σ H (fun x _ => ∃ r, x = .int r ∧ R' r) := fun N H1 l k g Q q =>
  h N H1 l k g _ fun x H2 M lm k2 g2 ⟨r, e, r0⟩ => by
    subst e
    exact ⟨_, _, rfl, rfl, q _ H2 M lm k2 g2 ⟨_, rfl, hR r r0⟩⟩
theorem sq_dnew {i : Nat} {tz : TS} {D : Ends} {σ : L2.St} {H : Hp} (h : ∀ e, H e = none → tz D (σ.set i (some (.ref e))) (upd H e (.dK []))) : tSeq (tAsg tDNewK (gName i)) tz D σ H := h
theorem sk_list {K : PySem.W.Frag} {b : Addr} {B : List Addr} {σ : L2.St} {H : Hp} {te : TE} {m n N : Nat} {G : V → Hp → Prop} {R : It → Hp → Prop} (g : BgAt b B N H) (hN : N + m ≤ 900000) (h : EK b B m te σ H (LsM G B n)) (k : ∀ a xs H2 M, M ≤ N + m → Keep b H H2 → BgAt b B M H2 → a ∉ B → H2 a = some (.lst xs) → (∀ v ∈ xs, G v H2) → xs.length ≤ n → R (Itl K a) H2) :
    iList K te σ H R := h N H hN (Keep.refl b H) g _ fun x H2 M lm k2 g2 ⟨a, xs, e, na, ha, gx, lx⟩ => ⟨a, e, ⟨xs, SqL.of ha⟩, k a xs H2 M lm k2 g2 na ha gx lx⟩
theorem sk_forL {K : PySem.W.Frag} {b : Addr} {B : List Addr} {σ : L2.St} {H : Hp} {te : TE} {m n N : Nat} {G : V → Hp → Prop} {g : TG} {tb tz : TS} {D : Ends} (gb : BgAt b B N H) (hN : N + m ≤ 900000) (h : EK b B m te σ H (LsM G B n)) (k : ∀ a xs H2 M, M ≤ N + m → Keep b H H2 → BgAt b B M H2 → a ∉ B → H2 a = some (.lst xs) → (∀ v ∈ xs, G v H2) → xs.length ≤ n → tFor (fun _ H R => R (Itl K a) H) g tb { D with nx := tz D } σ H2) :
    tSeq (tFor (iList K te) g tb) tz D σ H := h N H hN (Keep.refl b H) gb _ fun x H2 M lm k2 g2 ⟨a, xs, e, na, ha, gx, lx⟩ => ⟨a, e, ⟨xs, SqL.of ha⟩, k a xs H2 M lm k2 g2 na ha gx lx⟩
theorem not_mem_take {α : Type} : ∀ {l : List α} {i : Nat} {a : α}, l.Nodup → l[i]? = some a → a ∉ l.take i
  | [], i, a, _, h => by simp at h
  | x :: l, 0, a, _, h => by simp
  | x :: l, i + 1, a, hn, h => by
    rw [List.nodup_cons] at hn
    have h' : l[i]? = some a := h
    rw [List.take_succ_cons, List.mem_cons]
    rintro (rfl | m)
    · exact hn.1 (List.mem_of_getElem? h')
    · exact not_mem_take hn.2 h' m
def PlB (b : Addr) (H : Hp) : V → Prop := fun v => ∃ q z t, v = .ref q ∧ q ≠ b ∧ H q = some (.tup [.str z, .str t]) ∧ isNm z = true ∧ Pth 30 t
theorem each_mapL {α β γ : Type} {R : α → β → Prop} {S : γ → β → Prop} {f : α → γ} : ∀ {xs : List α} {bs : List β}, EachIs R xs bs → (∀ a b, R a b → S (f a) b) → EachIs S (xs.map f) bs
  | _, _, .nil, _ => .nil
  | _, _, .cons r t, h => .cons (h _ _ r) (each_mapL t h)
theorem nodup_map_ref : ∀ {l : List Addr}, l.Nodup → (l.map V.ref).Nodup
  | [], _ => .nil
  | a :: l, h => by
    rw [List.nodup_cons] at h
    refine List.nodup_cons.mpr ⟨fun m => ?_, nodup_map_ref h.2⟩
    obtain ⟨x, hx, e⟩ := List.mem_map.mp m
    exact h.1 (by rw [← V.ref.inj e]; exact hx)
def spDrawn : Sp := fun vs H Q _ => ∃ (b g p : Addr) (most : Int) (N : Nat), vs = [.ref b, .ref g, .ref p, .int most] ∧ BagC H b N ∧ N + 200 ≤ 900000 ∧ Farm [b] g H ∧ Wd [b] p H ∧ 1 ≤ most ∧ most ≤ 6 ∧
  ∀ H' q t tabs head M, M ≤ N + 200 → Keep b H H' → BagC H' b M → q ≠ b → H' q = some (.tup [.ref t, .int head]) → TabA b H' t tabs → TabOk tabs → head ∈ tabs.map (·.1) → Q (.ref q) H'
abbrev s__law_drawn : Stmt := topS 23
abbrev N__law_drawn : List Str := ["_law_bag_here", "_law_farm_here", "_law_words_here", "_law_most", "_law_pool", "_law_joints", "_law_turn", "_law_places_here", "_law_tables", "_law_own_names", "_law_joint", "_law_table", "_law_name", "_law_way"]
theorem sc__law_drawn : FnScope ["_law_bag_here", "_law_farm_here", "_law_words_here", "_law_most", "_law_pool", "_law_joints", "_law_turn", "_law_places_here", "_law_tables", "_law_own_names", "_law_joint", "_law_table", "_law_name", "_law_way"] ["_law_bag_here", "_law_farm_here", "_law_words_here", "_law_most"] (defScope s__law_drawn) := ⟨rfl, rfl, rfl, by decide +kernel, rfl, by decide +kernel, by decide +kernel⟩
end KD

set_option Elab.async false
set_option linter.all false
set_option maxRecDepth 100000
set_option maxHeartbeats 16000000
namespace KD
open PySem PySem.Spec PyProof.Rows L2 LF
open Evl (Ev EvL EvU EvT EvA Ex sq_of st_of)
open PySem.W (EachIs)
section
variable {P : Program} {w : World} {K : PySem.W.Frag} {mg : Str → Option Value} {base : Heap} {tk1 tk2 : Tok}
theorem ok_drawn {f f1 f2 f3 : Addr} {fd fd1 fd2 fd3 : FuncData} (F : Fun K "_law_drawn" "_law_drawn" s__law_drawn f fd) (T : Txt K mg tk1 tk2) (d__law_take : DefAt P w K mg base "_law_take" 1 f1 fd1 ["_law_bag_here", "_law_many"] spTakeC)
    (d__law_pick : DefAt P w K mg base "_law_pick" 2 f2 fd2 ["_law_bag_here", "_law_items"] (spPickC K)) (d__law_places : DefAt P w K mg base "_law_places" 2 f3 fd3 ["_law_farm_here"] spPlaces) :
    FnOk P w K mg base CX0 3 f fd ["_law_bag_here", "_law_farm_here", "_law_words_here", "_law_most"] spDrawn := by
  refine F.ok sc__law_drawn (fun vs H Q E h => ?_) (fun cdv A outer s H vs Q E hr h => ?_)
  · obtain ⟨b, g, p, most, N, rfl, _⟩ := h
    rfl
  have hu1 := hu_of hr
  have hu := hr.units
  refine ⟨_, (pss_cons (ps_par (i := 4) (j := 5) (by rfl) sc__law_drawn.nd rfl rfl (by decide) rfl rfl (pa_cons (pe_lst (pa_cons pe_int (pa_cons pe_int (pa_cons pe_int (pa_cons pe_int (pa_cons pe_int (pa_cons pe_int pa_nil))))))) (pa_cons (pe_lst pa_nil) pa_nil)) (by rfl))
    (Evl.pss_cut (ps_for PassesOwn.never rfl (pi_range1 (by rfl) T.n_range (pa_cons (pe_op op_add pe_int (pe_callD d__law_take (hr.mono (by decide)) (pa_cons (pv 0) (pa_cons (pv 3) pa_nil)))) pa_nil)) (pg_name (i := 6) sc__law_drawn.nd rfl (Or.inl rfl)) (pss_one (ps_expr (pe_bm PySem.F.plainAttrs_list PySem.F.slot_list_append PySem.F.type_list_append mt_append (pv 5) (pa_cons (pe_bm PySem.F.plainAttrs_list PySem.F.slot_list_pop PySem.F.type_list_pop mt_popAt (pv 4) (pa_cons (pe_callD d__law_take (hr.mono (by decide)) (pa_cons (pv 0) (pa_cons (pe_callB call_len_seq (by rfl) T.n_len (by decide +kernel) (pa_cons (pv 4) pa_nil)) pa_nil))) pa_nil)) pa_nil)))))
    (pss_cons (ps_par (i := 7) (j := 8) (by rfl) sc__law_drawn.nd rfl rfl (by decide) rfl rfl (pa_cons (pe_callD d__law_places (hr.mono (by decide)) (pa_cons (pv 1) pa_nil)) (pa_cons pe_dnewK pa_nil)) (by rfl))
    (pss_cons (ps_set (i := 9) sc__law_drawn.nd rfl (Or.inl rfl) (pe_op op_cat (pe_dget hu1 (pv 2) pe_str (fun _ _ => rfl)) (pe_slice sl_list (pe_dget hu1 (pv 2) pe_str (fun _ _ => rfl)) po_none (po_some pe_int))))
    (Evl.pss_cut (ps_for PassesOwn.never rfl (pi_list (pv 5)) (pg_name (i := 10) sc__law_drawn.nd rfl (Or.inl rfl)) (pss_cons (ps_set (i := 11) sc__law_drawn.nd rfl (Or.inl rfl) pe_dnewK)
    (pss_cons (ps_for PassesOwn.never rfl (pi_list (pe_slice sl_list (pv 9) po_none (po_some (pe_op op_add pe_int (pe_callD d__law_take (hr.mono (by decide)) (pa_cons (pv 0) (pa_cons (pe_callB call_len_seq (by rfl) T.n_len (by decide +kernel) (pa_cons (pv 9) pa_nil)) pa_nil))))))) (pg_name (i := 12) sc__law_drawn.nd rfl (Or.inl rfl)) (pss_cons (ps_set (i := 13) sc__law_drawn.nd rfl (Or.inl rfl) (pe_callD d__law_take (hr.mono (by decide)) (pa_cons (pv 0) (pa_cons pe_int pa_nil))))
    (pss_one (ps_if (PW.pt (pw_or (pt_cmpR op_lt (pv 13) pe_int (nomark _)) (pw_or1 (PW.pt (pw_and (pt_cmpR op_eq (pv 13) pe_int (nomark _)) (pw_and1 (pt_cmpR (op_eqQ hu) (pv 7) (pe_lst pa_nil) (nomark _)))))))) (pss_one (ps_dput hu1 (pv 11) (pv 12) (pe_callD d__law_pick (hr.mono (by decide)) (pa_cons (pv 0) (pa_cons (pv 5) pa_nil))) rfl)) (pss_one (ps_if (pt_cmpR op_eq (pv 13) pe_int (nomark _)) (pss_one (ps_dput hu1 (pv 11) (pv 12) (pe_callD d__law_pick (hr.mono (by decide)) (pa_cons (pv 0) (pa_cons (pv 7) pa_nil))) rfl)) pss_nil))))))
    (pss_one (ps_dput hu1 (pv 8) (pv 10) (pv 11) rfl)))))
    (pss_one (ps_ret (pe_tup (pa_cons (pv 8) (pa_cons (pe_callD d__law_pick (hr.mono (by decide)) (pa_cons (pv 0) (pa_cons (pv 5) pa_nil))) pa_nil)))))))))), ?_⟩
  obtain ⟨b, g, p, most, N, rfl, hbag, hN, hfarm, hw, hm1, hm6, hq⟩ := h
  obtain ⟨wkvs, vf, vi, vk, lc, cs, w1, w2, w3, w4, w5, w6, w7, w8, w9, w10, w11⟩ := hw
  have npb : p ≠ b := fun e => w2 (by rw [e]; simp)
  have hb1 : b ∈ [b] := List.mem_singleton.mpr rfl
  refine sk_par (B := [b]) (m := 0) (m' := 0) (P := fun x H' => ∃ fo, x = .ref fo ∧ fo ≠ b ∧ H' fo = some (.lst ([0, 1, 2, 3, 5, 8].map V.int)) ∧ ∀ a o, a ≠ b → H a = some o → a ≠ fo) (P' := fun x H' => ∃ fo, x = .ref fo ∧ fo ≠ b ∧ H' fo = some (.lst (([] : List Int).map V.int)) ∧ ∀ a o, a ≠ b → H a = some o → a ≠ fo) (bgAt1 hbag) (by omega) hb1
    (fun x H1 H2 ⟨fo, e, n, h, r⟩ k => ⟨fo, e, n, k _ _ (by simpa using n) h, r⟩) (fun N1 H1 l1 k1 g1 Q1 q1 => ⟨by show 6 ≤ sizeLine; decide, fun q hq' => by
      obtain ⟨n2, g2, k2⟩ := g1.new (o := .lst ([0, 1, 2, 3, 5, 8].map V.int)) hq'
      exact q1 _ _ N1 (Nat.le_refl _) k2 g2 ⟨q, rfl, by simpa using n2, upd_same, fun a o na e z => by
        have := k1 a o na e
        rw [z, hq'] at this; cases this⟩⟩) (fun N1 H1 l1 k1 g1 Q1 q1 => ⟨by show 0 ≤ sizeLine; decide, fun q hq' => by
      obtain ⟨n2, g2, k2⟩ := g1.new (o := .lst []) hq'
      exact q1 _ _ N1 (Nat.le_refl _) k2 g2 ⟨q, rfl, by simpa using n2, upd_same, fun a o na e z => by
        have := k1 a o na e
        rw [z, hq'] at this; cases this⟩⟩) fun x y H1 M1 l1 k1 g1 ⟨po, e1, npo, hpo, fpo⟩ ⟨jo, e2, njo, hjo, fjo⟩ => ?_
  subst e1
  subst e2
  have npj : po ≠ jo := fun z => by rw [z, hjo] at hpo; cases hpo
  refine ⟨fun σ' H' => ∃ (v6 : Option V) (M : Nat) (js : List Int), M ≤ N + 8 ∧ σ' = [some (.ref b), some (.ref g), some (.ref p), some (.int most), some (.ref po), some (.ref jo), v6, none, none, none, none, none, none, none] ∧ BagC H' b M ∧ (∀ a o, a ≠ b → H a = some o → H' a = some o) ∧
    H' jo = some (.lst (js.map V.int)) ∧ js.Nodup ∧ (∀ j ∈ js, (0 : Int) ≤ j ∧ j < 100) ∧ 1 ≤ js.length ∧ js.length ≤ 6, ?_, ?_⟩
  · refine sk_rngP (K := K) (B := [b]) (m := 1) (R0 := fun r => 1 ≤ r ∧ r ≤ most) g1 (by omega) (fun r h => by omega) (fun N1 H1 l1 k1 g1 Q1 q1 => ek_takeM (m := 0) (B := [b]) (H := H1) (c := most) rfl (ek_v rfl fun _ _ => rfl) ⟨by omega, by omega⟩ N1 H1 l1 (Keep.refl b H1) g1 _ fun x H2 M2 lm2 k2 g2 ⟨r, e, r0, r1⟩ => by
      subst e
      exact ⟨_, _, rfl, rfl, q1 _ H2 M2 lm2 k2 g2 ⟨_, rfl, by omega⟩⟩) fun n H2 M2 l2 k2 g2 ⟨n0, n1⟩ => ?_
    refine for_range (lo := 0) (fun i σ' H' => ∃ (v6 : Option V) (M : Nat) (js ps : List Int), M ≤ M2 + i ∧ σ' = [some (.ref b), some (.ref g), some (.ref p), some (.int most), some (.ref po), some (.ref jo), v6, none, none, none, none, none, none, none] ∧ BagC H' b M ∧ (∀ a o, a ≠ b → H a = some o → H' a = some o) ∧
      H' jo = some (.lst (js.map V.int)) ∧ H' po = some (.lst (ps.map V.int)) ∧ (js ++ ps).Perm [0, 1, 2, 3, 5, 8] ∧ js.length = i) ⟨_, M2, [], [0, 1, 2, 3, 5, 8], by omega, rfl, g2.bag, fun a o n e => k2 a o n (k1 a o n e), k2 _ _ njo hjo, k2 _ _ npo hpo, List.Perm.refl _, rfl⟩ ?_ ?_
    · rintro i σ' H3 hi ⟨v6, M3, js, ps, l3, rfl, b3, k3, hj3, hp3, perm, hjl⟩
      have hpl : js.length + ps.length = 6 := by
        have := perm.length_eq
        rw [List.length_append] at this; exact this
      have hi6 : i < 6 := by omega
      refine ⟨_, rfl, Or.inl ⟨rfl, _, SqL.of hj3⟩, _, rfl, Or.inl ⟨rfl, _, SqL.of hp3⟩, _, rfl, _, rfl, po, _, rfl, Or.inl (SqL.of hp3), b, _, M3, rfl, b3, by omega, by rw [List.length_map]; omega, by rw [List.length_map]; omega, fun H4 r k4 b4 r0 r1 => ?_⟩
      rw [List.length_map] at r1
      have hk : r.toNat < ps.length := by omega
      have hp4 := k4 _ _ npo hp3
      have hj4 := k4 _ _ njo hj3
      refine ⟨po, ps.map V.int, r, r.toNat, .int ps[r.toNat], rfl, rfl, hp4, by omega, by omega, PySem.seqIndex_of r0 (by rw [List.length_map]; exact r1), by rw [List.getElem?_map, List.getElem?_eq_getElem hk]; rfl, ?_⟩
      refine ⟨jo, js.map V.int, .int ps[r.toNat], rfl, rfl, by rw [upd_ne npj.symm]; exact hj4, Evl.sz_lt (by rw [List.length_map]; omega), ?_⟩
      refine ⟨_, M3 + 1, js ++ [ps[r.toNat]], ps.eraseIdx r.toNat, by omega, rfl, ?_, fun a o n e => ?_, by rw [upd_same, List.map_append]; rfl, ?_, ?_, by rw [List.length_append, hjl]; rfl⟩
      · obtain ⟨d, x, n, e, rr⟩ := b4
        exact ⟨d, x, n, by rw [upd_ne njo.symm, upd_ne npo.symm]; exact e, rr⟩
      · rw [upd_ne (fjo a o n e), upd_ne (fpo a o n e)]
        exact k4 a o n (k3 a o n e)
      · rw [upd_ne npj, upd_same, eraseIdx_map']
      · refine List.Perm.trans ?_ perm
        rw [List.append_assoc]
        exact List.Perm.append_left _ (erase_perm hk)
    · rintro σ' H3 ⟨v6, M3, js, ps, l3, rfl, b3, k3, hj3, hp3, perm, hjl⟩
      have hmem : ∀ j ∈ js, j ∈ ([0, 1, 2, 3, 5, 8] : List Int) := fun j hj => perm.mem_iff.mp (List.mem_append_left _ hj)
      refine ⟨v6, M3, js, by omega, rfl, b3, k3, hj3, ?_, fun j hj => ?_, by omega, by omega⟩
      · have : (js ++ ps).Nodup := perm.symm.nodup (by decide)
        exact (List.nodup_append.mp this).1
      · have := hmem j hj
        simp only [List.mem_cons, List.not_mem_nil, or_false] at this
        omega
  rintro σ' H2 ⟨v6, M2, js, l2, rfl, b2, k2, hj2, hjn, hjb, hj1, hj6⟩
  refine sk_par (B := [b]) (m := 0) (m' := 0) (P := fun x H' => ∃ pl xs, x = .ref pl ∧ pl ≠ b ∧ H' pl = some (.lst xs) ∧ (∀ v ∈ xs, PlB b H' v) ∧ xs.length ≤ 60) (P' := fun x H' => ∃ t, x = .ref t ∧ t ≠ b ∧ H' t = some (.dK []) ∧ ∀ a o, a ≠ b → H2 a = some o → a ≠ t) (bgAt1 b2) (by omega) hb1
    (fun x H1 H2 ⟨pl, xs, e, n, h, gx, l⟩ k => ⟨pl, xs, e, n, k _ _ (by simpa using n) h, fun v hv => by
      obtain ⟨q, z, t, a, c, d, e⟩ := gx v hv
      exact ⟨q, z, t, a, c, k _ _ (by simpa using c) d, e⟩, l⟩) (fun N1 H1 l1 k1 g1 Q1 q1 => ?_) (fun N1 H1 l1 k1 g1 Q1 q1 q hq' => by
      obtain ⟨n2, g2, k2⟩ := g1.new (o := .dK []) hq'
      exact q1 _ _ N1 (Nat.le_refl _) k2 g2 ⟨q, rfl, by simpa using n2, upd_same, fun a o na e z => by
        have := k1 a o na e
        rw [z, hq'] at this; cases this⟩) fun x y H3 M3 l3 k3 g3 ⟨pl, pxs, e1, npl, hpl, hplb, hpll⟩ ⟨t, e2, ntb, ht3, ft⟩ => ?_
  · obtain ⟨kvs, f1, f2, f3, f4⟩ := hfarm.stb ((show KeepB [b] H H2 from fun a o n e => k2 a o (by simpa using n) e).trans (kb hb1 k1))
    refine ⟨_, rfl, g, rfl, ⟨kvs, f1, by simp, f3, fun kv hkv => ?_⟩, fun H3 pl xs e3 np hpl hpla lx => ?_⟩
    · obtain ⟨z, e, a1, a2, a3, a4, es, a5, a6⟩ := f4 kv hkv
      exact ⟨z, e, a1, a2, a3, a4, es, by simp, a6⟩
    · have nplb : pl ≠ b := BagC.ne g1.bag np
      refine q1 _ H3 N1 (Nat.le_refl _) (Same.keep e3) (g1.keep (Same.keep e3) (g1.bag.same e3)) ⟨pl, xs, rfl, nplb, hpl, fun v hv => ?_, lx⟩
      obtain ⟨q, z, t, a, c, d⟩ := hpla v hv
      refine ⟨q, z, t, a, fun x => ?_, c, d⟩
      obtain ⟨_, _, _, hb', _⟩ := g1.bag.same e3
      rw [x, hb'] at c; cases c
  subst e1
  subst e2
  have k3' : ∀ a o, a ≠ b → H a = some o → H3 a = some o := fun a o n e => k3 a o n (k2 a o n e)
  have w3' : Ls okN [b] 3 vf H3 := ls_stb okN_stb _ _ _ w7 (fun a o n e => k3' a o (by simpa using n) e)
  refine sk_asg (B := [b]) (m := 0) (P := fun x H => ∃ p xs, x = .ref p ∧ p ∉ [b] ∧ H p = some (.lst xs) ∧ (∀ v ∈ xs, okN v H) ∧ 3 ≤ xs.length ∧ xs.length ≤ 3 + 2) g3 (by omega) (by
    refine ek_catX (K := K) (m := 0) (m' := 0) (n := 3) (n' := 2) hb1 okN_stb (ek_dgetL (v := vf) hb1 (ls_stb okN_stb) rfl (k3' _ _ npb w1) npb w3 w3') (ek_slM (m := 0) (m' := 0) hb1 okN_stb (ek_dgetL (v := vi) hb1 (lsm_stb okN_stb) rfl (k3' _ _ npb w1) npb w4 ?_) (eko_none trivial) (eko_some (ek_c fun _ => ⟨_, rfl, trivial⟩))) (by decide)
    refine lsm_stb okN_stb _ _ _ (ls_lsm (ls_w w11 fun v ⟨z, e, h1, h2, _⟩ => ⟨z, e, h1, h2⟩)) (fun a o n e => k3' a o (by simpa using n) e)) fun y4 H4 M4 l4 k4 g4 ⟨ow, oxs, e4, now, how, hok, ho3, ho5⟩ => ?_
  subst e4
  have nowb : ow ≠ b := by simpa using now
  have hj4 := k4 _ _ njo (k3 _ _ njo hj2)
  have hpl4 := k4 _ _ npl hpl
  have ht4 := k4 _ _ ntb ht3
  have hplb4 : ∀ v ∈ pxs, PlB b H4 v := fun v hv => by
    obtain ⟨q, z, t, a, c, d, e⟩ := hplb v hv
    exact ⟨q, z, t, a, c, k4 _ _ c d, e⟩
  have ntj : t ≠ jo := fun z => by rw [z, hj4] at ht4; cases ht4
  have nto : t ≠ ow := fun z => by rw [z, how] at ht4; cases ht4
  have ntp : t ≠ pl := fun z => by rw [z, hpl4] at ht4; cases ht4
  have k4' : ∀ a o, a ≠ b → H a = some o → H4 a = some o := fun a o n e => k4 a o n (k3' a o n e)
  have fresht : ∀ a o, a ≠ b → H a = some o → a ≠ t := fun a o n e => ft a o n (k2 a o n e)
  refine ⟨fun σ' H' => ∃ (v10 v11 v12 v13 : Option V) (M : Nat) (L : List (Int × Addr × List (Key × V))), M ≤ N + 150 ∧ σ' = [some (.ref b), some (.ref g), some (.ref p), some (.int most), some (.ref po), some (.ref jo), v6, some (.ref pl), some (.ref t), some (.ref ow), v10, v11, v12, v13] ∧ BagC H' b M ∧
    (∀ a o, a ≠ b → a ≠ t → H4 a = some o → H' a = some o) ∧ Tb H4 b t js L H' ∧ L.map (·.1) = js, ?_, ?_⟩
  · refine ⟨_, rfl, jo, rfl, ⟨_, SqL.of hj4⟩, ?_⟩
    refine for_it (walk_list (xs := js.map V.int)) (fun i σ' H' => ∃ (v10 v11 v12 v13 : Option V) (M : Nat) (L : List (Int × Addr × List (Key × V))), M ≤ M4 + 20 * i ∧ σ' = [some (.ref b), some (.ref g), some (.ref p), some (.int most), some (.ref po), some (.ref jo), v6, some (.ref pl), some (.ref t), some (.ref ow), v10, v11, v12, v13] ∧ BagC H' b M ∧
      (∀ a o, a ≠ b → a ≠ t → H4 a = some o → H' a = some o) ∧ Tb H4 b t js L H' ∧ L.map (·.1) = js.take i) ⟨_, _, _, _, M4, [], by omega, rfl, g4.bag, fun _ _ _ _ h => h, ⟨ht4, .nil, fun _ h => nomatch h⟩, rfl⟩ (fun i σ' H' _ ⟨_, _, _, _, _, _, _, _, _, k, _⟩ => SqL.of (k _ _ njo ntj.symm hj4)) ?_ ?_
    · rintro i x σ' H5' H5 hi ⟨v10, v11, v12, v13, M5, L, l5, rfl, b5, k5, tb5, hL⟩ ⟨rfl, hxi⟩
      rw [List.length_map] at hi
      rw [List.getElem?_map] at hxi
      obtain ⟨j, hji, rfl⟩ := Option.map_eq_some_iff.mp hxi
      refine sq_dnew fun e he => ?_
      have neb : e ≠ b := BagC.ne b5 he
      have x6 : Ex H5 (upd H5 e (.dK [])) := Ex.new he
      have he6 : (upd H5 e (.dK [])) e = some (.dK []) := upd_same
      have old5 : ∀ {a o}, H5 a = some o → a ≠ e := fun h z => by rw [z, he] at h; cases h
      have b6 := b5.same x6
      generalize upd H5 e (.dK []) = H6 at *
      have net : t ≠ e := old5 tb5.1
      have how6 := x6 _ _ (k5 _ _ nowb nto.symm how)
      have nowe : ow ≠ e := old5 (k5 _ _ nowb nto.symm how)
      have njoe : jo ≠ e := old5 (k5 _ _ njo ntj.symm hj4)
      have npe : pl ≠ e := old5 (k5 _ _ npl ntp.symm hpl4)
      have g6 : BgAt b [b, e] M5 H6 := ⟨b6, by simp, fun a ha => by
        simp only [List.mem_cons, List.not_mem_nil, or_false] at ha
        rcases ha with rfl | rfl
        · obtain ⟨_, _, _, h, _⟩ := b6; exact ⟨_, h⟩
        · exact ⟨_, he6⟩⟩
      have hb2 : b ∈ [b, e] := by simp
      have heB : e ∈ [b, e] := by simp
      refine sk_forL (K := K) (B := [b, e]) (m := 1) (n := 5) (G := okN) g6 (by omega) ?_ fun sl nm H7 M7 l7 k7 g7 nsl hsl hnm lnm => ?_
      · refine ek_slM (m := 0) (m' := 1) hb2 okN_stb (ek_v rfl fun H7 k7 => ⟨ow, oxs, rfl, by simp [nowb, nowe], k7 _ _ nowb how6, hok, by omega⟩) (eko_none trivial) (eko_some (ek_addC (R := fun _ => True) (R' := fun _ => True) ?_ fun _ _ => trivial))
        refine ek_w (ek_takeM (m := 0) (c := (oxs.length : Int)) rfl ?_ ⟨by omega, by omega⟩) fun x _ ⟨r, e, _⟩ => ⟨r, e, trivial⟩
        exact fun N2 H2 l2 k2 g2 Q2 q2 => ⟨_, rfl, ow, oxs, rfl, Or.inl (SqL.of (k2 _ _ nowb how6)), q2 _ H2 N2 (Nat.le_refl _) (Keep.refl b H2) g2 rfl⟩
      have nslb : sl ≠ b := fun z => nsl (by rw [z]; simp)
      have nsle : sl ≠ e := fun z => nsl (by rw [z]; simp)
      have he7 := k7 _ _ neb he6
      have o7 : ∀ a o, a ≠ b → a ≠ t → H4 a = some o → H7 a = some o := fun a o n1 n2 h => k7 a o n1 (x6 _ _ (k5 a o n1 n2 h))
      have hj7 := o7 _ _ njo ntj.symm hj4
      have hp7 := o7 _ _ npl ntp.symm hpl4
      refine for_it (walk_list (xs := nm)) (fun c σ' H' => ∃ (v12 v13 : Option V) (M : Nat) (ekvs : List (Key × V)), M ≤ M7 + 3 * c ∧ σ' = [some (.ref b), some (.ref g), some (.ref p), some (.int most), some (.ref po), some (.ref jo), v6, some (.ref pl), some (.ref t), some (.ref ow), some (.int j), some (.ref e), v12, v13] ∧ BgAt b [b, e] M H' ∧
        (∀ a o, a ≠ b → a ≠ e → H7 a = some o → H' a = some o) ∧ H' e = some (.dK ekvs) ∧ RowQ b js H4 ekvs ∧ ekvs.length ≤ c) ⟨_, _, M7, [], by omega, rfl, g7, fun _ _ _ _ h => h, he7, ⟨.nil, fun _ h => nomatch h⟩, Nat.le_refl _⟩ (fun c σ' H' _ ⟨_, _, _, _, _, _, _, k, _⟩ => SqL.of (k _ _ nslb nsle hsl)) ?_ ?_
      · rintro c x σ' H8' H8 hc ⟨v12, v13, M8, ekvs, l8, rfl, g8, k8, he8, hrq, hel⟩ ⟨rfl, hxc⟩
        obtain ⟨z, rfl, hz, _⟩ := hnm x (List.mem_of_getElem? hxc)
        have lc' : c < 5 := by omega
        refine sk_asg (m := 1) g8 (by omega) (ek_take (c := 5) rfl (by decide)) fun y9 H9 M9 l9 k9 g9 ⟨way, e9, wy0, wy5⟩ => ?_
        subst e9
        have he9 := k9 _ _ neb he8
        have o9 : ∀ a o, a ≠ b → a ≠ e → H7 a = some o → H9 a = some o := fun a o n1 n2 h => k9 a o n1 (k8 a o n1 n2 h)
        have stay : ∀ {H10 M10 ekvs10}, M10 ≤ M9 + 1 → BgAt b [b, e] M10 H10 → (∀ a o, a ≠ b → a ≠ e → H7 a = some o → H10 a = some o) → H10 e = some (.dK ekvs10) → RowQ b js H4 ekvs10 → ekvs10.length ≤ c + 1 → ∃ (v12 v13' : Option V) (M : Nat) (ekvs : List (Key × V)), M ≤ M7 + 3 * (c + 1) ∧ [some (V.ref b), some (.ref g), some (.ref p), some (.int most), some (.ref po), some (.ref jo), v6, some (.ref pl), some (.ref t), some (.ref ow), some (.int j), some (.ref e), some (.str z), some (.int way)] = [some (V.ref b), some (.ref g), some (.ref p), some (.int most), some (.ref po), some (.ref jo), v6, some (.ref pl), some (.ref t), some (.ref ow), some (.int j), some (.ref e), v12, v13'] ∧ BgAt b [b, e] M H10 ∧
            (∀ a o, a ≠ b → a ≠ e → H7 a = some o → H10 a = some o) ∧ H10 e = some (.dK ekvs) ∧ RowQ b js H4 ekvs ∧ ekvs.length ≤ c + 1 := by
          intro H10 M10 ekvs10 a1 a2 a3 a4 a5 a6
          exact ⟨_, _, M10, ekvs10, by omega, rfl, a2, a3, a4, a5, a6⟩
        have putJ : ∀ {D : Ends} {H10}, Ex H9 H10 → (∀ H11, (∃ (v12 v13' : Option V) (M : Nat) (ekvs : List (Key × V)), M ≤ M7 + 3 * (c + 1) ∧ [some (V.ref b), some (.ref g), some (.ref p), some (.int most), some (.ref po), some (.ref jo), v6, some (.ref pl), some (.ref t), some (.ref ow), some (.int j), some (.ref e), some (.str z), some (.int way)] = [some (V.ref b), some (.ref g), some (.ref p), some (.int most), some (.ref po), some (.ref jo), v6, some (.ref pl), some (.ref t), some (.ref ow), some (.int j), some (.ref e), v12, v13'] ∧ BgAt b [b, e] M H11 ∧
            (∀ a o, a ≠ b → a ≠ e → H7 a = some o → H11 a = some o) ∧ H11 e = some (.dK ekvs) ∧ RowQ b js H4 ekvs ∧ ekvs.length ≤ c + 1) → D.nx [some (V.ref b), some (.ref g), some (.ref p), some (.int most), some (.ref po), some (.ref jo), v6, some (.ref pl), some (.ref t), some (.ref ow), some (.int j), some (.ref e), some (.str z), some (.int way)] H11) →
            sDPut (tVar 11) (tVar 12) (tCall (spPickC K) [] E0 (tCons (tVar 0) (tCons (tVar 5) tNil))) D [some (V.ref b), some (.ref g), some (.ref p), some (.int most), some (.ref po), some (.ref jo), v6, some (.ref pl), some (.ref t), some (.ref ow), some (.int j), some (.ref e), some (.str z), some (.int way)] H10 := by
          intro D H10 e10 kk
          have g10 := g9.keep (Same.keep e10) (g9.bag.same e10)
          refine sk_dput1 (m := 1) (P := fun v _ => ∃ i, v = .int i ∧ i ∈ js) (key := .inr z) g10 (by omega) heB neb rfl rfl (e10 _ _ he9) (by omega) (fun _ _ _ h _ => h) (ek_w (ek_pickL rfl rfl (e10 _ _ (o9 _ _ njo njoe hj7)) njo (by rw [List.length_map]; omega) (by rw [List.length_map]; omega)) fun v _ hv => by
            obtain ⟨i, hi, rfl⟩ := List.mem_map.mp hv
            exact ⟨i, rfl, hi⟩) fun v H11 M11 l11 g11 _ k11 d11 ⟨iv, ev, hiv⟩ => kk H11 ?_
          exact stay (by omega) g11 (fun a o n1 n2 h => k11 a o n1 n2 (e10 _ _ (o9 a o n1 n2 h))) d11 (hrq.put hz (x := .inl iv) ev hiv) (Nat.le_trans len_put (by omega))
        have second : ∀ {D : Ends} {H10}, Ex H9 H10 → (way = 3 → pxs ≠ []) → (∀ H11, (∃ (v12 v13' : Option V) (M : Nat) (ekvs : List (Key × V)), M ≤ M7 + 3 * (c + 1) ∧ [some (V.ref b), some (.ref g), some (.ref p), some (.int most), some (.ref po), some (.ref jo), v6, some (.ref pl), some (.ref t), some (.ref ow), some (.int j), some (.ref e), some (.str z), some (.int way)] = [some (V.ref b), some (.ref g), some (.ref p), some (.int most), some (.ref po), some (.ref jo), v6, some (.ref pl), some (.ref t), some (.ref ow), some (.int j), some (.ref e), v12, v13'] ∧ BgAt b [b, e] M H11 ∧
            (∀ a o, a ≠ b → a ≠ e → H7 a = some o → H11 a = some o) ∧ H11 e = some (.dK ekvs) ∧ RowQ b js H4 ekvs ∧ ekvs.length ≤ c + 1) → D.nx [some (V.ref b), some (.ref g), some (.ref p), some (.int most), some (.ref po), some (.ref jo), v6, some (.ref pl), some (.ref t), some (.ref ow), some (.int j), some (.ref e), some (.str z), some (.int way)] H11) →
            tIfS (tTest (tOp rEq (tVar 13) (tC (.int 3)))) (sDPut (tVar 11) (tVar 12) (tCall (spPickC K) [] E0 (tCons (tVar 0) (tCons (tVar 7) tNil)))) tNext D [some (V.ref b), some (.ref g), some (.ref p), some (.int most), some (.ref po), some (.ref jo), v6, some (.ref pl), some (.ref t), some (.ref ow), some (.int j), some (.ref e), some (.str z), some (.int way)] H10 := by
          intro D H10 e10 hne kk
          have g10 := g9.keep (Same.keep e10) (g9.bag.same e10)
          have hp10 := e10 _ _ (o9 _ _ npl npe hp7)
          refine sif_known (c := decide (V.int way = V.int 3)) (fun Q q => ⟨_, rfl, rfl, _, rfl, q⟩) (fun hc3 => ?_) (fun hc3 => kk H10 (stay (by omega) g10 (fun a o n1 n2 h => e10 _ _ (o9 a o n1 n2 h)) (e10 _ _ he9) hrq (by omega)))
          have hw3 : way = 3 := V.int.inj (of_decide_eq_true hc3)
          have hne' := hne hw3
          have hpx1 : 1 ≤ pxs.length := by
            cases pxs with
            | nil => exact absurd rfl hne'
            | cons _ _ => simp
          refine sk_dput1 (m := 1) (P := fun v _ => v ∈ pxs) (key := .inr z) g10 (by omega) heB neb rfl rfl (e10 _ _ he9) (by omega) (fun _ _ _ h _ => h) (ek_pickL rfl rfl hp10 npl hpx1 (by omega)) fun v H11 M11 l11 g11 _ k11 d11 hv => kk H11 ?_
          obtain ⟨q, z1, t1, ev, nq, hq1, h1, h2⟩ := hplb4 v hv
          exact stay (by omega) g11 (fun a o n1 n2 h => k11 a o n1 n2 (e10 _ _ (o9 a o n1 n2 h))) d11 (hrq.put hz (x := .inr (z1, t1)) ⟨q, ev, nq, hq1⟩ ⟨h1, h2⟩) (Nat.le_trans len_put (by omega))
        refine ⟨_, rfl, _, _, rfl, rfl, _, rfl, ?_⟩
        refine ifD (fun hw2 => putJ (Ex.refl _) fun _ h => h) (fun hw2 => ?_)
        refine ⟨_, rfl, rfl, _, rfl, ?_⟩
        by_cases hw3 : way = 3
        · have : decide (V.int way = V.int 3) = true := decide_eq_true (by rw [hw3])
          rw [this]
          refine ⟨_, rfl, by show 0 ≤ sizeLine; decide, fun r hr' => ?_⟩
          have hp9 := o9 _ _ npl npe hp7
          have hpr : pl ≠ r := fun x => by rw [x, hr'] at hp9; cases hp9
          have x10 : Ex H9 (upd H9 r (.lst [])) := Ex.new hr'
          obtain ⟨ds, hds⟩ := dqAll_of (H := upd H9 r (.lst [])) (vs := pxs) fun v hv => by
            obtain ⟨q, z1, t1, ev, nq, hq1, h1, h2⟩ := hplb v hv
            have hq9 : H9 q = some (.tup [.str z1, .str t1]) := by
              have h4 := k4 _ _ nq hq1
              have nqt : q ≠ t := fun x => by rw [x, ht4] at h4; cases h4
              have h7 := o7 _ _ nq nqt h4
              have nqe : q ≠ e := fun x => by rw [x, he7] at h7; cases h7
              exact o9 _ _ nq nqe h7
            have l1 := (isNm_len h1).2
            have l2 := h2.len
            exact ⟨.tuple [.str z1, .str t1], by
              rw [ev]
              exact .tup (x10 _ _ hq9) (.cons (.str _ (by omega) (strOk_nm h1)) (.cons (.str _ (by omega) h2.strOk) .nil)) (by show 2 ≤ 1000; decide)⟩
          have hD : Dq (upd H9 r (.lst [])) (.ref pl) (.list ds) := .lst (x10 _ _ hp9) hds (by omega)
          have hl := hds.len
          refine ⟨.list ds, .list [], Dq.dp _ _ hD, .lst (SqL.of upd_same) .nil, Dq.lay _ _ hD, by simp [PyData.canLay0, PyData.canLayAll0], by simp [PyData.depth, PyData.depthAll], _, rfl, ?_⟩
          cases ds with
          | nil =>
            have : PyData.eqv (.list []) (.list []) = true := by simp [PyData.eqv, PyData.eqvAll]
            rw [this]
            exact putJ x10 fun _ h => h
          | cons d ds =>
            have : PyData.eqv (.list (d :: ds)) (.list []) = false := by simp [PyData.eqv, PyData.eqvAll]
            rw [this]
            exact second x10 (fun _ e => by rw [e] at hl; simp at hl) fun _ h => h
        · have : decide (V.int way = V.int 3) = false := decide_eq_false fun h => hw3 (V.int.inj h)
          rw [this]
          exact second (Ex.refl _) (fun h => absurd h hw3) fun _ h => h
      · rintro σ' H8 ⟨v12, v13, M8, ekvs, l8, rfl, g8, k8, he8, hrq, hel⟩
        have o8 : ∀ {a o}, a ≠ b → H5 a = some o → H8 a = some o := fun n h => k8 _ _ n (old5 h) (k7 _ _ n (x6 _ _ h))
        have ht8 := o8 ntb tb5.1
        have hLl : L.length ≤ i := by
          have := congrArg List.length hL
          rw [List.length_map, List.length_take] at this; omega
        have hnew : valV (L.map fun l => ((Sum.inl l.1 : Key), V.ref l.2.1)) (Sum.inl j) = none := by
          cases hv : valV (L.map fun l => ((Sum.inl l.1 : Key), V.ref l.2.1)) (Sum.inl j) with
          | none => rfl
          | some v =>
            obtain ⟨l, hl, el⟩ := List.mem_map.mp (val_mem hv)
            have e1 : l.1 = j := Sum.inl.inj (congrArg Prod.fst el)
            have h1 : j ∈ js.take i := by rw [← hL, ← e1]; exact List.mem_map.mpr ⟨l, hl, rfl⟩
            exact absurd h1 (not_mem_take hjn hji)
        refine ⟨_, rfl, _, rfl, _, rfl, t, _, rfl, DPut.k (k := .inl j) ht8 (Evl.sz_lt (by rw [List.length_map]; omega)), ?_⟩
        rw [putK_new _ hnew]
        have hne8 : ∀ a, a ≠ t → (upd H8 t (.dK ((L.map fun l => ((Sum.inl l.1 : Key), V.ref l.2.1)) ++ [(Sum.inl j, .ref e)]))) a = H8 a := fun a n => upd_ne n
        refine ⟨_, _, _, _, M8, L ++ [(j, e, ekvs)], by omega, rfl, ?_, fun a o n1 n2 h => ?_, ⟨?_, ?_, fun l hl => ?_⟩, ?_⟩
        · obtain ⟨d, x, n, e, rr⟩ := g8.bag
          exact ⟨d, x, n, by rw [hne8 _ ntb.symm]; exact e, rr⟩
        · rw [hne8 _ n2]; exact o8 n1 (k5 a o n1 n2 h)
        · rw [upd_same, List.map_append]; rfl
        · rw [List.map_append, List.nodup_append]
          refine ⟨tb5.2.1, by simp, fun a ha b' hb' => ?_⟩
          obtain ⟨l, hl, rfl⟩ := List.mem_map.mp ha
          rw [List.map_cons, List.map_nil, List.mem_singleton] at hb'
          rw [hb']
          exact old5 (tb5.2.2 l hl).1
        · rcases List.mem_append.mp hl with hl | hl
          · obtain ⟨a1, a2, a3, a4, a5⟩ := tb5.2.2 l hl
            exact ⟨by rw [hne8 _ a5]; exact o8 a4 a1, a2, a3, a4, a5⟩
          · rw [List.mem_singleton.mp hl]
            exact ⟨by rw [hne8 _ net.symm]; exact he8, hrq, by show ekvs.length ≤ 10; omega, neb, net.symm⟩
        · rw [List.map_append, hL, List.take_add_one, hji]; rfl
    · rintro σ' H5 ⟨v10, v11, v12, v13, M5, L, l5, rfl, b5, k5, tb5, hL⟩
      rw [List.length_map] at hL l5
      exact ⟨v10, v11, v12, v13, M5, L, by omega, rfl, b5, k5, tb5, by rw [hL, List.take_length]⟩
  · rintro σ' H5 ⟨v10, v11, v12, v13, M5, L, l5, rfl, b5, k5, tb5, hL⟩
    have o5 : ∀ a o, a ≠ b → H a = some o → H5 a = some o := fun a o n h => k5 a o n (fresht a o n h) (k4' a o n h)
    have hj5 := k5 _ _ njo ntj.symm hj4
    refine sk_ret (B := [b]) (m := 1) (P := fun x H' => ∃ q head, x = .ref q ∧ q ≠ b ∧ H' q = some (.tup [.ref t, .int head]) ∧ head ∈ js) (bgAt1 b5) (by omega) (fun N1 H1 l1 k1 g1 Q1 q1 => ⟨_, rfl, ek_pickL (K := K) (B := [b]) (σ := [some (.ref b), some (.ref g), some (.ref p), some (.int most), some (.ref po), some (.ref jo), v6, some (.ref pl), some (.ref t), some (.ref ow), v10, v11, v12, v13]) (i := 0) (j := 5) (H := H1) (xs := js.map V.int) rfl rfl (k1 _ _ njo hj5) njo (by rw [List.length_map]; omega) (by rw [List.length_map]; omega) N1 H1 l1 (Keep.refl b H1) g1 _ fun x H2 M2 lm2 k2 g2 hx => ⟨by show 2 ≤ sizeLine; decide, fun q hq' => by
      obtain ⟨head, hh, rfl⟩ := List.mem_map.mp hx
      obtain ⟨nq, g3, k3⟩ := g2.new (o := .tup [.ref t, .int head]) hq'
      exact q1 _ _ M2 lm2 (k2.trans k3) g3 ⟨q, head, rfl, by simpa using nq, upd_same, hh⟩⟩⟩) fun x H6 M6 l6 k6 g6 ⟨q, head, ex, nqb, hq6, hh⟩ => ?_
    subst ex
    have tb6 := tb5.keep ntb k6
    have o46 : ∀ l ∈ L, ∃ r, RowA b H6 l.2.1 r ∧ RowOk js r := fun l hl => by
      obtain ⟨a1, a2, a3, a4, a5⟩ := tb6.2.2 l hl
      have : RowQ b js H6 l.2.2 := ⟨a2.1, fun kv hkv => by
        obtain ⟨z, x, h1, h2, h3, h4⟩ := a2.2 kv hkv
        refine ⟨z, x, h1, h2, ?_, h4⟩
        cases x with
        | inl i => exact h3
        | inr p =>
          obtain ⟨q, e, n, h⟩ := h3
          have nqt : q ≠ t := fun x => by rw [x, ht4] at h; cases h
          exact ⟨q, e, n, k6 _ _ n (k5 _ _ n nqt h)⟩⟩
      exact this.row a4 a1 a3 fun _ _ _ h => h
    obtain ⟨tabs, ht⟩ := each_of (R := fun (l : Int × Addr × List (Key × V)) (x : Int × List (Str × Tg)) => x.1 = l.1 ∧ l.2.1 ≠ t ∧ RowA b H6 l.2.1 x.2 ∧ RowOk js x.2) (xs := L) fun l hl => by
      obtain ⟨r, h1, h2⟩ := o46 l hl
      exact ⟨(l.1, r), rfl, (tb6.2.2 l hl).2.2.2.2, h1, h2⟩
    have hkeys : tabs.map (·.1) = js := by
      rw [← hL]
      exact (each_map (fun a c h => h.1.symm) ht).symm
    refine hq H6 q t tabs head M6 (by omega) (fun a o n h => k6 a o n (o5 a o n h)) g6.bag nqb hq6 ⟨_, ntb, tb6.1, ?_, ?_⟩ ⟨by rw [hkeys]; exact hjn, by rw [← List.length_map (f := fun x : Int × List (Str × Tg) => x.1), hkeys]; exact hj1, by rw [← List.length_map (f := fun x : Int × List (Str × Tg) => x.1), hkeys]; exact hj6, fun x hx => ?_⟩ (by rw [hkeys]; exact hh)
    · exact each_mapL ht fun l x h => ⟨by rw [h.1], l.2.1, rfl, h.2.1, h.2.2.1⟩
    · rw [List.map_map]
      have : L.map ((fun kv : Key × V => kv.2) ∘ fun l => ((Sum.inl l.1 : Key), V.ref l.2.1)) = (L.map (·.2.1)).map V.ref := by rw [List.map_map]; rfl
      rw [this]
      exact nodup_map_ref tb6.2.1
    · obtain ⟨l, _, h1, h2, h3, h4⟩ := each_back ht x hx
      refine ⟨hjb _ (by rw [← hkeys]; exact List.mem_map.mpr ⟨x, hx, rfl⟩), by rw [hkeys]; exact h4⟩
end
end KD

set_option Elab.async false
set_option linter.all false
set_option maxRecDepth 100000
set_option maxHeartbeats 4000000
namespace LF
open PySem PySem.Spec PyProof.Rows L2
open Evl (Ev EvL EvU EvT EvA EvO Ex sq_of st_of)
/-! walks over dicts, under a lock -/
theorem ex_lock {H H1 : Hp} {d : Addr} {u : HO} (e : Ex H H1) : Ex (upd H d u) (upd H1 d u) := fun a o h => by
  by_cases n : a = d
  · subst n; rw [upd_same] at h ⊢; exact h
  · rw [upd_ne n] at h ⊢; exact e a o h
theorem ex_unlock {H H' : Hp} {d : Addr} {u : HO} {o : Obj} (h : H d = some u) (s : Ex (upd H d (.frz o u)) H') : Ex H (upd H' d u) := fun a x e => by
  by_cases hb : a = d
  · subst hb; rw [upd_same, ← e, h]
  · rw [upd_ne hb]; exact s a x (by rw [upd_ne hb]; exact e)
theorem dc_it {J : It} {n : Nat} {G : Hp → Prop} {Y : Nat → Hp → V → Hp → Prop} (wk : Walk J n G Y) {g : TG} {tt : TT} {tk tv : TE} {vs : List Nat} {σ : L2.St} {Ha : Hp} {D : Addr} {Qd : Hp → Prop} (Pv : Nat → Hp → Prop) (start : Pv 0 (upd Ha D (.dK [])))
    (ok : ∀ i Hb, i ≤ n → Pv i Hb → G Hb)
    (turn : ∀ i x Hb Hc, i < n → Pv i Hb → Y i Hb x Hc → g x (wipe σ vs) Hc fun σ2 H2 => wipe σ2 vs = wipe σ vs ∧ tt σ2 H2 fun b H3 =>
      if b = true then tk σ2 H3 fun y H4 => tv σ2 H4 fun z H5 => ∃ kvs k, y = kV k ∧ H5 D = some (.dK kvs) ∧ kvs.length < sizeLine ∧ Pv (i + 1) (upd H5 D (.dK (putK kvs k z))) else Pv (i + 1) H3)
    (fin : ∀ Hb, Pv n Hb → Qd Hb) :
    ∃ W : Nat → Nat → Hp → Prop, (∃ m, W 0 m (upd Ha D (.dK []))) ∧ ∀ i m Hb, W i m Hb →
      (J.stop i Hb ∧ Qd Hb) ∨ (J.go i Hb ∧ ∃ Nx : Hp → Prop, (∀ Hc, Nx Hc → ∃ m', m' < m ∧ W (i + 1) m' Hc) ∧ ∀ x Hc, J.yld i Hb x Hc → g x (wipe σ vs) Hc fun σ2 H2 => wipe σ2 vs = wipe σ vs ∧ tt σ2 H2 fun b H3 =>
        if b = true then tk σ2 H3 fun y H4 => tv σ2 H4 fun z H5 => ∃ kvs k, y = kV k ∧ H5 D = some (.dK kvs) ∧ kvs.length < sizeLine ∧ Nx (upd H5 D (.dK (putK kvs k z))) else Nx H3) := by
  refine ⟨fun i m Hb => m + i = n ∧ Pv i Hb, ⟨n, Nat.add_zero n, start⟩, fun i m Hb hw => ?_⟩
  obtain ⟨hm, hp⟩ := hw
  have hi : i ≤ n := by omega
  rcases Nat.lt_or_ge i n with hlt | hge
  · exact Or.inr ⟨wk.goes i Hb hlt (ok i Hb hi hp), Pv (i + 1), fun Hc hc => ⟨n - (i + 1), by omega, by omega, hc⟩, fun x Hc y => turn i x Hb Hc hlt hp (wk.yields i Hb x Hc hlt (ok i Hb hi hp) y)⟩
  · obtain rfl : i = n := by omega
    exact Or.inl ⟨wk.stops Hb (ok i Hb hi hp), fin Hb hp⟩
section
variable {K : PySem.W.Frag} {σ : L2.St} {H : Hp} {te tk tv : TE} {tt : TT} {d : Addr} {kvs : List (Key × V)} {i j w : Nat} {D : Ends} {tz : TS}
/-- all([.. for k in d]) -/
theorem ev_lockAll (td : TE) (htd : Ev td σ H (.ref d)) (htd2 : ∀ od H1, Ex (upd H d (.frz od (.dK kvs))) H1 → Ev td σ H1 (.ref d)) (hd : H d = some (.dK kvs)) (hz : kvs.length ≤ 1000) (g : Key → Bool)
    (he : ∀ k ∈ kvs.map (·.1), ∀ od H1, Ex (upd H d (.frz od (.dK kvs))) H1 → Ev te ((wipe σ [j]).set j (some (kV k))) H1 (.bl (g k))) :
    Ev (tCB (rAll K) (tCons (tLockE (tLc (iKeys td) (gName j) tYes te [j])) tNil)) σ H (.bl ((kvs.map (·.1)).all g)) := fun H1 e Q q => by
  refine ⟨d, .dK kvs, e _ _ hd, trivial, fun od => ?_⟩
  unfold tLc iKeys
  refine htd2 od _ (ex_lock e) _ (Ex.refl _) _ fun H2 e2 => ?_
  have h2 : H2 d = some (.frz od (.dK kvs)) := e2 _ _ upd_same
  refine ⟨d, od, rfl, Or.inl ⟨kvs, h2, fun Dl hD => ?_⟩⟩
  have nd : Dl ≠ d := fun x => by rw [x, h2] at hD; cases hD
  refine lc_it walk_keys (fun n H' => Ex H2 H' ∧ H' Dl = some (.lst (((kvs.map (·.1)).take n).map fun k => V.bl (g k)))) ⟨Ex.new hD, by rw [upd_same]; rfl⟩ (fun n H' _ h => h.1 _ _ h2) ?_ ?_
  · rintro n x H3' H3 hn ⟨e3, hl⟩ ⟨rfl, k, v, hk, rfl⟩
    refine ⟨wipe_set, ?_⟩
    have hk' : (kvs.map (·.1))[n]? = some k := by rw [List.getElem?_map, hk]; rfl
    refine he k (List.mem_of_getElem? hk') od H3 ((ex_lock e).trans (e2.trans e3)) H3 (Ex.refl H3) _ fun H4 e4 => ?_
    refine ⟨_, e4 _ _ hl, Evl.sz_lt (by rw [List.length_map, List.length_take]; omega), Ex.mut (e3.trans e4) hD, ?_⟩
    rw [upd_same, List.take_add_one, hk', List.map_append]; rfl
  · rintro H3 ⟨e3, hl⟩
    rw [List.take_of_length_le (by rw [List.length_map]; exact Nat.le_refl _)] at hl
    refine ⟨e3 _ _ h2, Dl, (kvs.map (·.1)).map g, rfl, SqL.of (by rw [upd_ne nd, hl]; simp [Function.comp_def]), ?_⟩
    have : ((kvs.map (·.1)).map g).all id = (kvs.map (·.1)).all g := by rw [List.all_map]; rfl
    rw [this]
    exact q _ (ex_unlock (e _ _ hd) (e2.trans e3))
/-- w = [k for k in d if ..], none so -/
theorem sq_lockNone (hi : σ[i]? = some (some (.ref d))) (hd : H d = some (.dK kvs)) (ht : ∀ k ∈ kvs.map (·.1), ∀ od H1, Ex (upd H d (.frz od (.dK kvs))) H1 → EvT tt ((wipe σ [j]).set j (some (kV k))) H1 false)
    (k : ∀ p H1, Ex H H1 → H1 p = some (.lst []) → tz D (σ.set w (some (.ref p))) H1) : tSeq (tLock (tAsg (tLc (iKeys (tVar i)) (gName j) tt te [j]) (gName w))) tz D σ H := by
  refine ⟨d, .dK kvs, hd, trivial, fun od => ?_⟩
  refine ⟨_, hi, d, od, rfl, Or.inl ⟨kvs, upd_same, fun Dl hD => ?_⟩⟩
  have nd : Dl ≠ d := fun x => by rw [x, upd_same] at hD; cases hD
  refine lc_it walk_keys (fun n H' => Ex (upd H d (.frz od (.dK kvs))) H' ∧ H' Dl = some (.lst [])) ⟨Ex.new hD, upd_same⟩ (fun n H' _ h => h.1 _ _ upd_same) ?_ ?_
  · rintro n x H3' H3 hn ⟨e3, hl⟩ ⟨rfl, kk, v, hk, rfl⟩
    refine ⟨wipe_set, ?_⟩
    have hk' : (kvs.map (·.1))[n]? = some kk := by rw [List.getElem?_map, hk]; rfl
    exact ht kk (List.mem_of_getElem? hk') od H3 e3 H3 (Ex.refl H3) _ fun H4 e4 => iteF ⟨e3.trans e4, e4 _ _ hl⟩
  · rintro H3 ⟨e3, hl⟩
    exact ⟨e3 _ _ upd_same, k Dl _ (ex_unlock hd e3) (by rw [upd_ne nd]; exact hl)⟩
end
end LF

set_option Elab.async false
set_option linter.all false
set_option maxRecDepth 100000
set_option maxHeartbeats 4000000
namespace LF
open PySem PySem.Spec PyProof.Rows L2 KD
abbrev leS (a b : Str) : Prop := a.cps.toList ≤ b.cps.toList
theorem not_ltCps {a b : Str} (h : (!ltCps b.cps.toList a.cps.toList) = true) : leS a b := by
  rw [ltCps_eq, Bool.not_eq_true', decide_eq_false_iff_not] at h
  exact List.not_lt.mp h
theorem rising_pw : ∀ (l : List Str) (p : Str), risingS p l = true → (∀ x ∈ l, leS p x) ∧ l.Pairwise leS
  | [], _, _ => ⟨fun _ h => (nomatch h), .nil⟩
  | x :: r, p, h => by
    have h' : (!ltCps x.cps.toList p.cps.toList && risingS x r) = true := h
    rw [Bool.and_eq_true] at h'
    have h1 := not_ltCps h'.1
    obtain ⟨h2, h3⟩ := rising_pw r x h'.2
    refine ⟨fun y hy => ?_, .cons h2 h3⟩
    rcases List.mem_cons.mp hy with rfl | hy
    · exact h1
    · exact List.le_trans h1 (h2 y hy)
theorem sorted_pw {l : List Str} (h : sortedS l = true) : l.Pairwise leS := by
  cases l with
  | nil => exact .nil
  | cons x r =>
    obtain ⟨h1, h2⟩ := rising_pw r x h
    exact .cons h1 h2
theorem sorted_one {l m : List Str} (hl : sortedS l = true) (hm : sortedS m = true) (hp : l.Perm m) : l = m :=
  List.Perm.eq_of_pairwise (le := leS) (fun a b _ _ h1 h2 => str_of_cps' (List.le_antisymm h1 h2)) (sorted_pw hl) (sorted_pw hm) hp
where str_of_cps' {x y : Str} (h : x.cps.toList = y.cps.toList) : x = y := PySem.W.str_of_cps h
end LF

set_option Elab.async false
set_option linter.all false
set_option maxRecDepth 100000
set_option maxHeartbeats 8000000
namespace KD
open PySem PySem.Spec PyProof.Rows L2 LF
open Evl (Ev EvL EvU EvT EvA Ex sq_of st_of)
open PySem.W (EachIs)
def spTgIn : Sp := fun vs H Q _ => ∃ (t b : Addr) (v : V) (x : Tg) (kvs : List (Key × V)) (js : List Int), vs = [.ref t, v] ∧ H t = some (.dK kvs) ∧ kvs.map (·.1) = js.map Sum.inl ∧ (∀ j ∈ js, 0 ≤ j) ∧ TgA b H v x ∧ TgOk js x ∧ ∀ H', Ex H H' → Q (.bl true) H'
def spCheck : Sp := fun vs H Q _ => ∃ (t b : Addr) (tabs : List (Int × List (Str × Tg))) (top : Int), vs = [.ref t, .int top] ∧ TabA b H t tabs ∧ TabOk tabs ∧ top ∈ tabs.map (·.1) ∧ ∀ H', Ex H H' → Q .non H'
/-- a row by the order of its names -/
def SrtR (r s : List (Str × Tg)) : Prop := s.Perm r ∧ sortedS (s.map (·.1)) = true
def spRow : Sp := fun vs H Q _ => ∃ (e b : Addr) (r : List (Str × Tg)), vs = [.ref e] ∧ RowA b H e r ∧ (r.map (·.1)).Nodup ∧ r.length ≤ 10 ∧ ∀ H' p s, Ex H H' → H p = none → (p ≠ b → RowA b H' p s) → SrtR r s → Q (.ref p) H'
abbrev s_is_target_in : Stmt := topS 14
abbrev N_is_target_in : List Str := ["rows", "thing"]
theorem sc_is_target_in : FnScope ["rows", "thing"] ["rows", "thing"] (defScope s_is_target_in) := ⟨rfl, rfl, rfl, by decide +kernel, rfl, by decide +kernel, by decide +kernel⟩
abbrev s_check_tables : Stmt := topS 13
abbrev N_check_tables : List Str := ["tables", "top", "joint", "table", "name", "wrong"]
theorem sc_check_tables : FnScope ["tables", "top", "joint", "table", "name", "wrong"] ["tables", "top"] (defScope s_check_tables) := ⟨rfl, rfl, rfl, by decide +kernel, rfl, by decide +kernel, by decide +kernel⟩
abbrev s_sorted_row : Stmt := topS 15
abbrev N_sorted_row : List Str := ["table", "name"]
theorem sc_sorted_row : FnScope ["table", "name"] ["table"] (defScope s_sorted_row) := ⟨rfl, rfl, rfl, by decide +kernel, rfl, by decide +kernel, by decide +kernel⟩
theorem TgA.dq {b : Addr} {H : Hp} {v : V} {x : Tg} {js : List Int} (h : TgA b H v x) (ho : TgOk js x) : ∃ d, Dq H v d ∧ (match x with | .inl i => d = .int i | .inr p => d = .tuple [.str p.1, .str p.2]) := by
  cases x with
  | inl i => exact ⟨.int i, by rw [show v = .int i from h]; exact .int i, rfl⟩
  | inr p =>
    obtain ⟨q, e, _, hq⟩ := h
    have l1 := (isNm_len ho.1).2
    have l2 := ho.2.len
    exact ⟨_, by rw [e]; exact .tup hq (.cons (.str _ (by omega) (strOk_nm ho.1)) (.cons (.str _ (by omega) ho.2.strOk) .nil)) (by show 2 ≤ 1000; decide), rfl⟩
theorem TgA.lock {b e : Addr} {H H1 : Hp} {v : V} {x : Tg} {u : List (Key × V)} (h : TgA b H v x) (he : H e = some (.dK u)) (k : ∀ a o, a ≠ e → H a = some o → H1 a = some o) : TgA b H1 v x := by
  cases x with
  | inl i => exact h
  | inr p =>
    obtain ⟨q, e1, n, h1⟩ := h
    exact ⟨q, e1, n, k _ _ (fun z => by rw [z, he] at h1; cases h1) h1⟩
theorem nodup_map_inr {l : List Str} (h : l.Nodup) : (l.map (Sum.inr : Str → Key)).Nodup := by
  induction l with
  | nil => exact .nil
  | cons a l ih =>
    rw [List.nodup_cons] at h
    refine List.nodup_cons.mpr ⟨fun m => ?_, ih h.2⟩
    obtain ⟨x, hx, e⟩ := List.mem_map.mp m
    exact h.1 (by rw [← Sum.inr.inj e]; exact hx)
theorem nodup_map_inl {l : List Int} (h : l.Nodup) : (l.map (Sum.inl : Int → Key)).Nodup := by
  induction l with
  | nil => exact .nil
  | cons a l ih =>
    rw [List.nodup_cons] at h
    refine List.nodup_cons.mpr ⟨fun m => ?_, ih h.2⟩
    obtain ⟨x, hx, e⟩ := List.mem_map.mp m
    exact h.1 (by rw [← Sum.inl.inj e]; exact hx)
theorem val_of {kvs : List (Key × V)} {kv : Key × V} (h : (kvs.map (·.1)).Nodup) (hm : kv ∈ kvs) : valV kvs kv.1 = some kv.2 := by
  induction kvs with
  | nil => exact nomatch hm
  | cons p r ih =>
    rw [List.map_cons, List.nodup_cons] at h
    rcases List.mem_cons.mp hm with e | hm
    · subst e; exact valV_pos rfl
    · rw [valV_neg (fun e => h.1 (by rw [e]; exact List.mem_map.mpr ⟨kv, hm, rfl⟩))]
      exact ih h.2 hm
theorem each_mapped {α β : Type} {R : α → β → Prop} {f : β → α} : ∀ {s : List β}, (∀ y ∈ s, R (f y) y) → EachIs R (s.map f) s
  | [], _ => .nil
  | y :: s, h => .cons (h y List.mem_cons_self) (each_mapped fun z hz => h z (List.mem_cons_of_mem _ hz))
theorem keys_val {kvs : List (Key × V)} {js : List Int} {i : Int} (h : kvs.map (·.1) = js.map Sum.inl) (hi : i ∈ js) : ∃ v, valV kvs (.inl i) = some v ∧ ((Sum.inl i : Key), v) ∈ kvs :=
  val_some (by rw [h]; exact List.mem_map.mpr ⟨i, hi, rfl⟩)
section
variable {P : Program} {w : World} {K : PySem.W.Frag} {mg : Str → Option Value} {base : Heap} {tk1 tk2 : Tok}
theorem ok_is_target_in {f f1 f2 : Addr} {fd fd1 fd2 : FuncData} (F : Fun K "is_target_in" "is_target_in" s_is_target_in f fd) (d_is_place_in_package : DefAt P w K mg base "is_place_in_package" 3 f1 fd1 ["thing"] (spD plD)) (d_is_joint : DefAt P w K mg base "is_joint" 2 f2 fd2 ["thing"] (spD jtD)) :
    FnOk P w K mg base CX0 4 f fd ["rows", "thing"] spTgIn := by
  refine F.ok sc_is_target_in (fun vs H Q E h => ?_) (fun cdv A outer s H vs Q E hr h => ?_)
  · obtain ⟨t, b, v, x, kvs, js, rfl, _⟩ := h
    rfl
  have hu1 := hu_of hr
  refine ⟨_, (pss_one (ps_ret (pe_or (pe_callD d_is_place_in_package (hr.mono (by decide)) (pa_cons (pv 1) pa_nil)) (pe_one (pe_and (pe_callD d_is_joint (hr.mono (by decide)) (pa_cons (pv 1) pa_nil)) (pe_one (pe_cmp (pc_din hu1 (pv 1) (pv 0))))))))), ?_⟩
  obtain ⟨t, b, v, x, kvs, js, rfl, ht, hk, h0, ha, ho, hq⟩ := h
  obtain ⟨d, hd, hx⟩ := ha.dq ho
  have v1 : EvD (tVar 1) [some (.ref t), some v] H d := evd_var rfl hd
  cases x with
  | inl i =>
    subst hx
    have c1 : plD (.int i) = false := rfl
    have c2 : jtD (.int i) = true := by
      have := h0 i ho
      unfold jtD intD isNum isBol num
      simp [this]
    refine Evl.s_ret (v := .bl true) (Evl.ev_is (Evl.ev_orV (b := true) (ev_callB1 v1) fun _ => Evl.ev_andV (a := true) (b := true) (Evl.ev_is (ev_callB1 (g := jtD) v1) (by rw [c2])) fun _ => fun H1 e Q q => ?_) (by rw [c1]; rfl)) hq
    obtain ⟨u, hu, _⟩ := keys_val hk ho
    rw [show v = .int i from ha]
    have dg := DGet.k (k := .inl i) (e _ _ ht)
    rw [hu] at dg
    exact ⟨_, rfl, _, rfl, t, _, rfl, dg, q H1 (Ex.refl H1)⟩
  | inr p =>
    subst hx
    have c1 : plD (.tuple [.str p.1, .str p.2]) = true := by
      have h1 := ho.1
      have h2 := ho.2.pt
      simp [plD, isTup, items, at', nmD, ptD, isStr, txt, h1, h2]
    exact Evl.s_ret (v := .bl true) (Evl.ev_is (Evl.ev_orV (b := true) (ev_callB1 v1) fun h => by rw [c1] at h; cases h) (by rw [c1]; rfl)) hq
end
end KD

set_option Elab.async false
set_option linter.all false
set_option maxRecDepth 100000
set_option maxHeartbeats 8000000
namespace KD
open PySem PySem.Spec PyProof.Rows L2 LF
open Evl (Ev EvL EvU EvT EvA Ex sq_of st_of)
open PySem.W (EachIs)
section
variable {P : Program} {w : World} {K : PySem.W.Frag} {mg : Str → Option Value} {base : Heap} {tk1 tk2 : Tok}
theorem ok_check_tables {f f1 f2 f3 : Addr} {fd fd1 fd2 fd3 : FuncData} (F : Fun K "check_tables" "check_tables" s_check_tables f fd) (T : Txt K mg tk1 tk2) (d_is_joint : DefAt P w K mg base "is_joint" 2 f1 fd1 ["thing"] (spD jtD)) (d_is_name : DefAt P w K mg base "is_name" 1 f2 fd2 ["thing"] (spD nmD)) (d_is_target_in : DefAt P w K mg base "is_target_in" 4 f3 fd3 ["rows", "thing"] spTgIn) :
    FnOk P w K mg base CX0 5 f fd ["tables", "top"] spCheck := by
  refine F.ok sc_check_tables (fun vs H Q E h => ?_) (fun cdv A outer s H vs Q E hr h => ?_)
  · obtain ⟨t, b, tabs, top, rfl, _⟩ := h
    rfl
  have hu1 := hu_of hr
  refine ⟨_, (pss_cons (ps_if (PW.pt (pw_or (pt_not (pt_val (pe_callB call_isi (by rfl) T.n_isinstance (by decide +kernel) (pa_cons (pv 0) (pa_cons (pe_bltn (v := .ty "dict") (by rfl) T.n_dict (by decide +kernel) rfl) pa_nil))))) (pw_or1 (pt_not (pt_val (pe_callB (cr_all rfl) (by rfl) T.n_all (by decide +kernel) (pa_cons (pe_lock (pe_lc (own := [("joint", 2)]) rfl sc_check_tables.nd (pi_keys (pv 0)) (blkOk_by (N := N_check_tables) (sc := defScope s_check_tables) (by decide +kernel)) (fun _ _ _ _ _ => pg_name (i := 2) sc_check_tables.nd rfl (Or.inl rfl)) (fun _ _ _ _ _ => pts_nil) (fun _ _ _ _ _ => (pe_callD d_is_joint (hr.mono (by decide)) (pa_cons (pv 2) pa_nil))))) pa_nil))))))) (pss_one ps_never) pss_nil)
    (pss_cons (ps_if (PW.pt (pw_or (pt_not (pt_val (pe_callD d_is_joint (hr.mono (by decide)) (pa_cons (pv 1) pa_nil)))) (pw_or1 (pt_cmp (pc_dnotin hu1 (pv 1) (pv 0)))))) (pss_one ps_never) pss_nil)
    (pss_one (ps_for PassesOwn.never rfl (pi_list (pe_callB (call_sortedDI rfl) (by rfl) T.n_sorted (by decide +kernel) (pa_cons (pv 0) pa_nil))) (pg_name (i := 2) sc_check_tables.nd rfl (Or.inl rfl)) (pss_cons (ps_set (i := 3) sc_check_tables.nd rfl (Or.inr rfl) (pe_dget hu1 (pv 0) (pv 2) (fun _ _ => rfl)))
    (pss_cons (ps_if (PW.pt (pw_or (pt_not (pt_val (pe_callB call_isi (by rfl) T.n_isinstance (by decide +kernel) (pa_cons (pv 3) (pa_cons (pe_bltn (v := .ty "dict") (by rfl) T.n_dict (by decide +kernel) rfl) pa_nil))))) (pw_or1 (pt_not (pt_val (pe_callB (cr_all rfl) (by rfl) T.n_all (by decide +kernel) (pa_cons (pe_lock (pe_lc (own := [("name", 4)]) rfl sc_check_tables.nd (pi_keys (pv 3)) (blkOk_by (N := N_check_tables) (sc := defScope s_check_tables) (by decide +kernel)) (fun _ _ _ _ _ => pg_name (i := 4) sc_check_tables.nd rfl (Or.inl rfl)) (fun _ _ _ _ _ => pts_nil) (fun _ _ _ _ _ => (pe_callD d_is_name (hr.mono (by decide)) (pa_cons (pv 4) pa_nil))))) pa_nil))))))) (pss_one ps_never) pss_nil)
    (pss_cons (ps_lock (ps_setLc (i := 5) (own := [("name", 4)]) rfl sc_check_tables.nd rfl rfl (sw_true rfl rfl rfl (by decide +kernel)) (pi_keys (pv 3)) (blkOk_by (N := N_check_tables) (sc := defScope s_check_tables) (by decide +kernel)) (fun _ _ _ _ _ => pg_name (i := 4) sc_check_tables.nd rfl (Or.inl rfl)) (fun _ _ _ _ _ => (pts_one (pt_not (pt_val (pe_callD d_is_target_in (hr.mono (by decide)) (pa_cons (pv 0) (pa_cons (pe_dget hu1 (pv 3) (pv 4) (fun _ _ => rfl)) pa_nil))))))) (fun _ _ _ _ _ => (pv 4))))
    (pss_one (ps_if (pt_cmpR op_gt (pe_callB call_len_seq (by rfl) T.n_len (by decide +kernel) (pa_cons (pv 5) pa_nil)) pe_int (nomark _)) (pss_one ps_never) pss_nil))))))))), ?_⟩
  obtain ⟨t, b, tabs, top, rfl, ⟨kvs, ntb, ht, heach, _⟩, ⟨hnd, hl1, hl6, hx⟩, htop, hq⟩ := h
  have hkeys : kvs.map (·.1) = (tabs.map (·.1)).map Sum.inl := by
    rw [List.map_map]
    exact each_map (fun a c h => h.1) heach
  have hlen : kvs.length = tabs.length := heach.length
  have hj0 : ∀ j ∈ tabs.map (·.1), (0 : Int) ≤ j := fun j hj => by
    obtain ⟨x, hx', rfl⟩ := List.mem_map.mp hj
    exact (hx x hx').1.1
  have jt : ∀ {j : Int}, 0 ≤ j → jtD (.int j) = true := fun h => by
    unfold jtD intD isNum isBol num
    simp [h]
  have isd : ∀ {σ : L2.St} {i : Nat} {a : Addr} {H1 : Hp} {kv : List (Key × V)}, σ[i]? = some (some (.ref a)) → H1 a = some (.dK kv) → Ev (tCB (rIsi K) (tCons (tVar i) (tCons (tC (.ty "dict")) tNil))) σ H1 (.bl true) := fun hi ha =>
    Evl.ev_cb (vs := [.ref _, .ty "dict"]) (Evl.ea_cons (Evl.ev_var hi) (Evl.ea_cons Evl.ev_c Evl.ea_nil)) fun H1 e Q q => ⟨_, .ty "dict", _, _, true, rfl, .ty _, .base (.dK (e _ _ ha)), kit_ty (by decide +kernel), q H1 (Ex.refl H1)⟩
  refine Evl.q_when (b := false) (Evl.et_is (Evl.et_or (a := false) (b := false) (Evl.et_is (Evl.et_not (Evl.et_B (isd rfl ht))) rfl) fun _ => Evl.et_is (Evl.et_not (Evl.et_B (ev_lockAll (K := K) (kvs := kvs) (tVar 0) (Evl.ev_var rfl) (fun _ _ _ => Evl.ev_var rfl) ht (by omega) (fun _ => true) fun k hk od H1 e1 => ?_))) (by rw [List.all_eq_true.mpr (fun _ _ => rfl)]; rfl)) rfl) (fun h => nomatch h) fun _ H1 e1 => ?_
  · rw [hkeys] at hk
    obtain ⟨j, hj, rfl⟩ := List.mem_map.mp hk
    exact Evl.ev_is (ev_callB1 (g := jtD) (evd_var rfl (.int j))) (by rw [jt (hj0 j hj)])
  have ht1 := e1 _ _ ht
  refine Evl.q_when (b := false) (Evl.et_is (Evl.et_or (a := false) (b := false) (Evl.et_is (Evl.et_not (Evl.et_B (ev_callB1 (g := jtD) (evd_var rfl (.int top))))) (by rw [jt (hj0 top htop)]; rfl)) fun _ => Evl.et_B fun H2 e2 Q q => ?_) rfl) (fun h => nomatch h) fun _ H2 e2 => ?_
  · obtain ⟨u, hu, _⟩ := keys_val hkeys htop
    have dg := DGet.k (k := .inl top) (e2 _ _ ht1)
    rw [hu] at dg
    exact ⟨_, rfl, _, rfl, t, _, rfl, dg, q H2 (Ex.refl H2)⟩
  have x2 : Ex H H2 := e1.trans e2
  have ht2 := x2 _ _ ht
  refine ⟨_, rfl, t, kvs, tabs.map (·.1), rfl, Rd.of ht2, hkeys, by rw [List.length_map]; omega, fun ys p hperm _ hp => ⟨p, rfl, ⟨_, SqL.of upd_same⟩, ?_⟩⟩
  have x3 : Ex H (upd H2 p (.lst (ys.map V.int))) := x2.trans (Ex.new hp)
  have hp3 : (upd H2 p (.lst (ys.map V.int))) p = some (.lst (ys.map V.int)) := upd_same
  generalize upd H2 p (.lst (ys.map V.int)) = H3 at *
  refine for_it (walk_list (xs := ys.map V.int)) (fun i σ' H' => ∃ v2 v3 v4 v5, σ' = [some (.ref t), some (.int top), v2, v3, v4, v5] ∧ Ex H3 H') ⟨_, _, _, _, rfl, Ex.refl H3⟩ (fun i σ' H' _ ⟨_, _, _, _, _, e⟩ => SqL.of (e _ _ hp3)) ?_ ?_
  · rintro i x σ' H4' H4 hi ⟨v2, v3, v4, v5, rfl, e4⟩ ⟨rfl, hxi⟩
    have hxm := List.mem_of_getElem? hxi
    obtain ⟨j, hjy, rfl⟩ := List.mem_map.mp hxm
    have hj := hperm.mem_iff.mp hjy
    obtain ⟨v, hv, hm⟩ := keys_val hkeys hj
    obtain ⟨y, hy, hy1, e, rfl, net, ekvs, neb, he, hrow⟩ := each_mem heach _ hm
    obtain ⟨_, hrn, hrl, hry⟩ := hx y hy
    have x4 : Ex H H4 := x3.trans e4
    have ht4 := x4 _ _ ht
    refine Evl.q_asg (v := .ref e) (fun H5 e5 Q q => ?_) fun H5 e5 => ?_
    · have dg := DGet.k (k := .inl j) (e5 _ _ ht4)
      rw [hv] at dg
      exact ⟨_, rfl, _, rfl, t, _, rfl, dg, q H5 (Ex.refl H5)⟩
    have he5 := e5 _ _ (x4 _ _ he)
    have hek : ∀ k ∈ ekvs.map (·.1), ∃ z y', k = Sum.inr z ∧ y' ∈ y.2 ∧ y'.1 = z := fun k hk => by
      obtain ⟨kv, hkv, rfl⟩ := List.mem_map.mp hk
      obtain ⟨y', hy', h1, _⟩ := each_mem hrow kv hkv
      exact ⟨y'.1, y', h1, hy', rfl⟩
    have hel : ekvs.length ≤ 10 := by rw [hrow.length]; exact hrl
    refine Evl.q_when (b := false) (Evl.et_is (Evl.et_or (a := false) (b := false) (Evl.et_is (Evl.et_not (Evl.et_B (isd rfl he5))) rfl) fun _ => Evl.et_is (Evl.et_not (Evl.et_B (ev_lockAll (K := K) (kvs := ekvs) (tVar 3) (Evl.ev_var rfl) (fun _ _ _ => Evl.ev_var rfl) he5 (by omega) (fun _ => true) fun k hk od H6 e6 => ?_))) (by rw [List.all_eq_true.mpr (fun _ _ => rfl)]; rfl)) rfl) (fun h => nomatch h) fun _ H6 e6 => ?_
    · obtain ⟨z, y', rfl, hy', rfl⟩ := hek k hk
      have hz := (hry y' hy').1
      have l1 := (isNm_len hz).2
      exact Evl.ev_is (ev_callB1 (g := nmD) (evd_var rfl (.str _ (by omega) (strOk_nm hz)))) (by simp [nmD, isStr, txt, hz])
    have x6 : Ex H H6 := (x4.trans e5).trans e6
    have he6 := x6 _ _ he
    refine sq_lockNone (kvs := ekvs) rfl he6 (fun k hk od H7 e7 => ?_) fun pw H7 e7 hw => ?_
    · obtain ⟨v', hv', hm'⟩ := val_some hk
      obtain ⟨y', hy', h1, h2⟩ := each_mem hrow _ hm'
      cases (show k = Sum.inr y'.1 from h1)
      have net2 : t ≠ e := net.symm
      have ht7 : H7 t = some (.dK kvs) := e7 _ _ (by rw [upd_ne net2]; exact x6 _ _ ht)
      have he7 : H7 e = some (.frz od (.dK ekvs)) := e7 _ _ upd_same
      have ta : TgA b H7 v' y'.2 := h2.lock he (fun a o n h => e7 _ _ (by rw [upd_ne n]; exact x6 _ _ h))
      refine Evl.et_is (Evl.et_not (Evl.et_B (Evl.ev_call (z := .bl true) (vs := [.ref t, v']) (Evl.ea_cons (Evl.ev_var rfl) (Evl.ea_cons (fun H8 e8 Q q => ?_) Evl.ea_nil)) fun H8 e8 Q q E' => ?_))) rfl
      · have dg : DGet H8 e (kV (.inr y'.1)) (valV ekvs (.inr y'.1)) := Or.inl ⟨ekvs, .inr y'.1, Or.inr ⟨od, e8 _ _ he7⟩, rfl, rfl⟩
        rw [hv'] at dg
        exact ⟨_, rfl, _, rfl, e, _, rfl, dg, q H8 (Ex.refl H8)⟩
      · exact ⟨t, b, v', y'.2, kvs, tabs.map (·.1), rfl, e8 _ _ ht7, hkeys, hj0, ta.old (fun a o _ h => e8 _ _ h), (hry y' hy').2, fun H9 e9 => q H9 e9⟩
    · refine Evl.s_when (b := false) (Evl.et_is (Evl.et_test (Evl.ev_op (Evl.ev_len (K := K) (xs := []) (Evl.ev_var rfl) (SqL.of hw)) Evl.ev_c Evl.rv_I0)) rfl) (fun h => nomatch h) fun _ H8 e8 => ?_
      exact ⟨_, _, _, _, rfl, (((e4.trans e5).trans e6).trans e7).trans e8⟩
  · rintro σ' H4 ⟨v2, v3, v4, v5, rfl, e4⟩
    exact hq H4 (x3.trans e4)
theorem ok_sorted_row {f : Addr} {fd : FuncData} (F : Fun K "sorted_row" "sorted_row" s_sorted_row f fd) (T : Txt K mg tk1 tk2) : FnOk P w K mg base CX0 1 f fd ["table"] spRow := by
  refine F.ok sc_sorted_row (fun vs H Q E h => ?_) (fun cdv A outer s H vs Q E hr h => ?_)
  · obtain ⟨e, b, r, rfl, _⟩ := h
    rfl
  have hu1 := hu_of hr
  refine ⟨_, (pss_one (ps_ret (pe_dc (own := [("name", 1)]) rfl sc_sorted_row.nd (pi_list (pe_callB (show CallR _ (.builtin "sorted") _ from call_sortedD rfl) (by rfl) T.n_sorted (by decide +kernel) (pa_cons (pv 0) pa_nil))) (blkOk_by (N := N_sorted_row) (sc := defScope s_sorted_row) (by decide +kernel)) (fun _ _ _ _ _ => pg_name (i := 1) sc_sorted_row.nd rfl (Or.inl rfl)) (fun _ _ _ _ _ => pts_nil) (fun _ _ _ _ _ => (pv 1)) (fun _ _ _ _ _ => (pe_dget hu1 (pv 0) (pv 1) (fun _ _ => rfl)))))), ?_⟩
  obtain ⟨e, b, r, rfl, ⟨ekvs, neb, he, hrow⟩, hn, hl, hq⟩ := h
  have hkeys : ekvs.map (·.1) = (r.map (·.1)).map Sum.inr := by
    rw [List.map_map]
    exact each_map (fun a c h => h.1) hrow
  have hkn : (ekvs.map (·.1)).Nodup := by rw [hkeys]; exact nodup_map_inr hn
  refine ⟨_, rfl, e, ekvs, r.map (·.1), rfl, Rd.of he, hkeys, by rw [List.length_map]; omega, fun ys p hperm hsort hp => ⟨p, rfl, ⟨_, SqL.of upd_same⟩, fun D hD => ?_⟩⟩
  obtain ⟨s, hs, hsn⟩ := perm_lift (fun y : Str × Tg => y.1) hperm r rfl
  have x2 : Ex H (upd H p (.lst (ys.map V.str))) := Ex.new hp
  have hp2 : (upd H p (.lst (ys.map V.str))) p = some (.lst (ys.map V.str)) := upd_same
  generalize upd H p (.lst (ys.map V.str)) = H2 at *
  have hyn : ys.Nodup := hperm.symm.nodup hn
  have hval : ∀ y ∈ s, ∃ v, valV ekvs (.inr y.1) = some v ∧ TgA b H v y.2 := fun y hy => by
    obtain ⟨kv, hkv, h1, h2⟩ := each_back hrow y (hs.mem_iff.mp hy)
    exact ⟨kv.2, by rw [← h1]; exact val_of hkn hkv, h2⟩
  have hyl : ys.length ≤ 10 := by rw [hperm.length_eq, List.length_map]; exact hl
  refine dc_it (walk_list (xs := ys.map V.str)) (fun i H' => Ex H2 H' ∧ H' D = some (.dK ((ys.take i).map fun z => ((Sum.inr z : Key), (valV ekvs (.inr z)).getD .non)))) ⟨Ex.new hD, by rw [upd_same]; rfl⟩ (fun i H' _ h => SqL.of (h.1 _ _ hp2)) ?_ ?_
  · rintro i x H3' H3 hi ⟨e3, hd⟩ ⟨rfl, hxi⟩
    rw [List.getElem?_map] at hxi
    obtain ⟨z, hz, rfl⟩ := Option.map_eq_some_iff.mp hxi
    have hzs : z ∈ s.map (·.1) := by rw [hsn]; exact List.mem_of_getElem? hz
    obtain ⟨y, hy, ey⟩ := List.mem_map.mp hzs
    obtain ⟨v, hv, _⟩ := hval y hy
    have ey' : y.1 = z := ey
    rw [ey'] at hv
    have dg := DGet.k (k := .inr z) (e3 _ _ (x2 _ _ he))
    rw [hv] at dg
    refine ⟨wipe_set, ?_⟩
    refine ⟨_, rfl, _, rfl, _, rfl, e, v, rfl, dg, _, .inr z, rfl, hd, Evl.sz_lt (by rw [List.length_map, List.length_take]; omega), Ex.mut e3 hD, ?_⟩
    have hnew : valV ((ys.take i).map fun z => ((Sum.inr z : Key), (valV ekvs (.inr z)).getD .non)) (.inr z) = none := by
      cases hv' : valV ((ys.take i).map fun z => ((Sum.inr z : Key), (valV ekvs (.inr z)).getD .non)) (.inr z) with
      | none => rfl
      | some u =>
        obtain ⟨z', hz', ez⟩ := List.mem_map.mp (val_mem hv')
        have : z' = z := Sum.inr.inj (congrArg Prod.fst ez)
        rw [this] at hz'
        exact absurd hz' (not_mem_take hyn hz)
    rw [upd_same, putK_new _ hnew, List.take_add_one, hz, List.map_append]
    simp [hv]
  · rintro H3 ⟨e3, hd⟩
    rw [List.length_map, List.take_length] at hd
    refine hq H3 D s (x2.trans e3) (Evl.fresh_back x2 hD) (fun nDb => ⟨_, nDb, hd, ?_⟩) ⟨hs, by rw [hsn]; exact hsort⟩
    have : (ys.map fun z => ((Sum.inr z : Key), (valV ekvs (.inr z)).getD .non)) = s.map fun y => ((Sum.inr y.1 : Key), (valV ekvs (.inr y.1)).getD .non) := by
      rw [← hsn, List.map_map]; rfl
    rw [this]
    refine each_mapped fun y hy => ?_
    obtain ⟨v, hv, ha⟩ := hval y hy
    exact ⟨rfl, by show TgA b H3 ((valV ekvs (.inr y.1)).getD .non) y.2; rw [hv]; exact ha.old (fun a o _ h => e3 _ _ (x2 _ _ h))⟩
end
end KD

set_option Elab.async false
set_option linter.all false
set_option maxRecDepth 100000
set_option maxHeartbeats 8000000
namespace KD
open PySem PySem.Spec PyProof.Rows L2 LF
open Evl (Ev EvL EvU EvT EvA Ex sq_of st_of)
open PySem.W (EachIs)
abbrev s_Layout : Stmt := topS 12
/-- dicts and tuples stay -/
def KeepDT (b : Addr) (H H' : Hp) : Prop := (∀ a (kvs : List (Key × V)), a ≠ b → H a = some (.dK kvs) → H' a = some (.dK kvs)) ∧ ∀ a xs, a ≠ b → H a = some (.tup xs) → H' a = some (.tup xs)
theorem KeepDT.of {b : Addr} {H H' : Hp} (k : ∀ a o, a ≠ b → H a = some o → H' a = some o) : KeepDT b H H' := ⟨fun a kvs n h => k a _ n h, fun a xs n h => k a _ n h⟩
theorem KeepDT.trans {b : Addr} {H H1 H2 : Hp} (x : KeepDT b H H1) (y : KeepDT b H1 H2) : KeepDT b H H2 := ⟨fun a kvs n h => y.1 a kvs n (x.1 a kvs n h), fun a kvs n h => y.2 a kvs n (x.2 a kvs n h)⟩
theorem KeepDT.ins {b p C : Addr} {dx : Addr} {H : Hp} {fs : List (Str × V)} {o : HO} (h : H p = some (.ins C dx fs)) : KeepDT b H (upd H p o) :=
  ⟨fun a kvs n ha => by rw [upd_ne (fun e => by rw [e, h] at ha; cases ha)]; exact ha, fun a xs n ha => by rw [upd_ne (fun e => by rw [e, h] at ha; cases ha)]; exact ha⟩
theorem TgA.dt {b : Addr} {H H' : Hp} {v : V} {x : Tg} (h : TgA b H v x) (k : KeepDT b H H') : TgA b H' v x := by
  cases x with
  | inl i => exact h
  | inr p =>
    obtain ⟨q, e, n, h⟩ := h
    exact ⟨q, e, n, k.2 _ _ n h⟩
theorem RowA.dt {b : Addr} {H H' : Hp} {e : Addr} {r : List (Str × Tg)} (h : RowA b H e r) (k : KeepDT b H H') : RowA b H' e r := by
  obtain ⟨kvs, n, h1, h2⟩ := h
  exact ⟨kvs, n, k.1 _ _ n h1, h2.mono fun kv x ⟨e, t⟩ => ⟨e, t.dt k⟩⟩
theorem TabA.dt {b : Addr} {H H' : Hp} {t : Addr} {tabs : List (Int × List (Str × Tg))} (h : TabA b H t tabs) (k : KeepDT b H H') : TabA b H' t tabs := by
  obtain ⟨kvs, n, h1, h2, h3⟩ := h
  exact ⟨kvs, n, k.1 _ _ n h1, h2.mono fun kv x ⟨e, a, h4, h5, h6⟩ => ⟨e, a, h4, h5, h6.dt k⟩, h3⟩
theorem RowA.put {b e D : Addr} {H : Hp} {r : List (Str × Tg)} {u : List (Key × V)} {o : HO} (h : RowA b H e r) (ne : e ≠ D) (hD : H D = some (.dK u)) : RowA b (upd H D o) e r := by
  obtain ⟨kvs, n, h1, h2⟩ := h
  refine ⟨kvs, n, by rw [upd_ne ne]; exact h1, h2.mono fun kv x ⟨e, t⟩ => ⟨e, t.lock hD fun a o n h => by rw [upd_ne n]; exact h⟩⟩
/-- tables by the order of their joints, rows by that of their names -/
def SrtT (tabs s : List (Int × List (Str × Tg))) : Prop := (s.map (·.1)).Perm (tabs.map (·.1)) ∧ (s.map (·.1)).Pairwise (· ≤ ·) ∧ ∀ x ∈ s, ∃ y ∈ tabs, y.1 = x.1 ∧ SrtR y.2 x.2
def layFs (R : Addr) (top : Int) : List (Str × V) := [("rows", .ref R), ("peak", .int top)]
/-- a layout, at l: its rows and its top -/
def LayA (C b : Addr) (H : Hp) (l : Addr) (s : List (Int × List (Str × Tg))) (top : Int) : Prop := ∃ dx R, l ≠ b ∧ H l = some (.ins C dx (layFs R top)) ∧ TabA b H R s
theorem LayA.keep {C b l : Addr} {H H' : Hp} {s : List (Int × List (Str × Tg))} {top : Int} (h : LayA C b H l s top) (k : Keep b H H') : LayA C b H' l s top := by
  obtain ⟨dx, R, n, h1, h2⟩ := h
  exact ⟨dx, R, n, k _ _ n h1, h2.keep k⟩
theorem each_maps {α β γ : Type} {R : α → β → Prop} {f : γ → α} {g : γ → β} : ∀ {l : List γ}, (∀ c ∈ l, R (f c) (g c)) → EachIs R (l.map f) (l.map g)
  | [], _ => .nil
  | c :: l, h => .cons (h c List.mem_cons_self) (each_maps fun d hd => h d (List.mem_cons_of_mem _ hd))
structure LayTxt (K : PySem.W.Frag) (mg : Str → Option Value) (C : Addr) : Prop where
  cl : Cls K C
  nR : NoAttr K C "rows"
  nP : NoAttr K C "peak"
  gC : mg "Layout" = some (.ref C)
def spInit (C : Addr) : Sp := fun vs H Q _ => ∃ (p dx t b : Addr) (tabs : List (Int × List (Str × Tg))) (top : Int), vs = [.ref p, .ref t, .int top] ∧ H p = some (.ins C dx []) ∧ (∃ o, H b = some o) ∧ p ≠ b ∧ TabA b H t tabs ∧ TabOk tabs ∧ top ∈ tabs.map (·.1) ∧
  ∀ H' R s, Keep p H H' → H R = none → SrtT tabs s → TabA b H' R s → H' p = some (.ins C dx (layFs R top)) → Q .non H'
abbrev s_init : Stmt := inClass s_Layout 0
abbrev N_init : List Str := ["self", "tables", "top", "joint"]
theorem sc_init : FnScope ["self", "tables", "top", "joint"] ["self", "tables", "top"] (defScope s_init) := ⟨rfl, rfl, rfl, by decide +kernel, rfl, by decide +kernel, by decide +kernel⟩
section
variable {P : Program} {w : World} {K : PySem.W.Frag} {mg : Str → Option Value} {base : Heap} {tk1 tk2 : Tok}
theorem ok_init {f f1 f2 C : Addr} {fd fd1 fd2 : FuncData} (F : FunD K "__init__" "Layout.__init__" (defArgs s_init) (defBody s_init) (defScope s_init) [] [("top", .int 0)] f fd) (T : Txt K mg tk1 tk2) (R : LayTxt K mg C)
    (d_check_tables : DefAt P w K mg base "check_tables" 5 f1 fd1 ["tables", "top"] spCheck) (d_sorted_row : DefAt P w K mg base "sorted_row" 1 f2 fd2 ["table"] spRow) :
    FnOk P w K mg base CX0 6 f fd ["self", "tables", "top"] (spInit C) := by
  refine F.ok sc_init (fun vs H Q E h => ?_) (fun cdv A outer s H vs Q E hr h => ?_)
  · obtain ⟨p, dx, t, b, tabs, top, rfl, _⟩ := h
    rfl
  have hu1 := hu_of hr
  refine ⟨_, (pss_cons (ps_expr (pe_callD d_check_tables (hr.mono (by decide)) (pa_cons (pv 1) (pa_cons (pv 2) pa_nil))))
    (pss_cons (ps_fld (pv 0) (pe_dc (own := [("joint", 3)]) rfl sc_init.nd (pi_list (pe_callB (call_sortedDI rfl) (by rfl) T.n_sorted (by decide +kernel) (pa_cons (pv 1) pa_nil))) (blkOk_by (N := N_init) (sc := defScope s_init) (by decide +kernel)) (fun _ _ _ _ _ => pg_name (i := 3) sc_init.nd rfl (Or.inl rfl)) (fun _ _ _ _ _ => pts_nil) (fun _ _ _ _ _ => (pv 3)) (fun _ _ _ _ _ => (pe_callD d_sorted_row (hr.mono (by decide)) (pa_cons (pe_dget hu1 (pv 1) (pv 3) (fun _ _ => rfl)) pa_nil)))) rfl)
    (pss_one (ps_fld (pv 0) (pv 2) rfl)))), ?_⟩
  obtain ⟨p, dx, t, b, tabs, top, rfl, hp, ⟨ob, hlb⟩, npb, hta, hok, htop, hq⟩ := h
  refine ⟨_, rfl, _, rfl, t, b, tabs, top, rfl, hta, hok, htop, fun H1 e1 => ?_⟩
  have hta1 := hta.dt (KeepDT.of (b := b) (H' := H1) fun a o _ h => e1 _ _ h)
  obtain ⟨kvs, ntb, ht1, heach, _⟩ := hta1
  obtain ⟨hnd, hl1, hl6, hx⟩ := hok
  have hkeys : kvs.map (·.1) = (tabs.map (·.1)).map Sum.inl := by
    rw [List.map_map]
    exact each_map (fun a c h => h.1) heach
  refine ⟨_, rfl, t, kvs, tabs.map (·.1), rfl, Rd.of ht1, hkeys, by rw [List.length_map]; omega, fun ys p2 hperm hpw hp2 => ⟨p2, rfl, ⟨_, SqL.of upd_same⟩, fun D hD => ?_⟩⟩
  have x2 : Ex H1 (upd H1 p2 (.lst (ys.map V.int))) := Ex.new hp2
  have hy2 : (upd H1 p2 (.lst (ys.map V.int))) p2 = some (.lst (ys.map V.int)) := upd_same
  generalize upd H1 p2 (.lst (ys.map V.int)) = H2 at *
  have hyn : ys.Nodup := hperm.symm.nodup hnd
  have hyl : ys.length ≤ 6 := by rw [hperm.length_eq, List.length_map]; exact hl6
  have x12 : Ex H H2 := e1.trans x2
  have nDb : D ≠ b := fun x => by rw [x, x12 _ _ hlb] at hD; cases hD
  refine dc_it (walk_list (xs := ys.map V.int)) (fun i H' => Ex H2 H' ∧ ∃ L : List (Int × Addr × List (Str × Tg)), H' D = some (.dK (L.map fun l => ((Sum.inl l.1 : Key), V.ref l.2.1))) ∧ L.map (·.1) = ys.take i ∧ (L.map (·.2.1)).Nodup ∧ ∀ l ∈ L, RowA b H' l.2.1 l.2.2 ∧ l.2.1 ≠ D ∧ ∃ y ∈ tabs, y.1 = l.1 ∧ SrtR y.2 l.2.2)
    ⟨Ex.new hD, [], upd_same, rfl, .nil, fun _ h => nomatch h⟩ (fun i H' _ h => SqL.of (h.1 _ _ hy2)) ?_ ?_
  · rintro i x H3' H3 hi ⟨e3, L, hd, hL, hLn, hLr⟩ ⟨rfl, hxi⟩
    rw [List.getElem?_map] at hxi
    obtain ⟨j, hj, rfl⟩ := Option.map_eq_some_iff.mp hxi
    have hjm : j ∈ tabs.map (·.1) := hperm.mem_iff.mp (List.mem_of_getElem? hj)
    obtain ⟨v, hv, hm⟩ := keys_val hkeys hjm
    obtain ⟨y, hy, hy1, e, rfl, net, hrow⟩ := each_mem heach _ hm
    have ht3 := e3 _ _ (x2 _ _ ht1)
    have dg := DGet.k (k := .inl j) ht3
    rw [hv] at dg
    have hrow3 := hrow.dt (KeepDT.of (b := b) (H' := H3) fun a o _ h => e3 _ _ (x2 _ _ h))
    refine ⟨wipe_set, ?_⟩
    refine ⟨_, rfl, _, rfl, _, rfl, t, _, rfl, dg, e, b, y.2, rfl, hrow3, (hx y hy).2.1, (hx y hy).2.2.1, fun H4 p4 s4 e4 np4 hrow4 hs4 => ?_⟩
    have np4b : p4 ≠ b := fun z => by rw [z, e3 _ _ (x12 _ _ hlb)] at np4; cases np4
    have np4D : p4 ≠ D := fun z => by rw [z, hd] at np4; cases np4
    have hd4 := e4 _ _ hd
    have hLl : L.length ≤ 6 := by
      have := congrArg List.length hL
      rw [List.length_map, List.length_take] at this; omega
    have hnew : valV (L.map fun l => ((Sum.inl l.1 : Key), V.ref l.2.1)) (Sum.inl j) = none := by
      cases hv' : valV (L.map fun l => ((Sum.inl l.1 : Key), V.ref l.2.1)) (Sum.inl j) with
      | none => rfl
      | some u =>
        obtain ⟨l, hl, el⟩ := List.mem_map.mp (val_mem hv')
        have e1 : l.1 = j := Sum.inl.inj (congrArg Prod.fst el)
        have h1 : j ∈ ys.take i := by rw [← hL, ← e1]; exact List.mem_map.mpr ⟨l, hl, rfl⟩
        exact absurd h1 (not_mem_take hyn hj)
    refine ⟨_, .inl j, rfl, hd4, Evl.sz_lt (by rw [List.length_map]; omega), Ex.mut (e3.trans e4) hD, L ++ [(j, p4, s4)], ?_, ?_, ?_, fun l hl => ?_⟩
    · rw [upd_same, putK_new _ hnew, List.map_append]; rfl
    · rw [List.map_append, hL, List.take_add_one, hj]; rfl
    · rw [List.map_append, List.nodup_append]
      refine ⟨hLn, by simp, fun a ha b' hb' => ?_⟩
      obtain ⟨l, hl, rfl⟩ := List.mem_map.mp ha
      rw [List.map_cons, List.map_nil, List.mem_singleton] at hb'
      rw [hb']
      intro z
      obtain ⟨⟨_, _, h, _⟩, _⟩ := hLr l hl
      have z' : l.2.1 = p4 := z
      rw [z', np4] at h; cases h
    · rcases List.mem_append.mp hl with hl | hl
      · obtain ⟨a1, a2, a3⟩ := hLr l hl
        exact ⟨(a1.dt (KeepDT.of fun a o _ h => e4 _ _ h)).put a2 hd4, a2, a3⟩
      · rw [List.mem_singleton.mp hl]
        exact ⟨(hrow4 np4b).put np4D hd4, np4D, y, hy, Sum.inl.inj hy1.symm, hs4⟩
  · rintro H3 ⟨e3, L, hd, hL, hLn, hLr⟩
    rw [List.length_map, List.take_length] at hL
    have hp3 := e3 _ _ (x12 _ _ hp)
    have npD : p ≠ D := fun z => by rw [z, hd] at hp3; cases hp3
    refine ⟨_, rfl, p, C, dx, [], rfl, hp3, R.cl, R.nR, by show 0 < 1000; decide, ?_⟩
    refine ⟨_, rfl, _, rfl, p, C, dx, _, rfl, upd_same, R.cl, R.nP, by show 1 < 1000; decide, ?_⟩
    have hput : putF "peak" (V.int top) (putF "rows" (V.ref D) []) = layFs D top := by
      show putF "peak" (V.int top) [("rows", V.ref D)] = _
      simp only [putF]; rw [if_neg (by decide +kernel)]; rfl
    rw [hput]
    have k1 : KeepDT b H3 (upd (upd H3 p (.ins C dx (putF "rows" (V.ref D) []))) p (.ins C dx (layFs D top))) := (KeepDT.ins hp3).trans (KeepDT.ins upd_same)
    have htab : TabA b H3 D (L.map fun l => (l.1, l.2.2)) := by
      refine ⟨_, nDb, hd, ?_, ?_⟩
      · have : L.map (fun l => ((Sum.inl l.1 : Key), V.ref l.2.1)) = L.map (fun l => ((Sum.inl l.1 : Key), V.ref l.2.1)) := rfl
        exact each_maps fun l hl => ⟨rfl, l.2.1, rfl, (hLr l hl).2.1, (hLr l hl).1⟩
      · rw [List.map_map]
        have : L.map ((fun kv : Key × V => kv.2) ∘ fun l => ((Sum.inl l.1 : Key), V.ref l.2.1)) = (L.map (·.2.1)).map V.ref := by rw [List.map_map]; rfl
        rw [this]
        exact nodup_map_ref hLn
    have hfst : (L.map fun l => (l.1, l.2.2)).map (·.1) = ys := by rw [List.map_map]; exact hL
    refine hq _ D _ (keep_put (keep_put (Same.keep fun a o h => e3 _ _ (x12 _ _ h)))) (Evl.fresh_back x12 hD) ⟨by rw [hfst]; exact hperm, by rw [hfst]; exact hpw, fun x hx' => ?_⟩ (htab.dt k1) upd_same
    obtain ⟨l, hl, rfl⟩ := List.mem_map.mp hx'
    exact (hLr l hl).2.2
end
end KD

set_option Elab.async false
set_option linter.all false
set_option maxRecDepth 100000
set_option maxHeartbeats 4000000
namespace LF
open PySem PySem.Spec PyProof.Rows L2
/-- the least of some texts -/
def ltT (a b : Str) : Bool := PySem.W.dataLt (.str a) (.str b)
def minT (z : Str) (zs : List Str) : Str := zs.foldl (fun a y => if ltT y a = true then y else a) z
theorem minD_strs : ∀ (zs : List Str) (z : Str), PySem.W.minD (.str z) (zs.map .str) = .str (minT z zs)
  | [], _ => rfl
  | y :: zs, z => by
    show PySem.W.minD (if PySem.W.dataLt (.str y) (.str z) = true then .str y else .str z) (zs.map .str) = .str (minT (if ltT y z = true then y else z) zs)
    unfold ltT
    by_cases h : PySem.W.dataLt (.str y) (.str z) = true
    · rw [if_pos h, if_pos h]; exact minD_strs zs y
    · rw [if_neg h, if_neg h]; exact minD_strs zs z
def rMinS (K : PySem.W.Frag) : List V → Hp → VK → Prop := fun vs H Q => ∃ (a : Addr) (z : Str) (zs : List Str), vs = [.ref a] ∧ SqL K H a ((z :: zs).map V.str) ∧ Q (.str (minT z zs)) H
theorem dps : ∀ {K : PySem.W.Frag} {H : Hp} (l : List Str), DpAll K H (l.map V.str) (l.map .str)
  | _, _, [] => .nil
  | _, _, a :: l => .cons (.str a) (dps l)
theorem depths : ∀ xs : List Str, PyData.depthAll (xs.map .str) = 0
  | [] => by simp [PyData.depthAll]
  | x :: xs => by
    show PyData.depthAll (.str x :: xs.map .str) = 0
    rw [PyData.depthAll, depths xs]
    simp [PyData.depth]
theorem call_minS {X : Cx} (hc : X.calm = true) (hu : X.A.units + 64 < cLine) : CallR X (.builtin "min") (rMinS X.K) := by
  intro pins s σ H vs us Q I r h
  obtain ⟨a, z, zs, rfl, hs, q⟩ := h
  obtain ⟨its, rv, hl, hz⟩ := I.list hs
  rw [Vals.ref1 r]
  obtain ⟨as, ra⟩ := Dp.readsAll I ((z :: zs).map .str) _ _ (dps (z :: zs)) rv
  have hd := depths (z :: zs)
  refine PySem.W.min_list_data (x := .str z) (xs := zs.map .str) (I.ok.hd hc) hl.isList (by simpa using ra) ⟨fun x hx y hy => ?_, fun x hx => ?_⟩ ?_ (fun i v h' tk bs hv hr hk => ?_)
  · have hx' : x ∈ (z :: zs).map PyData.str := hx
    have hy' : y ∈ (z :: zs).map PyData.str := hy
    obtain ⟨x0, _, rfl⟩ := List.mem_map.mp hx'
    obtain ⟨y0, _, rfl⟩ := List.mem_map.mp hy'
    simp [PySem.W.alike]
  · have hx' : x ∈ (z :: zs).map PyData.str := hx
    obtain ⟨x0, _, rfl⟩ := List.mem_map.mp hx'
    simp
  · show X.A.units + 1 + PyData.depthAll ((z :: zs).map .str) < cLine
    rw [hd]; omega
  · rw [minD_strs] at hr
    cases hr
    exact ⟨.str _, H, I.kept hk, ⟨_, rfl⟩, q⟩
end LF

set_option Elab.async false
set_option linter.all false
set_option maxRecDepth 100000
set_option maxHeartbeats 8000000
namespace KD
open PySem PySem.Spec PyProof.Rows L2 LF
open Evl (Ev EvL EvU EvT EvA Ex sq_of st_of)
open PySem.W (EachIs)
/-! tables of any values -/
abbrev RowX := List (Str × Option PyData)
abbrev TabX := List (Key × Option RowX)
/-- no dict -/
def NotD (H : Hp) (v : V) : Prop := (∃ d, Dq H v d) ∨ ∃ a xs, v = .ref a ∧ H a = some (.lst xs)
def RwX (H : Hp) (v : V) : Option RowX → Prop
  | none => NotD H v
  | some r => ∃ e kvs, v = .ref e ∧ H e = some (.dK kvs) ∧ EachIs (fun kv (x : Str × Option PyData) => kv.1 = Sum.inr x.1 ∧ El H kv.2 x.2 ∧ kv.2 ≠ .ref e) kvs r
def TbX (H : Hp) (v : V) : Option TabX → Prop
  | none => NotD H v
  | some l => ∃ t kvs, v = .ref t ∧ H t = some (.dK kvs) ∧ EachIs (fun kv (x : Key × Option RowX) => kv.1 = x.1 ∧ RwX H kv.2 x.2 ∧ kv.2 ≠ .ref t) kvs l
theorem NotD.same {H H' : Hp} {v : V} (h : NotD H v) (s : Ex H H') : NotD H' v := by
  rcases h with ⟨d, h⟩ | ⟨a, xs, e, h⟩
  · exact Or.inl ⟨d, Dq.same s _ _ h⟩
  · exact Or.inr ⟨a, xs, e, s _ _ h⟩
theorem RwX.same {H H' : Hp} {v : V} {o : Option RowX} (h : RwX H v o) (s : Ex H H') : RwX H' v o := by
  cases o with
  | none => exact NotD.same h s
  | some r =>
    obtain ⟨e, kvs, e1, h1, h2⟩ := h
    exact ⟨e, kvs, e1, s _ _ h1, h2.mono fun kv x ⟨a, b, c⟩ => ⟨a, b.same s, c⟩⟩
theorem TbX.same {H H' : Hp} {v : V} {o : Option TabX} (h : TbX H v o) (s : Ex H H') : TbX H' v o := by
  cases o with
  | none => exact NotD.same h s
  | some l =>
    obtain ⟨t, kvs, e1, h1, h2⟩ := h
    exact ⟨t, kvs, e1, s _ _ h1, h2.mono fun kv x ⟨a, b, c⟩ => ⟨a, b.same s, c⟩⟩
theorem NotD.ty {K : PySem.W.Frag} {H : Hp} {v : V} (h : NotD H v) : ∃ t, TyX K H v (.type t) ∧ PySem.W.kitOne K (.type t) (.type "dict") = some false := by
  rcases h with ⟨d, h⟩ | ⟨a, xs, rfl, h⟩
  · refine ⟨_, h.ty, ?_⟩
    cases d with
    | none => exact (show PySem.W.kitOne K (.type "NoneType") (.type "dict") = some false from kit_ty (by decide +kernel))
    | bool b => exact (show PySem.W.kitOne K (.type "bool") (.type "dict") = some false from kit_ty (by decide +kernel))
    | int b => exact (show PySem.W.kitOne K (.type "int") (.type "dict") = some false from kit_ty (by decide +kernel))
    | str b => exact (show PySem.W.kitOne K (.type "str") (.type "dict") = some false from kit_ty (by decide +kernel))
    | list b => exact (show PySem.W.kitOne K (.type "list") (.type "dict") = some false from kit_ty (by decide +kernel))
    | tuple b => exact (show PySem.W.kitOne K (.type "tuple") (.type "dict") = some false from kit_ty (by decide +kernel))
    | dict b => cases h
  · exact ⟨"list", .base (.lst h), kit_ty (by decide +kernel)⟩
/-! what is well formed -/
def keyJ : Key → Bool
  | .inl i => decide (0 ≤ i)
  | .inr _ => false
def okT (z : Str) : Prop := z.length ≤ 1000 ∧ PyData.strOk z = true
def okK : Key → Prop
  | .inl i => -1000 < i ∧ i < 1000
  | .inr z => okT z
def RowW (r : RowX) : Prop := (r.map (·.1)).Nodup ∧ r.length ≤ 14 ∧ ∀ y ∈ r, okT y.1
def TabW' (l : TabX) : Prop := (l.map (·.1)).Nodup ∧ l.length ≤ 14 ∧ (∀ x ∈ l, okK x.1) ∧ ∀ x ∈ l, ∀ r, x.2 = some r → RowW r
def hasK (js : List Key) (i : Int) : Bool := js.any fun k => decide (k = .inl i)
theorem hasK_mem {js : List Key} {i : Int} : hasK js i = true ↔ (Sum.inl i : Key) ∈ js := by
  unfold hasK
  rw [List.any_eq_true]
  exact ⟨fun ⟨k, h, e⟩ => by rw [← of_decide_eq_true e]; exact h, fun h => ⟨_, h, decide_eq_true rfl⟩⟩
theorem has_val {kvs : List (Key × V)} {i : Int} : (valV kvs (.inl i)).isSome = hasK (kvs.map (·.1)) i := by
  unfold valV hasK
  rw [Option.isSome_map]
  induction kvs with
  | nil => rfl
  | cons p r ih =>
    rw [List.map_cons, List.any_cons]
    by_cases h : p.1 = Sum.inl i
    · rw [List.find?_cons_of_pos (by simpa using h), decide_eq_true h]; rfl
    · rw [List.find?_cons_of_neg (by simpa using h), decide_eq_false h, ih, Bool.false_or]
def tgX (js : List Key) : Option PyData → Bool
  | none => false
  | some d => plD d || (jtD d && hasK js (num d))
def nmX (r : RowX) : Bool := r.all fun y => isNm y.1
def rowG (js : List Key) : Option RowX → Bool
  | none => false
  | some r => nmX r && r.all fun y => tgX js y.2
def RowDue (js : List Key) : Option RowX → Option Str → Prop
  | none, n => n = none
  | some r, n => (nmX r = false ∧ n = none) ∨ (nmX r = true ∧ ∃ z, n = some z ∧ (∃ y ∈ r, y.1 = z ∧ tgX js y.2 = false) ∧ ∀ y ∈ r, tgX js y.2 = false → leS z y.1)
def bad (hd : PyData) : Option TabX → Bool
  | none => true
  | some l => !(l.all fun x => keyJ x.1) || !(jtD hd && hasK (l.map (·.1)) (num hd))
abbrev Vd := Option (Option Int × Option Str)
def Due (hd : PyData) (o : Option TabX) (r : Vd) : Prop := (bad hd o = true ∧ r = some (none, none)) ∨ (bad hd o = false ∧ ∃ l, o = some l ∧
  ((r = none ∧ ∀ x ∈ l, rowG (l.map (·.1)) x.2 = true) ∨ ∃ j row n, ((Sum.inl j : Key), row) ∈ l ∧ r = some (some j, n) ∧ RowDue (l.map (·.1)) row n ∧ rowG (l.map (·.1)) row = false ∧ ∀ x ∈ l, ∀ i, x.1 = Sum.inl i → i < j → rowG (l.map (·.1)) x.2 = true))
theorem leS_one {a b : Str} (h1 : leS a b) (h2 : leS b a) : a = b := PySem.W.str_of_cps (List.le_antisymm h1 h2)
theorem rowDue_one {js : List Key} {row : Option RowX} {n m : Option Str} (h1 : RowDue js row n) (h2 : RowDue js row m) : n = m := by
  cases row with
  | none => exact h1.trans h2.symm
  | some r =>
    rcases h1 with ⟨a, h1⟩ | ⟨a, z, h1, ⟨y, hy, ey, ty⟩, l1⟩
    · rcases h2 with ⟨_, h2⟩ | ⟨b, _⟩
      · rw [h1, h2]
      · rw [a] at b; cases b
    · rcases h2 with ⟨b, h2⟩ | ⟨_, z2, h2, ⟨y2, hy2, ey2, ty2⟩, l2⟩
      · rw [a] at b; cases b
      · have : z = z2 := leS_one (by rw [← ey2]; exact l1 y2 hy2 ty2) (by rw [← ey]; exact l2 y hy ty)
        rw [h1, h2, this]
theorem mem_one {l : TabX} (hn : (l.map (·.1)).Nodup) {k : Key} {a b : Option RowX} (h1 : (k, a) ∈ l) (h2 : (k, b) ∈ l) : a = b := by
  induction l with
  | nil => exact nomatch h1
  | cons p l ih =>
    rw [List.map_cons, List.nodup_cons] at hn
    rcases List.mem_cons.mp h1 with e1 | h1
    · rcases List.mem_cons.mp h2 with e2 | h2
      · exact (Prod.ext_iff.mp (e1.trans e2.symm)).2
      · exact absurd (List.mem_map.mpr ⟨_, h2, by rw [← e1]⟩) hn.1
    · rcases List.mem_cons.mp h2 with e2 | h2
      · exact absurd (List.mem_map.mpr ⟨_, h1, by rw [← e2]⟩) hn.1
      · exact ih hn.2 h1 h2
theorem due_one {hd : PyData} {o : Option TabX} {r s : Vd} (hw : ∀ l, o = some l → (l.map (·.1)).Nodup) (h1 : Due hd o r) (h2 : Due hd o s) : r = s := by
  rcases h1 with ⟨a1, r1⟩ | ⟨a1, l, rfl, h1⟩
  · rcases h2 with ⟨_, r2⟩ | ⟨a2, _⟩
    · rw [r1, r2]
    · rw [a1] at a2; cases a2
  · rcases h2 with ⟨a2, _⟩ | ⟨_, l2, e2, h2⟩
    · rw [a1] at a2; cases a2
    cases e2
    rcases h1 with ⟨r1, g1⟩ | ⟨j, row, n, m1, r1, d1, f1, b1⟩
    · rcases h2 with ⟨r2, _⟩ | ⟨j2, row2, n2, m2, r2, d2, f2, b2⟩
      · rw [r1, r2]
      · rw [g1 _ m2] at f2; cases f2
    · rcases h2 with ⟨r2, g2⟩ | ⟨j2, row2, n2, m2, r2, d2, f2, b2⟩
      · rw [g2 _ m1] at f1; cases f1
      · rcases Int.lt_trichotomy j j2 with h | h | h
        · rw [b2 _ m1 j rfl h] at f1; cases f1
        · subst h
          have := mem_one (hw _ rfl) m1 m2
          subst this
          rw [r1, r2, rowDue_one d1 d2]
        · rw [b1 _ m2 j2 rfl h] at f2; cases f2
/-! the least of some texts -/
theorem ltT_iff (a b : Str) : ltT a b = decide (a.cps.toList < b.cps.toList) := by
  exact PySem.W.dataLt_str a b
theorem minT_min : ∀ (zs : List Str) (z : Str), minT z zs ∈ z :: zs ∧ ∀ y ∈ z :: zs, leS (minT z zs) y
  | [], z => ⟨List.mem_cons_self, fun y hy => by rw [List.mem_singleton.mp hy]; exact List.le_refl _⟩
  | x :: zs, z => by
    have e : minT z (x :: zs) = minT (if ltT x z = true then x else z) zs := rfl
    rw [e]
    obtain ⟨h1, h2⟩ := minT_min zs (if ltT x z = true then x else z)
    by_cases hx : ltT x z = true
    · rw [if_pos hx] at h1 h2 ⊢
      refine ⟨List.mem_cons_of_mem _ h1, fun y hy => ?_⟩
      rcases List.mem_cons.mp hy with rfl | hy
      · rw [ltT_iff, decide_eq_true_eq] at hx
        exact List.le_trans (h2 x List.mem_cons_self) (List.le_of_lt hx)
      · exact h2 y hy
    · rw [if_neg hx] at h1 h2 ⊢
      refine ⟨?_, fun y hy => ?_⟩
      · rcases List.mem_cons.mp h1 with h1 | h1
        · rw [h1]; exact List.mem_cons_self
        · exact List.mem_cons_of_mem _ (List.mem_cons_of_mem _ h1)
      · rcases List.mem_cons.mp hy with rfl | hy
        · exact h2 y List.mem_cons_self
        · rcases List.mem_cons.mp hy with rfl | hy
          · rw [ltT_iff, decide_eq_true_eq] at hx
            exact List.le_trans (h2 z List.mem_cons_self) (List.not_lt.mp hx)
          · exact h2 y (List.mem_cons_of_mem _ hy)
end KD

set_option Elab.async false
set_option linter.all false
set_option maxRecDepth 100000
set_option maxHeartbeats 16000000
namespace LF
open PySem PySem.Spec PyProof.Rows L2
open Evl (Ev EvL EvU EvT EvA Ex sq_of st_of)
mutual
theorem Dq.lt {H H' : Hp} (kl : ∀ a xs, H a = some (.lst xs) → H' a = some (.lst xs)) (kt : ∀ a xs, H a = some (.tup xs) → H' a = some (.tup xs)) : ∀ (d : PyData) (v : V), Dq H v d → Dq H' v d
  | .none, _, h => by cases h; exact .non
  | .bool _, _, h => by cases h; exact .bl _
  | .int _, _, h => by cases h; exact .int _
  | .str _, _, h => by cases h with | str _ h1 h2 => exact .str _ h1 h2
  | .list ds, _, h => by cases h with | lst h1 h2 h3 => exact .lst (kl _ _ h1) (DqAll.lt kl kt ds _ h2) h3
  | .tuple ds, _, h => by cases h with | tup h1 h2 h3 => exact .tup (kt _ _ h1) (DqAll.lt kl kt ds _ h2) h3
  | .dict _, _, h => by cases h
theorem DqAll.lt {H H' : Hp} (kl : ∀ a xs, H a = some (.lst xs) → H' a = some (.lst xs)) (kt : ∀ a xs, H a = some (.tup xs) → H' a = some (.tup xs)) : ∀ (ds : List PyData) (vs : List V), DqAll H vs ds → DqAll H' vs ds
  | [], _, h => by cases h; exact .nil
  | d :: ds, _, h => by cases h with | cons h1 h2 => exact .cons (Dq.lt kl kt d _ h1) (DqAll.lt kl kt ds _ h2)
end
theorem El.but {H H' : Hp} {v : V} {o : Option PyData} {e : Addr} {u : List (Key × V)} (h : El H v o) (he : H e = some (.dK u)) (ne : v ≠ .ref e) (k : ∀ a o, a ≠ e → H a = some o → H' a = some o) : El H' v o := by
  cases o with
  | some d => exact Dq.lt (fun a xs h => k _ _ (fun z => by rw [z, he] at h; cases h) h) (fun a xs h => k _ _ (fun z => by rw [z, he] at h; cases h) h) _ _ h
  | none =>
    obtain ⟨a, rfl, h⟩ := h
    have na : a ≠ e := fun z => ne (by rw [z])
    rcases h with ⟨xs, h⟩ | ⟨xs, h⟩
    · exact ⟨a, rfl, Or.inl ⟨xs, k _ _ na h⟩⟩
    · exact ⟨a, rfl, Or.inr ⟨xs, k _ _ na h⟩⟩
theorem Opq.tyI {K : PySem.W.Frag} {H : Hp} {x : V} (h : Opq H x) : ∃ t, TyX K H x (.type t) ∧ PySem.W.kitOne K (.type t) (.type "int") = some false := by
  obtain ⟨a, rfl, h⟩ := h
  rcases h with ⟨xs, h⟩ | ⟨xs, h⟩
  · exact ⟨"list", .base (.lst h), kit_ty (by decide +kernel)⟩
  · exact ⟨"dict", .base (.dK h), kit_ty (by decide +kernel)⟩
section
variable {K : PySem.W.Frag} {σ : L2.St} {H : Hp} {tt : TT} {tz : TS} {D : Ends} {i j w : Nat} {d : Addr} {kvs : List (Key × V)}
/-- w = [k for k in d if ..] -/
theorem sq_lockFilt (hi : σ[i]? = some (some (.ref d))) (hw : ∀ x, ((wipe σ [j]).set j (some x))[j]? = some (some x)) (hd : H d = some (.dK kvs)) (hz : kvs.length ≤ 1000) (g : Key → Bool) (ht : ∀ k ∈ kvs.map (·.1), ∀ od H1, Ex (upd H d (.frz od (.dK kvs))) H1 → EvT tt ((wipe σ [j]).set j (some (kV k))) H1 (g k))
    (k : ∀ p H1, Ex H H1 → H1 p = some (.lst (((kvs.map (·.1)).filter g).map kV)) → tz D (σ.set w (some (.ref p))) H1) : tSeq (tLock (tAsg (tLc (iKeys (tVar i)) (gName j) tt (tVar j) [j]) (gName w))) tz D σ H := by
  refine ⟨d, .dK kvs, hd, trivial, fun od => ?_⟩
  refine ⟨_, hi, d, od, rfl, Or.inl ⟨kvs, upd_same, fun Dl hD => ?_⟩⟩
  have nd : Dl ≠ d := fun x => by rw [x, upd_same] at hD; cases hD
  refine lc_it walk_keys (fun n H' => Ex (upd H d (.frz od (.dK kvs))) H' ∧ H' Dl = some (.lst ((((kvs.map (·.1)).take n).filter g).map kV))) ⟨Ex.new hD, upd_same⟩ (fun n H' _ h => h.1 _ _ upd_same) ?_ ?_
  · rintro n x H3' H3 hn ⟨e3, hl⟩ ⟨rfl, kk, v, hk, rfl⟩
    refine ⟨wipe_set, ?_⟩
    have hk' : (kvs.map (·.1))[n]? = some kk := by rw [List.getElem?_map, hk]; rfl
    have hlen : ((((kvs.map (·.1)).take n).filter g).map kV).length ≤ 1000 := by
      rw [List.length_map]
      have h1 := List.length_filter_le g ((kvs.map (·.1)).take n)
      rw [List.length_take, List.length_map] at h1; omega
    refine ht kk (List.mem_of_getElem? hk') od H3 e3 H3 (Ex.refl H3) _ fun H4 e4 => ?_
    cases hg : g kk with
    | true =>
      refine iteT ⟨_, hw _, _, e4 _ _ hl, Evl.sz_lt (by omega), Ex.mut (e3.trans e4) hD, ?_⟩
      rw [upd_same, List.take_add_one, hk', List.filter_append, List.map_append]
      show some (HO.lst (_ ++ [kV kk])) = some (HO.lst (_ ++ ([kk].filter g).map kV))
      rw [List.filter_cons_of_pos hg]; rfl
    | false =>
      refine iteF ⟨e3.trans e4, ?_⟩
      rw [List.take_add_one, hk', List.filter_append]
      show H4 Dl = some (HO.lst ((_ ++ [kk].filter g).map kV))
      rw [List.filter_cons_of_neg (by rw [hg]; decide), List.filter_nil, List.append_nil]
      exact e4 _ _ hl
  · rintro H3 ⟨e3, hl⟩
    rw [List.take_of_length_le (by rw [List.length_map]; exact Nat.le_refl _)] at hl
    exact ⟨e3 _ _ upd_same, k Dl _ (ex_unlock hd e3) (by rw [upd_ne nd]; exact hl)⟩
end
end LF
namespace KD
open PySem PySem.Spec PyProof.Rows L2 LF
open Evl (Ev EvL EvU EvT EvA Ex sq_of st_of)
open PySem.W (EachIs)
open PySem.OEX
def jV : Option Int → V
  | none => .non
  | some i => .int i
def nV : Option Str → V
  | none => .non
  | some z => .str z
def spTgX : Sp := fun vs H Q _ => ∃ (t : Addr) (v : V) (o : Option PyData) (kvs : List (Key × V)), vs = [.ref t, v] ∧ H t = some (.dK kvs) ∧ El H v o ∧ ∀ H', Ex H H' → Q (.bl (tgX (kvs.map (·.1)) o)) H'
def spCheckX (C : Addr) : Sp := fun vs H Q E => ∃ (tv hv : V) (o : Option TabX) (hd : PyData), vs = [tv, hv] ∧ TbX H tv o ∧ (∀ l, o = some l → TabW' l) ∧ Dq H hv hd ∧ (Due hd o none → ∀ H', Ex H H' → Q .non H') ∧ ∀ j n, Due hd o (some (j, n)) → ∀ d H', Ex H H' → H' d = some (.xd (blFs (jV j) (nV n))) → E (.ref C) (some d) H'
def keyP : Key → PyData
  | .inl i => .int i
  | .inr z => .str z
theorem key_dq {H : Hp} {k : Key} (h : okK k) : Dq H (kV k) (keyP k) := by
  cases k with
  | inl i => exact .int i
  | inr z => exact .str z h.1 h.2
theorem key_jt (k : Key) : jtD (keyP k) = keyJ k := by
  cases k with
  | inl i =>
    show jtD (.int i) = decide (0 ≤ i)
    unfold jtD intD
    simp [isNum, isBol]
    exact Iff.rfl
  | inr z => rfl
theorem key_nm (z : Str) : nmD (keyP (.inr z)) = isNm z := rfl
theorem keys_int : ∀ {ks : List Key}, ks.all keyJ = true → ∃ js : List Int, ks = js.map Sum.inl
  | [], _ => ⟨[], rfl⟩
  | k :: ks, h => by
    rw [List.all_cons, Bool.and_eq_true] at h
    obtain ⟨js, e⟩ := keys_int h.2
    cases k with
    | inl i => exact ⟨i :: js, by rw [e]; rfl⟩
    | inr z => exact nomatch (show false = true from h.1)
theorem below_take {ys : List Int} {i : Nat} {j a : Int} (hs : ys.Pairwise (· ≤ ·)) (hj : ys[i]? = some j) (ha : a ∈ ys) (h : a < j) : a ∈ ys.take i := by
  obtain ⟨k, hk⟩ := List.mem_iff_getElem?.mp ha
  rcases Nat.lt_or_ge k i with hki | hki
  · exact List.mem_iff_getElem?.mpr ⟨k, by rw [List.getElem?_take_of_lt hki]; exact hk⟩
  · exfalso
    have hk1 : k < ys.length := by
      rcases Nat.lt_or_ge k ys.length with h | h
      · exact h
      · rw [List.getElem?_eq_none h] at hk; cases hk
    have e1 : ys[k] = a := by rw [List.getElem?_eq_getElem hk1] at hk; exact Option.some.inj hk
    have hi1 : i < ys.length := by omega
    have e2 : ys[i] = j := by rw [List.getElem?_eq_getElem hi1] at hj; exact Option.some.inj hj
    rcases Nat.eq_or_lt_of_le hki with e | hlt
    · subst e; rw [e1] at e2; omega
    · have := List.pairwise_iff_getElem.mp hs i k hi1 hk1 hlt
      rw [e1, e2] at this; omega
/-- the targets of a row that are none, by the names -/
def gR (js : List Key) (r : RowX) : Key → Bool
  | .inl _ => false
  | .inr z => ((r.find? fun y => decide (y.1 = z)).map fun y => !tgX js y.2).getD false
theorem gR_of {js : List Key} {r : RowX} (hn : (r.map (·.1)).Nodup) {y : Str × Option PyData} (hy : y ∈ r) : gR js r (.inr y.1) = !tgX js y.2 := by
  unfold gR
  induction r with
  | nil => exact nomatch hy
  | cons p r ih =>
    rw [List.map_cons, List.nodup_cons] at hn
    rcases List.mem_cons.mp hy with e | hy
    · subst e; simp
    · have hne : ¬ p.1 = y.1 := fun e => hn.1 (by rw [e]; exact List.mem_map.mpr ⟨y, hy, rfl⟩)
      show ((List.find? (fun y_1 => decide (y_1.1 = y.1)) (p :: r)).map fun y => !tgX js y.2).getD false = _
      rw [List.find?_cons_of_neg (by simpa using hne)]
      exact ih hn.2 hy
theorem gR_filter {js : List Key} {r : RowX} (hn : (r.map (·.1)).Nodup) : (((r.map (·.1)).map Sum.inr).filter (gR js r)).map kV = ((r.filter fun y => !tgX js y.2).map (·.1)).map V.str := by
  have : ∀ q : RowX, (∀ y ∈ q, y ∈ r) → (((q.map (·.1)).map Sum.inr).filter (gR js r)).map kV = ((q.filter fun y => !tgX js y.2).map (·.1)).map V.str := by
    intro q
    induction q with
    | nil => intro _; rfl
    | cons p q ih =>
      intro h
      have hp := gR_of (js := js) hn (h p List.mem_cons_self)
      have hq := ih fun y hy => h y (List.mem_cons_of_mem _ hy)
      rw [List.map_cons, List.map_cons, List.filter_cons, List.filter_cons, hp]
      cases (!tgX js p.2) with
      | true => rw [if_pos rfl, if_pos rfl, List.map_cons, List.map_cons, List.map_cons, hq]; rfl
      | false => rw [if_neg Bool.false_ne_true, if_neg Bool.false_ne_true, hq]
  exact this r fun _ h => h
section
variable {P : Program} {w : World} {K : PySem.W.Frag} {mg : Str → Option Value} {base : Heap} {tk1 tk2 : Tok}
theorem ok_integerE {f : Addr} {fd : FuncData} (F : Fun K "is_integer" "is_integer" s_is_integer f fd) (T : Txt K mg tk1 tk2) : FnOk P w K mg base CX0 1 f fd ["thing"] (spE intD) := by
  refine FnOk.or (ok_is_integer F T) ?_
  refine F.ok sc_is_integer (fun vs H Q E h => ?_) (fun cdv A outer s H vs Q E hr h => ?_)
  · obtain ⟨x, rfl, _⟩ := h
    rfl
  refine ⟨_, (pss_one (ps_ret (pe_and (pe_callB call_isi (by rfl) T.n_isinstance (by decide +kernel) (pa_cons (pv 0) (pa_cons (pe_bltn (v := .ty "int") (by rfl) T.n_int (by decide +kernel) rfl) pa_nil))) (pe_one (pe_not (pe_callB call_isi (by rfl) T.n_isinstance (by decide +kernel) (pa_cons (pv 0) (pa_cons (pe_bltn (v := .ty "bool") (by rfl) T.n_bool (by decide +kernel) rfl) pa_nil)))))))), ?_⟩
  obtain ⟨x, rfl, ho, hq⟩ := h
  obtain ⟨t, ht, hk⟩ := ho.tyI (K := K)
  exact ⟨_, rfl, x, .ty "int", _, _, false, rfl, .ty _, ht, hk, _, rfl, iteF (hq H (Ex.refl H))⟩
theorem ok_jointE {f f1 : Addr} {fd fd1 : FuncData} (F : Fun K "is_joint" "is_joint" s_is_joint f fd) (T : Txt K mg tk1 tk2) (d_is_integer : DefAt P w K mg base "is_integer" 1 f1 fd1 ["thing"] (spE intD)) : FnOk P w K mg base CX0 2 f fd ["thing"] (spE jtD) := by
  refine FnOk.or (ok_is_joint F T ⟨d_is_integer.F.imp fun vs H Q E h => Or.inl h, d_is_integer.g, d_is_integer.kp, d_is_integer.b⟩) ?_
  refine F.ok sc_is_joint (fun vs H Q E h => ?_) (fun cdv A outer s H vs Q E hr h => ?_)
  · obtain ⟨x, rfl, _⟩ := h
    rfl
  refine ⟨_, (pss_one (ps_ret (pe_and (pe_callD d_is_integer (hr.mono (by decide)) (pa_cons (pv 0) pa_nil)) (pe_one (pe_cmpR op_ge (pv 0) pe_int (nomark _)))))), ?_⟩
  obtain ⟨x, rfl, ho, hq⟩ := h
  exact ⟨_, rfl, Or.inr ⟨x, rfl, ho, fun H' e => ⟨_, rfl, iteF (hq H' e)⟩⟩⟩
theorem ok_placeE {f f1 f2 : Addr} {fd fd1 fd2 : FuncData} (F : Fun K "is_place_in_package" "is_place_in_package" s_is_place_in_package f fd) (T : Txt K mg tk1 tk2) (d_is_name : DefAt P w K mg base "is_name" 1 f1 fd1 ["thing"] (spD nmD)) (d_is_path : DefAt P w K mg base "is_path" 2 f2 fd2 ["thing"] (spD ptD)) :
    FnOk P w K mg base CX0 3 f fd ["thing"] (spE plD) := by
  refine FnOk.or (ok_is_place_in_package F T d_is_name d_is_path) ?_
  refine F.ok sc_is_place_in_package (fun vs H Q E h => ?_) (fun cdv A outer s H vs Q E hr h => ?_)
  · obtain ⟨x, rfl, _⟩ := h
    rfl
  refine ⟨_, (pss_one (ps_ret (pe_and (pe_callB call_isi (by rfl) T.n_isinstance (by decide +kernel) (pa_cons (pv 0) (pa_cons (pe_bltn (v := .ty "tuple") (by rfl) T.n_tuple (by decide +kernel) rfl) pa_nil))) (pe_and (pe_cmpR op_eq (pe_callB call_len_seq (by rfl) T.n_len (by decide +kernel) (pa_cons (pv 0) pa_nil)) pe_int (nomark _)) (pe_and (pe_callD d_is_name (hr.mono (by decide)) (pa_cons (pe_ix ix_tup (pv 0) pe_int (fun _ _ => rfl)) pa_nil)) (pe_one (pe_callD d_is_path (hr.mono (by decide)) (pa_cons (pe_ix ix_tup (pv 0) pe_int (fun _ _ => rfl)) pa_nil)))))))), ?_⟩
  obtain ⟨x, rfl, ho, hq⟩ := h
  obtain ⟨t, ht, hk⟩ := ho.ty (K := K)
  exact ⟨_, rfl, x, .ty "tuple", _, _, false, rfl, .ty _, ht, hk, _, rfl, iteF (hq H (Ex.refl H))⟩
theorem ok_targetX {f f1 f2 : Addr} {fd fd1 fd2 : FuncData} (F : Fun K "is_target_in" "is_target_in" s_is_target_in f fd) (d_is_place_in_package : DefAt P w K mg base "is_place_in_package" 3 f1 fd1 ["thing"] (spE plD)) (d_is_joint : DefAt P w K mg base "is_joint" 2 f2 fd2 ["thing"] (spE jtD)) :
    FnOk P w K mg base CX0 4 f fd ["rows", "thing"] spTgX := by
  refine F.ok sc_is_target_in (fun vs H Q E h => ?_) (fun cdv A outer s H vs Q E hr h => ?_)
  · obtain ⟨t, v, o, kvs, rfl, _⟩ := h
    rfl
  have hu1 := hu_of hr
  refine ⟨_, (pss_one (ps_ret (pe_or (pe_callD d_is_place_in_package (hr.mono (by decide)) (pa_cons (pv 1) pa_nil)) (pe_one (pe_and (pe_callD d_is_joint (hr.mono (by decide)) (pa_cons (pv 1) pa_nil)) (pe_one (pe_cmp (pc_din hu1 (pv 1) (pv 0))))))))), ?_⟩
  obtain ⟨t, v, o, kvs, rfl, ht, ho, hq⟩ := h
  refine Evl.s_ret (v := .bl (tgX (kvs.map (·.1)) o)) ?_ hq
  have e : tgX (kvs.map (·.1)) o = (elG plD o || (elG jtD o && hasK (kvs.map (·.1)) (match o with | some d => num d | none => 0))) := by
    cases o <;> rfl
  rw [e]
  refine Evl.ev_orV (ev_callE (Evl.ev_var rfl) ho) fun _ => Evl.ev_andV (ev_callE (Evl.ev_var rfl) ho) fun h1 => fun H1 e1 Q q => ?_
  cases o with
  | none => cases h1
  | some d =>
    have hj : jtD d = true := h1
    unfold jtD at hj
    obtain ⟨h2, h3⟩ := intD_iff (Bool.and_eq_true_iff.mp hj).1
    obtain ⟨rfl, _⟩ := Dq.intE ho h2 h3
    refine ⟨_, rfl, _, rfl, t, _, rfl, DGet.k (k := .inl (num d)) (e1 _ _ ht), ?_⟩
    rw [has_val]
    exact q H1 (Ex.refl H1)
theorem ok_checkX {f f1 f2 f3 fB CB : Addr} {fd fd1 fd2 fd3 fdB : FuncData} (F : Fun K "check_tables" "check_tables" s_check_tables f fd) (T : Txt K mg tk1 tk2) (B : BlTxt P w K mg base CB fB fdB) (d_is_joint : DefAt P w K mg base "is_joint" 2 f1 fd1 ["thing"] (spD jtD)) (d_is_name : DefAt P w K mg base "is_name" 1 f2 fd2 ["thing"] (spD nmD)) (d_is_target_in : DefAt P w K mg base "is_target_in" 4 f3 fd3 ["rows", "thing"] spTgX) :
    FnOk P w K mg base (L2.CX P w) 5 f fd ["tables", "top"] (spCheckX CB) := by
  refine F.okX sc_check_tables (fun vs H Q E h => ?_) (fun cdv A outer s H vs Q E hr h => ?_)
  · obtain ⟨tv, hv, o, hd, rfl, _⟩ := h
    rfl
  have hu := hr.units
  have hu1 := hu_of hr
  refine ⟨_, (pss_cons (ps_if (PW.pt (pw_or (pt_not (pt_val (pe_callB call_isi (by rfl) T.n_isinstance (by decide +kernel) (pa_cons (pv 0) (pa_cons (pe_bltn (v := .ty "dict") (by rfl) T.n_dict (by decide +kernel) rfl) pa_nil))))) (pw_or1 (pt_not (pt_val (pe_callB (cr_all rfl) (by rfl) T.n_all (by decide +kernel) (pa_cons (pe_lock (pe_lc (own := [("joint", 2)]) rfl sc_check_tables.nd (pi_keys (pv 0)) (blkOk_by (N := N_check_tables) (sc := defScope s_check_tables) (by decide +kernel)) (fun _ _ _ _ _ => pg_name (i := 2) sc_check_tables.nd rfl (Or.inl rfl)) (fun _ _ _ _ _ => pts_nil) (fun _ _ _ _ _ => (pe_callD d_is_joint (hr.mono (by decide)) (pa_cons (pv 2) pa_nil))))) pa_nil))))))) (pss_one (ps_raise rfl (takes_of rfl rfl rfl rfl) (pmk_oex B.T B.iC B.tI B.F1 (hr.mono (by decide)) B.hb .nil pass0 rfl B.gC (by exact (pa_cons pe_non (pa_cons pe_non pa_nil)))))) pss_nil)
    (pss_cons (ps_if (PW.pt (pw_or (pt_not (pt_val (pe_callD d_is_joint (hr.mono (by decide)) (pa_cons (pv 1) pa_nil)))) (pw_or1 (pt_cmp (pc_dnotin hu1 (pv 1) (pv 0)))))) (pss_one (ps_raise rfl (takes_of rfl rfl rfl rfl) (pmk_oex B.T B.iC B.tI B.F1 (hr.mono (by decide)) B.hb .nil pass0 rfl B.gC (by exact (pa_cons pe_non (pa_cons pe_non pa_nil)))))) pss_nil)
    (pss_one (ps_for (passes_of rfl) rfl (pi_list (pe_callB (call_sortedDI rfl) (by rfl) T.n_sorted (by decide +kernel) (pa_cons (pv 0) pa_nil))) (pg_name (i := 2) sc_check_tables.nd rfl (Or.inl rfl)) (pss_cons (ps_set (i := 3) sc_check_tables.nd rfl (Or.inr rfl) (pe_dget hu1 (pv 0) (pv 2) (fun _ _ => rfl)))
    (pss_cons (ps_if (PW.pt (pw_or (pt_not (pt_val (pe_callB call_isi (by rfl) T.n_isinstance (by decide +kernel) (pa_cons (pv 3) (pa_cons (pe_bltn (v := .ty "dict") (by rfl) T.n_dict (by decide +kernel) rfl) pa_nil))))) (pw_or1 (pt_not (pt_val (pe_callB (cr_all rfl) (by rfl) T.n_all (by decide +kernel) (pa_cons (pe_lock (pe_lc (own := [("name", 4)]) rfl sc_check_tables.nd (pi_keys (pv 3)) (blkOk_by (N := N_check_tables) (sc := defScope s_check_tables) (by decide +kernel)) (fun _ _ _ _ _ => pg_name (i := 4) sc_check_tables.nd rfl (Or.inl rfl)) (fun _ _ _ _ _ => pts_nil) (fun _ _ _ _ _ => (pe_callD d_is_name (hr.mono (by decide)) (pa_cons (pv 4) pa_nil))))) pa_nil))))))) (pss_one (ps_raise rfl (takes_of rfl rfl rfl rfl) (pmk_oex B.T B.iC B.tI B.F1 (hr.mono (by decide)) B.hb .nil pass0 rfl B.gC (by exact (pa_cons (pv 2) (pa_cons pe_non pa_nil)))))) pss_nil)
    (pss_cons (ps_lock (ps_setLc (i := 5) (own := [("name", 4)]) rfl sc_check_tables.nd rfl rfl (sw_true rfl rfl rfl (by decide +kernel)) (pi_keys (pv 3)) (blkOk_by (N := N_check_tables) (sc := defScope s_check_tables) (by decide +kernel)) (fun _ _ _ _ _ => pg_name (i := 4) sc_check_tables.nd rfl (Or.inl rfl)) (fun _ _ _ _ _ => (pts_one (pt_not (pt_val (pe_callD d_is_target_in (hr.mono (by decide)) (pa_cons (pv 0) (pa_cons (pe_dget hu1 (pv 3) (pv 4) (fun _ _ => rfl)) pa_nil))))))) (fun _ _ _ _ _ => (pv 4))))
    (pss_one (ps_if (pt_cmpR op_gt (pe_callB call_len_seq (by rfl) T.n_len (by decide +kernel) (pa_cons (pv 5) pa_nil)) pe_int (nomark _)) (pss_one (ps_raise rfl (takes_of rfl rfl rfl rfl) (pmk_oex B.T B.iC B.tI B.F1 (hr.mono (by decide)) B.hb .nil pass0 rfl B.gC (by exact (pa_cons (pv 2) (pa_cons (pe_callB (call_minS rfl hu) (by rfl) T.n_min (by decide +kernel) (pa_cons (pv 5) pa_nil)) pa_nil)))))) pss_nil))))))))), ?_⟩
  obtain ⟨tv, hv, o, hd, rfl, htb, hw, hhd, hq, he⟩ := h
  have isd : ∀ {σ : L2.St} {i : Nat} {a : Addr} {H1 : Hp} {kv : List (Key × V)}, σ[i]? = some (some (.ref a)) → H1 a = some (.dK kv) → Ev (tCB (rIsi K) (tCons (tVar i) (tCons (tC (.ty "dict")) tNil))) σ H1 (.bl true) := fun hi ha =>
    Evl.ev_cb (vs := [.ref _, .ty "dict"]) (Evl.ea_cons (Evl.ev_var hi) (Evl.ea_cons Evl.ev_c Evl.ea_nil)) fun H1 e Q q => ⟨_, .ty "dict", _, _, true, rfl, .ty _, .base (.dK (e _ _ ha)), kit_ty (by decide +kernel), q H1 (Ex.refl H1)⟩
  cases o with
  | none =>
    obtain ⟨ty, hty, hk⟩ := NotD.ty (K := K) (show NotD H tv from htb)
    have hdue : Due hd none (some (none, none)) := Or.inl ⟨rfl, rfl⟩
    refine ⟨_, rfl, _, .ty "dict", _, _, false, rfl, .ty _, hty, hk, ?_⟩
    exact ⟨_, rfl, iteT (iteT ⟨by show 2 ≤ 1000; decide, raise_bl fun d H' e h => he none none hdue d H' e h⟩)⟩
  | some l =>
  obtain ⟨t, kvs, rfl, ht, heach⟩ := htb
  obtain ⟨hnd, hl14, hok, hrows⟩ := hw l rfl
  have hkeys : kvs.map (·.1) = l.map (·.1) := each_map (fun a c h => h.1) heach
  have hlen : kvs.length = l.length := heach.length
  have hall : (kvs.map (·.1)).all keyJ = l.all fun x => keyJ x.1 := by rw [hkeys, List.all_map]; rfl
  refine Evl.q_when (b := !(l.all fun x => keyJ x.1)) (Evl.et_is (Evl.et_or (a := false) (b := !(l.all fun x => keyJ x.1)) (Evl.et_is (Evl.et_not (Evl.et_B (isd rfl ht))) rfl) fun _ => Evl.et_is (Evl.et_not (Evl.et_B (ev_lockAll (K := K) (kvs := kvs) (tVar 0) (Evl.ev_var rfl) (fun _ _ _ => Evl.ev_var rfl) ht (by omega) keyJ fun k hk od H1 e1 => ?_))) (by rw [hall])) rfl) (fun hb H1 e1 => ?_) fun hb H1 e1 => ?_
  · rw [hkeys] at hk
    obtain ⟨x, hx, rfl⟩ := List.mem_map.mp hk
    exact Evl.ev_is (ev_callB1 (g := jtD) (evd_var rfl (key_dq (hok x hx)))) (by rw [key_jt])
  · exact ⟨by show 2 ≤ 1000; decide, raise_bl fun d H' e h => he none none (Or.inl ⟨by show (_ || _) = true; rw [hb]; rfl, rfl⟩) d H' (e1.trans e) h⟩
  have hj : (l.all fun x => keyJ x.1) = true := by simpa using hb
  have ht1 := e1 _ _ ht
  refine Evl.q_when (b := !(jtD hd && hasK (l.map (·.1)) (num hd))) (Evl.et_is (Evl.et_or (a := !jtD hd) (b := !hasK (l.map (·.1)) (num hd)) (Evl.et_not (Evl.et_B (ev_callB1 (g := jtD) (evd_var rfl (Dq.same e1 _ _ hhd))))) fun h1 => Evl.et_B fun H2 e2 Q q => ?_) (by cases jtD hd <;> simp)) (fun hb2 H2 e2 => ?_) fun hb2 H2 e2 => ?_
  · have hj : jtD hd = true := by simpa using h1
    unfold jtD at hj
    obtain ⟨h2, h3⟩ := intD_iff (Bool.and_eq_true_iff.mp hj).1
    obtain ⟨rfl, _⟩ := Dq.intE hhd h2 h3
    refine ⟨_, rfl, _, rfl, t, _, rfl, DGet.k (k := .inl (num hd)) (e2 _ _ ht1), ?_⟩
    have := q H2 (Ex.refl H2)
    rw [← hkeys, ← has_val] at this
    exact this
  · exact ⟨by show 2 ≤ 1000; decide, raise_bl fun d H' e h => he none none (Or.inl ⟨by show (_ || _) = true; rw [hj, hb2]; rfl, rfl⟩) d H' ((e1.trans e2).trans e) h⟩
  have hbad : bad hd (some l) = false := by
    show (_ || _) = false
    rw [hj, hb2]; rfl
  have x2 : Ex H H2 := e1.trans e2
  have ht2 := x2 _ _ ht
  obtain ⟨js, hjs⟩ := keys_int (ks := l.map (·.1)) (by rw [List.all_map]; exact hj)
  have hjn : js.Nodup := by
    rw [hjs] at hnd
    exact nodup_of_map hnd
  have hjl : js.length ≤ 14 := by
    have := congrArg List.length hjs
    rw [List.length_map, List.length_map] at this; omega
  refine ⟨_, rfl, t, kvs, js, rfl, Rd.of ht2, by rw [hkeys, hjs], by omega, fun ys p hperm hpw hp => ⟨p, rfl, ⟨_, SqL.of upd_same⟩, ?_⟩⟩
  have x3 : Ex H (upd H2 p (.lst (ys.map V.int))) := x2.trans (Ex.new hp)
  have hp3 : (upd H2 p (.lst (ys.map V.int))) p = some (.lst (ys.map V.int)) := upd_same
  generalize upd H2 p (.lst (ys.map V.int)) = H3 at *
  refine for_it (walk_list (xs := ys.map V.int)) (fun i σ' H' => ∃ v2 v3 v4 v5, σ' = [some (.ref t), some hv, v2, v3, v4, v5] ∧ Ex H3 H' ∧ ∀ x ∈ l, ∀ a, x.1 = Sum.inl a → a ∈ ys.take i → rowG (l.map (·.1)) x.2 = true) ⟨_, _, _, _, rfl, Ex.refl H3, fun x _ a _ h => nomatch h⟩ (fun i σ' H' _ ⟨_, _, _, _, _, e, _⟩ => SqL.of (e _ _ hp3)) ?_ ?_
  · rintro i x σ' H4' H4 hi ⟨v2, v3, v4, v5, rfl, e4, hgood⟩ ⟨rfl, hxi⟩
    rw [List.getElem?_map] at hxi
    obtain ⟨j, hji, rfl⟩ := Option.map_eq_some_iff.mp hxi
    have hjy := List.mem_of_getElem? hji
    have hjk : (Sum.inl j : Key) ∈ kvs.map (·.1) := by rw [hkeys, hjs]; exact List.mem_map.mpr ⟨j, hperm.mem_iff.mp hjy, rfl⟩
    obtain ⟨v, hvv, hm⟩ := val_some hjk
    obtain ⟨y, hy, hy1, hrw, hne⟩ := each_mem heach _ hm
    obtain ⟨yk, row⟩ := y
    cases (show Sum.inl j = yk from hy1)
    have x4 : Ex H H4 := x3.trans e4
    have ht4 := x4 _ _ ht
    have below : ∀ x ∈ l, ∀ a, x.1 = Sum.inl a → a < j → rowG (l.map (·.1)) x.2 = true := fun x hx a ea hlt => by
      refine hgood x hx a ea (below_take hpw hji (hperm.mem_iff.mpr ?_) hlt)
      have : (Sum.inl a : Key) ∈ js.map Sum.inl := by rw [← hjs, ← ea]; exact List.mem_map.mpr ⟨x, hx, rfl⟩
      obtain ⟨a', h1, h2⟩ := List.mem_map.mp this
      rw [← Sum.inl.inj h2]; exact h1
    have next : rowG (l.map (·.1)) row = true → ∀ x ∈ l, ∀ a, x.1 = Sum.inl a → a ∈ ys.take (i + 1) → rowG (l.map (·.1)) x.2 = true := fun hg x hx a ea hm => by
      rw [List.take_add_one, hji] at hm
      rcases List.mem_append.mp hm with hm | hm
      · exact hgood x hx a ea hm
      · have : a = j := by simpa using hm
        subst this
        obtain ⟨xk, xr⟩ := x
        cases (show xk = Sum.inl a from ea)
        rw [mem_one hnd hx hy]; exact hg
    have raise : ∀ n, RowDue (l.map (·.1)) row n → rowG (l.map (·.1)) row = false → Due hd (some l) (some (some j, n)) := fun n h1 h2 => Or.inr ⟨hbad, l, rfl, Or.inr ⟨j, row, n, hy, rfl, h1, h2, below⟩⟩
    refine Evl.q_asg (v := v) (fun H5 e5 Q q => ?_) fun H5 e5 => ?_
    · have dg := DGet.k (k := .inl j) (e5 _ _ ht4)
      rw [hvv] at dg
      exact ⟨_, rfl, _, rfl, t, _, rfl, dg, q H5 (Ex.refl H5)⟩
    have x5 : Ex H H5 := x4.trans e5
    cases row with
    | none =>
      obtain ⟨ty, hty, hk⟩ := NotD.ty (K := K) (show NotD H5 v from NotD.same hrw x5)
      refine ⟨_, rfl, _, .ty "dict", _, _, false, rfl, .ty _, hty, hk, ?_⟩
      refine ⟨_, rfl, iteT (iteT ?_)⟩
      exact ⟨_, rfl, by show 2 ≤ 1000; decide, raise_bl fun d H' e h => he (some j) none (raise none rfl rfl) d H' (x5.trans e) h⟩
    | some r =>
    obtain ⟨e, ekvs, rfl, he0, hrow⟩ := hrw
    obtain ⟨hrn, hrl, hrt⟩ := hrows _ hy r rfl
    have he5 := x5 _ _ he0
    have hek : ekvs.map (·.1) = (r.map (·.1)).map Sum.inr := by
      rw [List.map_map]
      exact each_map (fun a c h => h.1) hrow
    have hel : ekvs.length ≤ 14 := by rw [hrow.length]; exact hrl
    have hnm : (ekvs.map (·.1)).all (fun k => nmD (keyP k)) = nmX r := by
      rw [hek, List.all_map, List.all_map]; rfl
    refine Evl.q_when (b := !nmX r) (Evl.et_is (Evl.et_or (a := false) (b := !nmX r) (Evl.et_is (Evl.et_not (Evl.et_B (isd rfl he5))) rfl) fun _ => Evl.et_is (Evl.et_not (Evl.et_B (ev_lockAll (K := K) (kvs := ekvs) (tVar 3) (Evl.ev_var rfl) (fun _ _ _ => Evl.ev_var rfl) he5 (by omega) (fun k => nmD (keyP k)) fun k hk od H6 e6 => ?_))) (by rw [hnm])) rfl) (fun hb3 H6 e6 => ?_) fun hb3 H6 e6 => ?_
    · rw [hek] at hk
      obtain ⟨z, hz, rfl⟩ := List.mem_map.mp hk
      obtain ⟨y', hy', rfl⟩ := List.mem_map.mp hz
      exact ev_callB1 (g := nmD) (evd_var rfl (key_dq (k := .inr y'.1) (hrt y' hy')))
    · have hn0 : nmX r = false := by simpa using hb3
      exact ⟨_, rfl, by show 2 ≤ 1000; decide, raise_bl fun d H' e h => he (some j) none (raise none (Or.inl ⟨hn0, rfl⟩) (by show (_ && _) = false; rw [hn0]; rfl)) d H' ((x5.trans e6).trans e) h⟩
    have hn1 : nmX r = true := by simpa using hb3
    have x6 : Ex H H6 := x5.trans e6
    have he6 := x6 _ _ he0
    have net : t ≠ e := fun z => hne (by rw [z])
    refine sq_lockFilt (kvs := ekvs) rfl (fun _ => rfl) he6 (by omega) (gR (l.map (·.1)) r) (fun k hk od H7 e7 => ?_) fun pw H7 e7 hw => ?_
    · obtain ⟨v', hv', hm'⟩ := val_some hk
      obtain ⟨y', hy', h1, h2, h3⟩ := each_mem hrow _ hm'
      cases (show k = Sum.inr y'.1 from h1)
      have ht7 : H7 t = some (.dK kvs) := e7 _ _ (by rw [upd_ne net]; exact x6 _ _ ht)
      have he7 : H7 e = some (.frz od (.dK ekvs)) := e7 _ _ upd_same
      have ta : El H7 v' y'.2 := h2.but he0 h3 fun a o n h => e7 _ _ (by rw [upd_ne n]; exact x6 _ _ h)
      refine Evl.et_is (Evl.et_not (Evl.et_B (Evl.ev_call (z := .bl (tgX (l.map (·.1)) y'.2)) (vs := [.ref t, v']) (Evl.ea_cons (Evl.ev_var rfl) (Evl.ea_cons (fun H8 e8 Q q => ?_) Evl.ea_nil)) fun H8 e8 Q q E' => ?_))) (by rw [gR_of hrn hy'])
      · have dg : DGet H8 e (kV (.inr y'.1)) (valV ekvs (.inr y'.1)) := Or.inl ⟨ekvs, .inr y'.1, Or.inr ⟨od, e8 _ _ he7⟩, rfl, rfl⟩
        rw [hv'] at dg
        exact ⟨_, rfl, _, rfl, e, _, rfl, dg, q H8 (Ex.refl H8)⟩
      · exact ⟨t, v', y'.2, kvs, rfl, e8 _ _ ht7, ta.same e8, fun H9 e9 => by rw [hkeys]; exact q H9 e9⟩
    · rw [hek, gR_filter hrn] at hw
      have x7 : Ex H H7 := x6.trans e7
      generalize hws : (r.filter fun y => !tgX (l.map (·.1)) y.2).map (·.1) = ws at hw
      have hmem : ∀ z, z ∈ ws ↔ ∃ y ∈ r, y.1 = z ∧ tgX (l.map (·.1)) y.2 = false := fun z => by
        rw [← hws, List.mem_map]
        constructor
        · rintro ⟨y, hy, rfl⟩
          obtain ⟨h1, h2⟩ := List.mem_filter.mp hy
          exact ⟨y, h1, rfl, by simpa using h2⟩
        · rintro ⟨y, h1, rfl, h2⟩
          exact ⟨y, List.mem_filter.mpr ⟨h1, by simpa using h2⟩, rfl⟩
      have hwl : ws.length ≤ 14 := by
        rw [← hws, List.length_map]
        exact Nat.le_trans (List.length_filter_le _ _) hrl
      refine Evl.s_when (b := decide (0 < (ws.length : Int))) (Evl.et_is (Evl.et_test (Evl.ev_op (Evl.ev_len (K := K) (xs := ws.map V.str) (Evl.ev_var rfl) (SqL.of hw)) Evl.ev_c Evl.rv_I0)) (by rw [List.length_map])) (fun h0 H8 e8 => ?_) fun h0 H8 e8 => ?_
      · cases hws2 : ws with
        | nil => rw [hws2] at h0; exact absurd h0 (by decide)
        | cons z zs =>
          rw [hws2] at hw hmem
          obtain ⟨m1, m2⟩ := minT_min zs z
          obtain ⟨y1, g1, g2, g3⟩ := (hmem _).mp m1
          refine ⟨_, rfl, _, rfl, pw, z, zs, rfl, SqL.of (e8 _ _ hw), by show 2 ≤ 1000; decide, raise_bl fun d H' ex h => he (some j) (some (minT z zs)) (raise _ (Or.inr ⟨hn1, _, rfl, ⟨y1, g1, g2, g3⟩, fun y hy hty => m2 _ ((hmem _).mpr ⟨y, hy, rfl, hty⟩)⟩) ?_) d H' ((x7.trans e8).trans ex) h⟩
          show (_ && _) = false
          rw [Bool.and_eq_false_iff]
          exact Or.inr (List.all_eq_false.mpr ⟨y1, g1, by rw [g3]; decide⟩)
      · have hw0 : ws = [] := by
          cases hws2 : ws with
          | nil => rfl
          | cons z zs =>
            rw [hws2] at h0
            have := of_decide_eq_false h0
            simp at this
        refine ⟨_, _, _, _, rfl, (((e4.trans e5).trans e6).trans e7).trans e8, next ?_⟩
        show (_ && _) = true
        rw [hn1, Bool.true_and, List.all_eq_true]
        intro y hy
        cases hty : tgX (l.map (·.1)) y.2 with
        | true => rfl
        | false =>
          have := (hmem y.1).mpr ⟨y, hy, rfl, hty⟩
          rw [hw0] at this; cases this
  · rintro σ' H4 ⟨v2, v3, v4, v5, rfl, e4, hgood⟩
    refine hq (Or.inr ⟨hbad, l, rfl, Or.inl ⟨rfl, fun x hx => ?_⟩⟩) H4 (x3.trans e4)
    rw [List.length_map, List.take_length] at hgood
    have hxk : x.1 ∈ js.map Sum.inl := by rw [← hjs]; exact List.mem_map.mpr ⟨x, hx, rfl⟩
    obtain ⟨a, ha, ea⟩ := List.mem_map.mp hxk
    exact hgood x hx a ea.symm (hperm.mem_iff.mpr ha)
end
end KD

set_option Elab.async false
set_option linter.all false
set_option maxRecDepth 100000
set_option maxHeartbeats 4000000
namespace LF
open PySem PySem.Spec PyProof.Rows L2
/-- cls(..), the class at C in the i-th slot -/
def tMakeL (i : Nat) (C : Addr) (sp : Sp) (dvs : List V) (E : XK) (t : TA) : TE := fun σ H Q => σ[i]? = some (some (.ref C)) ∧ t σ H fun vs H1 => ∀ x dx, H1 x = none → H1 dx = none → dx ≠ x →
  sp (.ref x :: (vs ++ dvs)) (upd (upd H1 dx (.own x)) x (.ins C dx [])) (fun v H2 => v = .non ∧ Q (.ref x) H2) E
section
variable {X : Cx} {CX : CXT} {k i : Nat} {C f : Addr} {fd : FuncData} {ps : List Str} {sp : Sp} {dvs : List V} {ds : List Value} {E : XK} {x : Str} {p pos : Pos} {e : Expr} {es : List Expr} {t : TA}
theorem pe_makeL (M : Mk X.K C f) (F : FnOk X.prog X.w X.K X.mg X.base CX k f fd ps sp) (hr : Room (k + 1) X.A) (hN : X.N[i]? = some x) (hv : Vis X.env.scope x) (hb : Binds X.K fd ps ds) (hd : Vals dvs ds) (hx : Passes CX X E) (ha : PA X (e :: es) t)
    (h1 : (x == ("__debug__" : Str)) = false := by decide) (h2 : (x == ("__classdict__" : Str)) = false := by decide)
    (he : starEach (e :: es) X.env = (false, eval e X.env) :: starEach es X.env := by rfl) (hpl : (backTo pos (starEach es X.env)).any (·.1) = false := by rfl) : PE X (.Call (.Name x p) (e :: es) [] pos) (tMakeL i C sp dvs E t) := by
  refine ⟨fun pins s σ H Q I h => ?_⟩
  obtain ⟨hs, ht⟩ := h
  refine wpAny_Call_Name_kw (thn ((pe_var (pos := p) hN hv h1 h2).run pins s σ H (fun v H1 => v = .ref C ∧ H1 = H) I ⟨.ref C, hs, rfl, rfl⟩) fun u s1 ⟨v, H1, I1, r1, q1⟩ => ?_)
  obtain ⟨rfl, rfl⟩ := q1
  cases r1
  refine PySem.W.callWith_K (h₀ := X.base) I.ok.mod.kin M.kp (thn (ha.run pos pins s1 σ _ _ I1 ht) fun us s2 ⟨vs, H2, I2, r, q⟩ => ⟨I2.kIn, ?_⟩) he hpl
  exact run_make M F hr hb hd hx I2 r q
end
/-- a def whose parameters are all given, by its arguments alone -/
theorem FnOk.toR {P : Program} {w : World} {K : PySem.W.Frag} {mg : Str → Option Value} {base : Heap} {CX : CXT} {k : Nat} {f : Addr} {fd : FuncData} {ps : List Str} {sp : Sp} (F : FnOk P w K mg base CX k f fd ps sp) (hb : Binds K fd ps []) : FnR P w K mg base CX k f sp := by
  intro A fr st H us vs Q E hr e0 r h
  have hl : us.length = ps.length := by rw [← r.length]; exact F.len _ _ _ _ h
  have KX : K.In st.heap := e0.mod.kin.keeps fun b o e => (e0.bs b o e).1
  have b := hb st us KX (by rw [List.append_nil]; exact hl)
  rw [List.append_nil] at b
  exact F.run A fr st H ⟨us, []⟩ us vs Q E hr e0 b r h
end LF

set_option Elab.async false
set_option linter.all false
set_option maxRecDepth 100000
set_option maxHeartbeats 4000000
namespace LF
open PySem PySem.Spec PyProof.Rows L2
/-- C(e, ..), what is raised is wished for at the caller's slots -/
def tMakeA (C : Addr) (sp : Sp) (dvs : List V) (E : L2.St → XK) (t : TA) : TE := fun σ H Q => t σ H fun vs H1 => ∀ x dx, H1 x = none → H1 dx = none → dx ≠ x →
  sp (.ref x :: (vs ++ dvs)) (upd (upd H1 dx (.own x)) x (.ins C dx [])) (fun v H2 => v = .non ∧ Q (.ref x) H2) (E σ)
section
variable {X : Cx} {CX : CXT} {k : Nat} {C f : Addr} {fd : FuncData} {ps : List Str} {sp : Sp} {dvs : List V} {ds : List Value} {E : XK} {x : Str} {p pos : Pos} {e : Expr} {es : List Expr} {t : TA}
theorem run_makeA {pins : List (Addr × Obj)} {σ : L2.St} {H : Hp} {s : Shared} {Q : VK} {us : List Value} {vs : List V} (M : Mk X.K C f) (F : FnOk X.prog X.w X.K X.mg X.base CX k f fd ps sp) (hr : Room (k + 1) X.A) (hb : Binds X.K fd ps ds) (hd : Vals dvs ds)
    (hx : PassesAt CX X σ E) (I : Inv X pins σ H s) (r : Vals vs us)
    (h : ∀ x dx, H x = none → H dx = none → dx ≠ x → sp (.ref x :: (vs ++ dvs)) (upd (upd H dx (.own x)) x (.ins C dx [])) (fun v H2 => v = .non ∧ Q (.ref x) H2) E) :
    wpAny (model X.prog X.w) X.A (call (.ref C) us) (EP X pins σ Q) X.xe s := by
  have hq := h (s.heap.objs.size + 1) s.heap.objs.size (I.hok.fresh (Nat.le_succ _)) (I.hok.fresh (Nat.le_refl _)) (Nat.ne_of_lt (Nat.lt_succ_self _))
  have I2 := Inv.made (C := C) I
  have r2 : Vals (V.ref (s.heap.objs.size + 1) :: (vs ++ dvs)) (Value.ref (s.heap.objs.size + 1) :: (us ++ ds)) := .cons rfl (r.append hd)
  have hl : (Value.ref (s.heap.objs.size + 1) :: us ++ ds).length = ps.length := by
    have e := r2.length
    rw [F.len _ _ _ _ hq] at e
    exact e.symm
  refine wpAny_call (make_map (f := f) I.kIn M.makes M.init (beq_iff_eq.mp M.fn) (codeAny_mono (F.run _ X.stack _ _ ⟨Value.ref (s.heap.objs.size + 1) :: us, []⟩ (Value.ref (s.heap.objs.size + 1) :: (us ++ ds)) _ _ E (hr.make C us [])
    (I2.env0.make C us []) (hb _ (Value.ref (s.heap.objs.size + 1) :: us) I2.kIn hl) r2 hq) fun r s' hq' => ?_))
  cases r with
  | error e => exact hx pins _ _ e s' I2 hq'
  | ok fl =>
    cases fl with
    | ret u =>
      obtain ⟨v, H', I3, rv, ev, q3⟩ := I2.after hq'
      subst ev
      exact ⟨rv, ⟨V.ref (s.heap.objs.size + 1), H', I3, rfl, q3⟩⟩
    | next => exact False.elim hq'
    | brk => exact False.elim hq'
    | cont => exact False.elim hq'
end
theorem pe_makeA {X : Cx} {CX : CXT} {k : Nat} {C f : Addr} {fd : FuncData} {ps : List Str} {sp : Sp} {dvs : List V} {ds : List Value} {E : L2.St → XK} {x : Str} {p pos : Pos} {e : Expr} {es : List Expr} {t : TA} (M : Mk X.K C f) (F : FnOk X.prog X.w X.K X.mg X.base CX k f fd ps sp) (hr : Room (k + 1) X.A) (hg : Gl X x) (hm : X.mg x = some (.ref C)) (hb : Binds X.K fd ps ds) (hd : Vals dvs ds) (hx : ∀ σ, PassesAt CX X σ (E σ))
    (ha : PA X (e :: es) t) (hdb : (x == ("__debug__" : Str)) = false := by decide) (he : starEach (e :: es) X.env = (false, eval e X.env) :: starEach es X.env := by rfl) (hpl : (backTo pos (starEach es X.env)).any (·.1) = false := by rfl) :
    PE X (.Call (.Name x p) (e :: es) [] pos) (tMakeA C sp dvs E t) := by
  refine ⟨fun pins s σ H Q I h => ?_⟩
  refine wpAny_Call_Name_kw (ld_glob I hg hm ?_ hdb)
  refine PySem.W.callWith_K (h₀ := X.base) I.ok.mod.kin M.kp (thn (ha.run pos pins s σ H _ I h) fun us s1 ⟨vs, H1, I1, r, q⟩ => ⟨I1.kIn, ?_⟩) he hpl
  exact run_makeA M F hr hb hd (hx σ) I1 r q
end LF

set_option Elab.async false
set_option linter.all false
set_option maxRecDepth 100000
set_option maxHeartbeats 16000000
namespace LF
open PySem PySem.Spec PyProof.Rows L2
/-- C(e, .., k = v, ..), what is raised is wished for at the caller's slots -/
def tMakeKA (C : Addr) (n m : Nat) (sp : Sp) (gV : List V → List V → List V) (E : L2.St → XK) (t tk : TA) : TE := fun σ H Q => t σ H fun vs H1 => tk σ H1 fun zs H2 => vs.length = n ∧ zs.length = m ∧ ∀ x dx, H2 x = none → H2 dx = none → dx ≠ x →
  sp (gV (.ref x :: vs) zs) (upd (upd H2 dx (.own x)) x (.ins C dx [])) (fun v H3 => v = .non ∧ Q (.ref x) H3) (E σ)
section
variable {X : Cx} {CX : CXT} {k n : Nat} {f C : Addr} {fd : FuncData} {ps ks : List Str} {sp : Sp} {x : Str} {p pos : Pos} {e : Expr} {es : List Expr} {kws : List Keyword} {t tk : TA} {g : List Value → List Value → List Value} {gV : List V → List V → List V}
theorem run_makeKA {E : XK} {pins : List (Addr × Obj)} {σ : L2.St} {H : Hp} {s : Shared} {Q : VK} {us ws : List Value} {vs zs : List V} (M : Mk X.K C f) (F : FnOk X.prog X.w X.K X.mg X.base CX k f fd ps sp) (hr : Room (k + 1) X.A) (hb : KBn X.K fd ps (n + 1) ks g gV) (hx : PassesAt CX X σ E)
    (I : Inv X pins σ H s) (r : Vals vs us) (rz : Vals zs ws) (l1 : vs.length = n) (l2 : zs.length = ks.length)
    (h : ∀ x dx, H x = none → H dx = none → dx ≠ x → sp (gV (.ref x :: vs) zs) (upd (upd H dx (.own x)) x (.ins C dx [])) (fun v H2 => v = .non ∧ Q (.ref x) H2) E) :
    wpAny (model X.prog X.w) X.A (call (.ref C) us (ks.zip ws)) (EP X pins σ Q) X.xe s := by
  have hq := h (s.heap.objs.size + 1) s.heap.objs.size (I.hok.fresh (Nat.le_succ _)) (I.hok.fresh (Nat.le_refl _)) (Nat.ne_of_lt (Nat.lt_succ_self _))
  have I2 := Inv.made (C := C) I
  have r1 : Vals (V.ref (s.heap.objs.size + 1) :: vs) (Value.ref (s.heap.objs.size + 1) :: us) := .cons rfl r
  have r2 := hb.rel r1 rz
  have n1 : (Value.ref (s.heap.objs.size + 1) :: us).length = n + 1 := by
    rw [List.length_cons, ← r.length, l1]
  refine wpAny_call (make_map (f := f) I.kIn M.makes M.init (beq_iff_eq.mp M.fn) (codeAny_mono (F.run _ X.stack _ _ ⟨Value.ref (s.heap.objs.size + 1) :: us, ks.zip ws⟩ (g (Value.ref (s.heap.objs.size + 1) :: us) ws) _ _ E (hr.make C us (ks.zip ws))
    (I2.env0.make C us (ks.zip ws)) (hb.to _ (Value.ref (s.heap.objs.size + 1) :: us) ws I2.kIn n1 (rz.length.symm.trans l2)) r2 hq) fun r s' hq' => ?_))
  cases r with
  | error e => exact hx pins _ _ e s' I2 hq'
  | ok fl =>
    cases fl with
    | ret u =>
      obtain ⟨v, H', I3, rv, ev, q3⟩ := I2.after hq'
      subst ev
      exact ⟨rv, ⟨V.ref (s.heap.objs.size + 1), H', I3, rfl, q3⟩⟩
    | next => exact False.elim hq'
    | brk => exact False.elim hq'
    | cont => exact False.elim hq'
theorem pe_makeKA {E : L2.St → XK} (M : Mk X.K C f) (F : FnOk X.prog X.w X.K X.mg X.base CX k f fd ps sp) (hr : Room (k + 1) X.A) (hg : Gl X x) (hm : X.mg x = some (.ref C)) (hb : KBn X.K fd ps (n + 1) ks g gV) (hx : ∀ σ, PassesAt CX X σ (E σ)) (ha : PA X (e :: es) t) (hkw : PK X kws tk)
    (hall : (backToKw pos (keywordEach kws X.env)).all (·.1.isSome) = true := by rfl) (hks : (backToKw pos (keywordEach kws X.env)).filterMap (·.1) = ks := by rfl) (hdb : (x == ("__debug__" : Str)) = false := by decide)
    (he : starEach (e :: es) X.env = (false, eval e X.env) :: starEach es X.env := by rfl) (hpl : ((backTo pos (starEach (e :: es) X.env)).any (·.1) || (backToKw pos (keywordEach kws X.env)).any (·.1.isNone)) = false := by rfl) :
    PE X (.Call (.Name x p) (e :: es) kws pos) (tMakeKA C n ks.length sp gV E t tk) := by
  refine ⟨fun pins s σ H Q I h => ?_⟩
  refine wpAny_Call_Name_kw (ld_glob I hg hm ?_ hdb)
  refine PySem.W.callWith_KW (h₀ := X.base) I.ok.mod.kin M.kp hall (thn (ha.run pos pins s σ H _ I h) fun us s1 ⟨vs, H1, I1, r, q⟩ => ?_) hpl he
  refine thn (hkw.run pos pins s1 σ H1 _ I1 q) fun ws s2 ⟨zs, H2, I2, rz, l1, l2, q2⟩ => ⟨I2.kIn, ?_⟩
  rw [hks]
  exact run_makeKA M F hr hb (hx σ) I2 r rz l1 l2 q2
end
end LF
namespace KD
open PySem PySem.Spec PyProof.Rows L2 LF
open Evl (Ev EvL EvU EvT EvA Ex sq_of st_of)
open PySem.W (EachIs)
open PySem.OEX
def spRowX : Sp := fun vs H Q _ => ∃ (e : Addr) (kvs : List (Key × V)) (ns : List Str), vs = [.ref e] ∧ H e = some (.dK kvs) ∧ kvs.map (·.1) = ns.map Sum.inr ∧ ns.length ≤ 14 ∧ ∀ H' p, Ex H H' → Q (.ref p) H'
def spInitX (C CB : Addr) : Sp := fun vs H Q E => ∃ (p dx : Addr) (tv hv : V) (o : Option TabX) (hd : PyData), vs = [.ref p, tv, hv] ∧ H p = some (.ins C dx []) ∧ TbX H tv o ∧ (∀ l, o = some l → TabW' l) ∧ Dq H hv hd ∧
  (Due hd o none → ∀ H', Keep p H H' → Q .non H') ∧ ∀ j n, Due hd o (some (j, n)) → ∀ d H', Ex H H' → H' d = some (.xd (blFs (jV j) (nV n))) → E (.ref CB) (some d) H'
theorem lk_blj {j n : V} : List.lookup ("joint" : Str) (blFs j n) = some j := by
  have e1 : (("joint" : Str) == ("name" : Str)) = false := by decide +kernel
  have e2 : (("joint" : Str) == ("joint" : Str)) = true := by decide +kernel
  simp [blFs, List.lookup, e1, e2]
theorem lk_bln {j n : V} : List.lookup ("name" : Str) (blFs j n) = some n := by
  have e2 : (("name" : Str) == ("name" : Str)) = true := by decide +kernel
  simp [blFs, List.lookup, e2]
/-- what is told of a value that is asked -/
def VdV (H : Hp) (v : V) : Vd → Prop
  | none => v = .non
  | some (j, n) => ∃ q, v = .ref q ∧ H q = some (.tup [jV j, nV n])
def spTold : Sp := fun vs H Q _ => ∃ (tv hv : V) (o : Option TabX) (hd : PyData), vs = [tv, hv] ∧ TbX H tv o ∧ (∀ l, o = some l → TabW' l) ∧ Dq H hv hd ∧ ∀ r v H', Due hd o r → Ex H H' → VdV H' v r → Q v H'
/-- what a caught BadLayout must have -/
structure ErTxt (K : PySem.W.Frag) (CB : Addr) : Prop where
  exC : ExcC K CB
  xf : XfC K CB
  n1 : PySem.W.findIn K (.ref CB) "joint" = some none
  n2 : PySem.W.findIn K (.ref CB) "name" = some none
  kVE : PySem.W.kitOne K (.ref CB) (.type "ValueError") = some true
  te : PySem.W.exmOne K (.ref CB) (.ref CB) = some true
abbrev s__law_told : Stmt := topS 31
abbrev N__law_told : List Str := ["_law_tables", "_law_head", "e"]
theorem sc__law_told : FnScope ["_law_tables", "_law_head", "e"] ["_law_tables", "_law_head"] (defScope s__law_told) := ⟨rfl, rfl, rfl, by decide +kernel, rfl, by decide +kernel, by decide +kernel⟩
section
variable {P : Program} {w : World} {K : PySem.W.Frag} {mg : Str → Option Value} {base : Heap} {tk1 tk2 : Tok}
theorem ok_sorted_rowX {f : Addr} {fd : FuncData} (F : Fun K "sorted_row" "sorted_row" s_sorted_row f fd) (T : Txt K mg tk1 tk2) : FnOk P w K mg base CX0 1 f fd ["table"] spRowX := by
  refine F.ok sc_sorted_row (fun vs H Q E h => ?_) (fun cdv A outer s H vs Q E hr h => ?_)
  · obtain ⟨e, kvs, ns, rfl, _⟩ := h
    rfl
  have hu1 := hu_of hr
  refine ⟨_, (pss_one (ps_ret (pe_dc (own := [("name", 1)]) rfl sc_sorted_row.nd (pi_list (pe_callB (show CallR _ (.builtin "sorted") _ from call_sortedD rfl) (by rfl) T.n_sorted (by decide +kernel) (pa_cons (pv 0) pa_nil))) (blkOk_by (N := N_sorted_row) (sc := defScope s_sorted_row) (by decide +kernel)) (fun _ _ _ _ _ => pg_name (i := 1) sc_sorted_row.nd rfl (Or.inl rfl)) (fun _ _ _ _ _ => pts_nil) (fun _ _ _ _ _ => (pv 1)) (fun _ _ _ _ _ => (pe_dget hu1 (pv 0) (pv 1) (fun _ _ => rfl)))))), ?_⟩
  obtain ⟨e, ekvs, ns, rfl, he, hkeys, hl, hq⟩ := h
  refine ⟨_, rfl, e, ekvs, ns, rfl, Rd.of he, hkeys, by omega, fun ys p hperm hsort hp => ⟨p, rfl, ⟨_, SqL.of upd_same⟩, fun D hD => ?_⟩⟩
  have x2 : Ex H (upd H p (.lst (ys.map V.str))) := Ex.new hp
  have hp2 : (upd H p (.lst (ys.map V.str))) p = some (.lst (ys.map V.str)) := upd_same
  generalize upd H p (.lst (ys.map V.str)) = H2 at *
  have hyl : ys.length ≤ 14 := by rw [hperm.length_eq]; exact hl
  refine dc_it (walk_list (xs := ys.map V.str)) (fun i H' => Ex H2 H' ∧ ∃ us : List (Key × V), H' D = some (.dK us) ∧ us.length ≤ i) ⟨Ex.new hD, [], upd_same, Nat.le_refl _⟩ (fun i H' _ h => SqL.of (h.1 _ _ hp2)) ?_ ?_
  · rintro i x H3' H3 hi ⟨e3, us, hd, hul⟩ ⟨rfl, hxi⟩
    rw [List.length_map] at hi
    rw [List.getElem?_map] at hxi
    obtain ⟨z, hz, rfl⟩ := Option.map_eq_some_iff.mp hxi
    have hzk : (Sum.inr z : Key) ∈ ekvs.map (·.1) := by rw [hkeys]; exact List.mem_map.mpr ⟨z, hperm.mem_iff.mp (List.mem_of_getElem? hz), rfl⟩
    obtain ⟨v, hv, _⟩ := val_some hzk
    have dg := DGet.k (k := .inr z) (e3 _ _ (x2 _ _ he))
    rw [hv] at dg
    refine ⟨wipe_set, ?_⟩
    refine ⟨_, rfl, _, rfl, _, rfl, e, v, rfl, dg, us, .inr z, rfl, hd, Evl.sz_lt (by omega), Ex.mut e3 hD, _, upd_same, Nat.le_trans len_put (by omega)⟩
  · rintro H3 ⟨e3, us, hd, hul⟩
    exact hq H3 D (x2.trans e3)
theorem ok_initX {f f1 f2 C CB : Addr} {fd fd1 fd2 : FuncData} (F : FunD K "__init__" "Layout.__init__" (defArgs s_init) (defBody s_init) (defScope s_init) [] [("top", .int 0)] f fd) (T : Txt K mg tk1 tk2) (R : LayTxt K mg C)
    (FC : FnOk P w K mg base (L2.CX P w) 5 f1 fd1 ["tables", "top"] (spCheckX CB)) (gC : mg "check_tables" = some (.ref f1)) (kC : PySem.W.keepIn K (.ref f1) = true) (bC : Binds K fd1 ["tables", "top"] []) (d_sorted_row : DefAt P w K mg base "sorted_row" 1 f2 fd2 ["table"] spRowX) :
    FnOk P w K mg base (L2.CX P w) 6 f fd ["self", "tables", "top"] (spInitX C CB) := by
  refine F.ok sc_init (fun vs H Q E h => ?_) (fun cdv A outer s H vs Q E hr h => ?_)
  · obtain ⟨p, dx, tv, hv, o, hd, rfl, _⟩ := h
    rfl
  have hu1 := hu_of hr
  refine ⟨_, (pss_cons (ps_expr (pe_callS FC hr rfl gC kC bC (fun σ => passAt (takes_of rfl rfl rfl rfl) σ) (by exact (pa_cons (pv 1) (pa_cons (pv 2) pa_nil)))))
    (pss_cons (ps_fld (pv 0) (pe_dc (own := [("joint", 3)]) rfl sc_init.nd (pi_list (pe_callB (call_sortedDI rfl) (by rfl) T.n_sorted (by decide +kernel) (pa_cons (pv 1) pa_nil))) (blkOk_by (N := N_init) (sc := defScope s_init) (by decide +kernel)) (fun _ _ _ _ _ => pg_name (i := 3) sc_init.nd rfl (Or.inl rfl)) (fun _ _ _ _ _ => pts_nil) (fun _ _ _ _ _ => (pv 3)) (fun _ _ _ _ _ => (pe_callD d_sorted_row (hr.mono (by decide)) (pa_cons (pe_dget hu1 (pv 1) (pv 3) (fun _ _ => rfl)) pa_nil)))) rfl)
    (pss_one (ps_fld (pv 0) (pv 2) rfl)))), ?_⟩
  obtain ⟨p, dx, tv, hv, o, hd, rfl, hp, htb, hw, hhd, hq, he⟩ := h
  refine ⟨_, rfl, _, rfl, tv, hv, o, hd, rfl, htb, hw, hhd, fun hdue H1 e1 => ?_, fun j n hdue d H' e h => he j n hdue d H' e h⟩
  have hdue0 := hdue
  rcases hdue with ⟨_, h⟩ | ⟨hbad, l, rfl, hdue⟩
  · cases h
  have hgood : ∀ x ∈ l, rowG (l.map (·.1)) x.2 = true := by
    rcases hdue with ⟨_, h⟩ | ⟨_, _, _, _, h, _⟩
    · exact h
    · cases h
  obtain ⟨hnd, hl14, hok, hrows⟩ := hw l rfl
  obtain ⟨t, kvs, rfl, ht, heach⟩ := htb
  have hkeys : kvs.map (·.1) = l.map (·.1) := each_map (fun a c h => h.1) heach
  have hj : (l.all fun x => keyJ x.1) = true := by
    have : (_ || _) = false := hbad
    rw [Bool.or_eq_false_iff] at this
    simpa using this.1
  obtain ⟨js, hjs⟩ := keys_int (ks := l.map (·.1)) (by rw [List.all_map]; exact hj)
  have hjl : js.length ≤ 14 := by
    have := congrArg List.length hjs
    rw [List.length_map, List.length_map] at this; omega
  have ht1 := e1 _ _ ht
  refine ⟨_, rfl, t, kvs, js, rfl, Rd.of ht1, by rw [hkeys, hjs], by omega, fun ys p2 hperm hpw hp2 => ⟨p2, rfl, ⟨_, SqL.of upd_same⟩, fun D hD => ?_⟩⟩
  have x2 : Ex H1 (upd H1 p2 (.lst (ys.map V.int))) := Ex.new hp2
  have hy2 : (upd H1 p2 (.lst (ys.map V.int))) p2 = some (.lst (ys.map V.int)) := upd_same
  generalize upd H1 p2 (.lst (ys.map V.int)) = H2 at *
  have x12 : Ex H H2 := e1.trans x2
  have hyl : ys.length ≤ 14 := by rw [hperm.length_eq]; exact hjl
  refine dc_it (walk_list (xs := ys.map V.int)) (fun i H' => Ex H2 H' ∧ ∃ us : List (Key × V), H' D = some (.dK us) ∧ us.length ≤ i) ⟨Ex.new hD, [], upd_same, Nat.le_refl _⟩ (fun i H' _ h => SqL.of (h.1 _ _ hy2)) ?_ ?_
  · rintro i x H3' H3 hi ⟨e3, us, hd3, hul⟩ ⟨rfl, hxi⟩
    rw [List.length_map] at hi
    rw [List.getElem?_map] at hxi
    obtain ⟨j, hjx, rfl⟩ := Option.map_eq_some_iff.mp hxi
    have hjk : (Sum.inl j : Key) ∈ kvs.map (·.1) := by rw [hkeys, hjs]; exact List.mem_map.mpr ⟨j, hperm.mem_iff.mp (List.mem_of_getElem? hjx), rfl⟩
    obtain ⟨v, hv, hm⟩ := val_some hjk
    obtain ⟨y, hy, hy1, hrw, hne⟩ := each_mem heach _ hm
    obtain ⟨yk, row⟩ := y
    cases row with
    | none => have := hgood _ hy; cases this
    | some r =>
      obtain ⟨e, ekvs, rfl, he0, hrow⟩ := hrw
      have hek : ekvs.map (·.1) = (r.map (·.1)).map Sum.inr := by
        rw [List.map_map]
        exact each_map (fun a c h => h.1) hrow
      have dg := DGet.k (k := .inl j) (e3 _ _ (x2 _ _ ht1))
      rw [hv] at dg
      refine ⟨wipe_set, ?_⟩
      refine ⟨_, rfl, _, rfl, _, rfl, t, _, rfl, dg, e, ekvs, r.map (·.1), rfl, e3 _ _ (x12 _ _ he0), hek, by rw [List.length_map]; exact (hrows _ hy r rfl).2.1, fun H4 p4 e4 => ?_⟩
      exact ⟨us, .inl j, rfl, e4 _ _ hd3, Evl.sz_lt (by omega), Ex.mut (e3.trans e4) hD, _, upd_same, Nat.le_trans len_put (by omega)⟩
  · rintro H3 ⟨e3, us, hd3, hul⟩
    have hp3 := e3 _ _ (x12 _ _ hp)
    refine ⟨_, rfl, p, C, dx, [], rfl, hp3, R.cl, R.nR, by show 0 < 1000; decide, ?_⟩
    refine ⟨_, rfl, _, rfl, p, C, dx, _, rfl, upd_same, R.cl, R.nP, by show 1 < 1000; decide, ?_⟩
    exact hq hdue0 _ (keep_put (keep_put (Same.keep fun a o h => e3 _ _ (x12 _ _ h))))
theorem ok_told {f fi C CB : Addr} {fd fdi : FuncData} {gk : List Value → List Value → List Value} (F : Fun K "_law_told" "_law_told" s__law_told f fd) (T : Txt K mg tk1 tk2) (R : LayTxt K mg C) (Er : ErTxt K CB) (gB : mg "BadLayout" = some (.ref CB))
    (M : Mk K C fi) (FI : FnOk P w K mg base (L2.CX P w) 6 fi fdi ["self", "tables", "top"] (spInitX C CB)) (kbn : KBn K fdi ["self", "tables", "top"] 2 ["top"] gk (fun vs zs => vs ++ zs)) : FnOk P w K mg base CX0 8 f fd ["_law_tables", "_law_head"] spTold := by
  refine F.ok sc__law_told (fun vs H Q E h => ?_) (fun cdv A outer s H vs Q E hr h => ?_)
  · obtain ⟨tv, hv, o, hd, rfl, _⟩ := h
    rfl
  refine ⟨_, (pss_cons (ps_try_as (i := 2) (Wout := fun _ _ _ _ => False) rfl rfl sc__law_told.nd rfl rfl ⟨rfl, by decide, Or.inl gB⟩ takes0
    (fun W pn xe tk _ => pss_one (ps_expr (pe_makeKA M FI (hr.mono (by decide)) rfl R.gC kbn (fun σ => passAt tk σ) (pa_cons (pv 0) pa_nil) (pk_cons (pv 1) pk_nil))))
    (fun a oe cls d pn hz hf => pss_one (ps_ret (pe_ifExp (pt_val (pe_callB (call_isErr Er.exC hz hf) (by rfl) T.n_isinstance (by decide +kernel) (pa_cons (pv 2) (pa_cons (pe_bltn (v := .ty "ValueError") (by rfl) T.n_ValueError (by decide +kernel) rfl) pa_nil)))) (pe_tup (pa_cons (pe_xf Er.xf Er.n1 hz hf (pv 2)) (pa_cons (pe_xf Er.xf Er.n2 hz hf (pv 2)) pa_nil))) pe_str))))
    (pss_one (ps_ret pe_non))), ?_⟩
  obtain ⟨tv, hv, o, hd, rfl, htb, hw, hhd, hq⟩ := h
  refine ⟨_, rfl, _, rfl, rfl, rfl, fun x dx g1 g2 g3 => ?_⟩
  have e1 : Ex H (upd (upd H dx (.own x)) x (.ins C dx [])) := (Ex.new g2).trans (Ex.new (by rw [upd_ne g3.symm]; exact g1))
  refine ⟨x, dx, tv, hv, o, hd, rfl, upd_same, htb.same e1, hw, Dq.same e1 _ _ hhd, fun hdue H' k => ⟨rfl, ?_⟩, fun j n hdue d H' e h => ?_⟩
  · refine hq none .non H' hdue (fun a o h => ?_) rfl
    have nax : a ≠ x := fun z => by rw [z, g1] at h; cases h
    exact k _ _ nax (e1 _ _ h)
  · refine ⟨true, Er.te, fun _ a0 ha0 => ?_, fun q => Bool.noConfusion q⟩
    refine ⟨_, rfl, rfl, fun e' he' => ⟨_, Option.some.inj he' ▸ h⟩, Or.inl ⟨.ty "ValueError", .type "ValueError", true, rfl, fun u r => r, Er.kVE, _, rfl, ?_⟩⟩
    refine iteT ?_
    refine ⟨_, rfl, rfl, rfl, d, _, _, rfl, h, lk_blj, _, rfl, rfl, rfl, d, _, _, rfl, h, lk_bln, (by show 2 ≤ sizeLine; decide), fun q hq1 => ?_⟩
    exact hq (some (j, n)) (.ref q) _ hdue ((e1.trans e).trans (Ex.new hq1)) ⟨q, rfl, upd_same⟩
end
end KD

set_option Elab.async false
set_option linter.all false
set_option maxRecDepth 100000
set_option maxHeartbeats 16000000
namespace LF
open PySem PySem.Spec PyProof.Rows L2
open Evl (Ev EvL EvU EvT EvA EvO Ex sq_of st_of)
section
variable {K : PySem.W.Frag} {σ : L2.St} {H H' : Hp} {ta tb te tc tx : TE} {t u : TT} {x y z v : V} {d e : PyData}
theorem ev_chain {r r' : R2} {a b : Bool} (hx : Ev ta σ H x) (hy : Ev tb σ H y) (h1 : Evl.RV r x y H (.bl a)) (hz : Ev tc σ H z) (h2 : Evl.RV r' y z H (.bl b)) : Ev (tChain r r' ta tb tc) σ H (.bl (a && b)) := fun H1 e Q q =>
  hx H1 e _ fun H2 e2 => hy H2 (e.trans e2) _ fun H3 e3 => h1 H3 (e.trans (e2.trans e3)) _ fun H4 e4 => ⟨a, rfl, by
    have e14 := e2.trans (e3.trans e4)
    cases a with
    | false => exact q H4 e14
    | true =>
      refine hz H4 (e.trans e14) _ fun H5 e5 => h2 H5 (e.trans (e14.trans e5)) _ fun H6 e6 => q H6 ((e14.trans e5).trans e6)⟩
theorem ev_lenS {w : Str} (h : Ev te σ H (.str w)) (hl : w.length ≤ 1000000) : Ev (tCB (fun xs H Q => ∃ z, xs = [.str z] ∧ z.length ≤ sizeLine ∧ Q (.int z.length) H) (tCons te tNil)) σ H (.int (w.length : Int)) :=
  Evl.ev_cb (vs := [.str w]) (Evl.ea_cons h Evl.ea_nil) fun H1 e Q q => ⟨w, rfl, Nat.le_trans hl (by decide), q H1 (Ex.refl H1)⟩
end
end LF
namespace KD
open PySem PySem.Spec PyProof.Rows L2 LF
open Evl (Ev EvL EvU EvT EvA EvO Ex sq_of st_of)
open PySem.W (EachIs)
/-- parts of a text, each asked by a def that tells names -/
theorem ev_allParts {K : PySem.W.Frag} {σ : L2.St} {H : Hp} {te : TE} {z : Str} {j : Nat} (h : Ev te σ H (.str z)) (hz : z.length ≤ 1000) (hj : ∀ x, ((wipe σ [j]).set j (some x))[j]? = some (some x)) :
    Ev (tCB (rAll K) (tCons (tLc (iList K (tM1 (fun x xs H Q => ∃ a b, x = .str a ∧ xs = [.str b] ∧ (b.length == 0) = false ∧ a.length + 2 ≤ sizeLine ∧ rNewStrs (PySem.Txt.split a b) H Q) te (tC (.str "/")))) (gName j) tYes (tCall (spName K) [] E0 (tCons (tVar j) tNil)) [j]) tNil)) σ H
      (.bl ((PySem.Txt.split z c_sl).all isNm)) := by
  have hbig := sizeLine_big
  have hlen := split_le z c_sl
  refine Evl.ev_is (ev_allB (bs := (PySem.Txt.split z c_sl).map isNm) ?_) (by rw [List.all_map]; rfl)
  have es : EvL (tM1 (fun x xs H Q => ∃ a b, x = .str a ∧ xs = [.str b] ∧ (b.length == 0) = false ∧ a.length + 2 ≤ sizeLine ∧ rNewStrs (PySem.Txt.split a b) H Q) te (tC (.str "/"))) σ H ((PySem.Txt.split z c_sl).map V.str) := fun H2 e Q q =>
    h H2 e _ fun H3 e3 => ⟨⟨_, rfl⟩, z, c_sl, rfl, rfl, sl_ne, by omega, fun p hp => q p _ (Evl.fresh_back e3 hp) (e3.trans (Ex.new hp)) upd_same⟩
  have e8 : Evl.given ((PySem.Txt.split z c_sl).map V.str).length (fun _ => true) (fun i => V.bl (isNm ((PySem.Txt.split z c_sl).getD i ""))) = ((PySem.Txt.split z c_sl).map isNm).map V.bl := by
    unfold Evl.given
    rw [List.filter_eq_self.mpr (fun _ _ => rfl), List.length_map]
    refine List.ext_getElem (by simp) fun i h1 h2 => ?_
    simp only [List.length_map, List.length_range] at h1
    simp [List.getD_eq_getElem?_getD, List.getElem?_eq_getElem h1]
  rw [← e8]
  refine Evl.el_lcNL (K := K) (fun _ => true) _ es (by rw [List.length_map]; omega) (fun x => wipe_set) (fun i y H2 e2 hy => fun H3 e3 Q q => q H3 (Ex.refl H3)) (fun i y H2 e2 hy _ => ?_)
  rw [List.getElem?_map] at hy
  obtain ⟨w, hw, rfl⟩ := Option.map_eq_some_iff.mp hy
  have hm := List.mem_of_getElem? hw
  have eg : (PySem.Txt.split z c_sl).getD i "" = w := by rw [List.getD_eq_getElem?_getD, hw]; rfl
  rw [eg]
  refine Evl.ev_call (vs := [.str w]) (Evl.ea_cons (Evl.ev_var (hj _)) Evl.ea_nil) fun H3 e3 Q q E' => ?_
  exact ⟨.str w, rfl, Or.inl ⟨w, rfl, by have := part_short hm; omega, fun H4 e4 => q H4 e4⟩⟩
theorem ev_nm {K : PySem.W.Frag} {σ : L2.St} {H : Hp} {te : TE} {d : PyData} {E : XK} (h : EvD te σ H d) : Ev (tCall (spName K) [] E (tCons te tNil)) σ H (.bl (nmD d)) := by
  obtain ⟨x, h1, h2⟩ := h
  refine Evl.ev_call (vs := [x]) (Evl.ea_cons h1 Evl.ea_nil) fun H1 e Q q E => ⟨x, rfl, ?_⟩
  have h2 := Dq.same e _ _ h2
  cases hs : isStr d with
  | true =>
    obtain ⟨e1, e2, e3, e4⟩ := h2.strE hs
    refine Or.inl ⟨txt d, e1, by omega, fun H' s => ?_⟩
    have := q H' s
    unfold nmD at this
    rw [hs, Bool.true_and] at this
    exact this
  | false =>
    refine Or.inr ⟨_, h2.ty, (by rw [kit_str', hs]), fun H' s => ?_⟩
    have := q H' s
    unfold nmD at this
    rw [hs, Bool.false_and] at this
    exact this
abbrev s__law_is_joint : Stmt := topS 27
abbrev N__law_is_joint : List Str := ["_law_thing"]
theorem sc__law_is_joint : FnScope ["_law_thing"] ["_law_thing"] (defScope s__law_is_joint) := ⟨rfl, rfl, rfl, by decide +kernel, rfl, by decide +kernel, by decide +kernel⟩
abbrev s__law_is_name : Stmt := topS 28
abbrev N__law_is_name : List Str := ["_law_thing", "_law_letters", "_law_sign"]
theorem sc__law_is_name : FnScope ["_law_thing", "_law_letters", "_law_sign"] ["_law_thing"] (defScope s__law_is_name) := ⟨rfl, rfl, rfl, by decide +kernel, rfl, by decide +kernel, by decide +kernel⟩
abbrev s__law_is_place : Stmt := topS 29
abbrev N__law_is_place : List Str := ["_law_thing", "_law_name"]
theorem sc__law_is_place : FnScope ["_law_thing", "_law_name"] ["_law_thing"] (defScope s__law_is_place) := ⟨rfl, rfl, rfl, by decide +kernel, rfl, by decide +kernel, by decide +kernel⟩
abbrev s__law_due : Stmt := topS 30
abbrev N__law_due : List Str := ["_law_tables", "_law_head", "_law_joint", "_law_table", "_law_name", "_law_target"]
theorem sc__law_due : FnScope ["_law_tables", "_law_head", "_law_joint", "_law_table", "_law_name", "_law_target"] ["_law_tables", "_law_head"] (defScope s__law_due) := ⟨rfl, rfl, rfl, by decide +kernel, rfl, by decide +kernel, by decide +kernel⟩
section
variable {P : Program} {w : World} {K : PySem.W.Frag} {mg : Str → Option Value} {base : Heap} {tk1 tk2 tj tn : Tok}
theorem ok_ljoint0 {f : Addr} {fd : FuncData} (F : Fun K "_law_is_joint" "_law_is_joint" s__law_is_joint f fd) (T : Txt K mg tk1 tk2) : FnOk P w K mg base CX0 1 f fd ["_law_thing"] (spD jtD) := by
  refine F.ok sc__law_is_joint (fun vs H Q E h => ?_) (fun cdv A outer s H vs Q E hr h => ?_)
  · obtain ⟨x, d, rfl, _⟩ := h
    rfl
  have hu := hr.units
  refine ⟨_, (pss_one (ps_ret (pe_and (pe_callB call_isi (by rfl) T.n_isinstance (by decide +kernel) (pa_cons (pv 0) (pa_cons (pe_bltn (v := .ty "int") (by rfl) T.n_int (by decide +kernel) rfl) pa_nil))) (pe_and (pe_not (pe_callB call_isi (by rfl) T.n_isinstance (by decide +kernel) (pa_cons (pv 0) (pa_cons (pe_bltn (v := .ty "bool") (by rfl) T.n_bool (by decide +kernel) rfl) pa_nil)))) (pe_one (pe_cmpR op_ge (pv 0) pe_int (nomark _))))))), ?_⟩
  obtain ⟨x, d, rfl, hd, hq⟩ := h
  have v0 : EvD (tVar 0) [some x] H d := evd_var rfl hd
  have e : jtD d = (isNum d && (!isBol d && decide (0 ≤ num d))) := by unfold jtD intD; rw [Bool.and_assoc]
  rw [e] at hq
  exact Evl.s_ret (Evl.ev_andV (ev_isi v0 (kit_int' d)) fun h1 => Evl.ev_andV (Evl.ev_notV (ev_isi v0 (kit_bol' d))) fun h2 => Evl.ev_op (v0.intE h1 (by simpa using h2)) Evl.ev_c Evl.rv_I0) hq
theorem ok_lname {f : Addr} {fd : FuncData} (F : Fun K "_law_is_name" "_law_is_name" s__law_is_name f fd) (T : Txt K mg tk1 tk2) : FnOk P w K mg base CX0 1 f fd ["_law_thing"] (spName K) := by
  refine F.ok sc__law_is_name (fun vs H Q E h => ?_) (fun cdv A outer s H vs Q E hr h => ?_)
  · obtain ⟨x, rfl, _⟩ := h
    rfl
  have hu := hr.units
  refine ⟨_, (pss_cons (ps_set (i := 1) sc__law_is_name.nd rfl (Or.inr rfl) pe_str)
    (pss_one (ps_ret (pe_and (pe_callB call_isi (by rfl) T.n_isinstance (by decide +kernel) (pa_cons (pv 0) (pa_cons (pe_bltn (v := .ty "str") (by rfl) T.n_str (by decide +kernel) rfl) pa_nil))) (pe_and (pe_chain op_le op_le pe_int (pe_callB call_len_str (by rfl) T.n_len (by decide +kernel) (pa_cons (pv 0) pa_nil)) pe_int) (pe_one (pe_callB (cr_all rfl) (by rfl) T.n_all (by decide +kernel) (pa_cons (pe_lc (own := [("_law_sign", 2)]) rfl sc__law_is_name.nd (pi_str (pv 0)) (blkOk_by (N := N__law_is_name) (sc := defScope s__law_is_name) (by decide +kernel)) (fun _ _ _ _ _ => pg_name (i := 2) sc__law_is_name.nd rfl (Or.inl rfl)) (fun _ _ _ _ _ => pts_nil) (fun _ _ _ _ _ => (pe_cmpR op_in_sign (pv 2) (pv 1) (by rfl)))) pa_nil)))))))), ?_⟩
  obtain ⟨x, rfl, h⟩ := h
  refine Evl.q_asg (v := .str letters) Evl.ev_c fun H1 e1 => ?_
  have v0 : Ev (tVar 0) [some x, some (.str letters), none] H1 x := Evl.ev_var rfl
  rcases h with ⟨z, rfl, hz, hq⟩ | ⟨t, ht, hk, hq⟩
  · have c0 : Ev (tCB (rIsi K) (tCons (tVar 0) (tCons (tC (.ty "str")) tNil))) [some (.str z), some (.str letters), none] H1 (.bl true) :=
      Evl.ev_cb (vs := [.str z, .ty "str"]) (Evl.ea_cons v0 (Evl.ea_cons Evl.ev_c Evl.ea_nil)) fun H2 e Q q => ⟨_, .ty "str", _, _, true, rfl, .ty _, .base (.str _), kit_str, q H2 (Ex.refl H2)⟩
    have e : isNm z = (true && ((decide ((1 : Int) ≤ (z.length : Int)) && decide ((z.length : Int) ≤ 8)) && z.cps.toList.all fun c => decide (c ∈ letters.cps.toList))) := by
      unfold isNm
      rw [Bool.true_and]
      congr 1
      rw [Bool.eq_iff_iff, decide_eq_true_eq, Bool.and_eq_true, decide_eq_true_eq, decide_eq_true_eq]; omega
    rw [e] at hq
    refine Evl.s_ret (Evl.ev_andV c0 fun _ => Evl.ev_andV (ev_chain Evl.ev_c (ev_lenS v0 hz) Evl.rv_I0 Evl.ev_c Evl.rv_I0) fun h2 => ?_) fun H2 e2 => hq H2 (e1.trans e2)
    have hlen : z.length ≤ 8 := by
      rw [Bool.and_eq_true] at h2
      have := of_decide_eq_true h2.2
      omega
    refine Evl.ev_is (ev_allB (bs := z.cps.toList.map fun c => decide (c ∈ letters.cps.toList)) ?_) (by rw [List.all_map]; rfl)
    have hsz : z.cps.toList.length = z.cps.size := by simp
    refine el_lcS _ v0 (by rw [List.length_map, List.length_map, hsz]) (by rw [List.length_map, List.length_map, hsz]; show z.length ≤ 40000; omega) fun i c y H2 e2 hc hy => ?_
    have hc' : z.cps.toList[i]? = some c := by rw [Array.getElem?_toList]; exact hc
    rw [List.getElem?_map, List.getElem?_map, hc'] at hy
    cases (show some (V.bl _) = some y from hy)
    exact fun H3 e3 Q q => ⟨_, rfl, _, rfl, c, letters, rfl, rfl, q H3 (Ex.refl H3)⟩
  · have c0 : Ev (tCB (rIsi K) (tCons (tVar 0) (tCons (tC (.ty "str")) tNil))) [some x, some (.str letters), none] H1 (.bl false) :=
      Evl.ev_cb (vs := [x, .ty "str"]) (Evl.ea_cons v0 (Evl.ea_cons Evl.ev_c Evl.ea_nil)) fun H2 e Q q => ⟨_, .ty "str", _, _, false, rfl, .ty _, TyX.same ht (e1.trans e), hk, q H2 (Ex.refl H2)⟩
    exact Evl.s_ret (Evl.ev_andV (b := false) c0 fun h => nomatch h) fun H2 e2 => hq H2 (e1.trans e2)
theorem ok_ljoint {f : Addr} {fd : FuncData} (F : Fun K "_law_is_joint" "_law_is_joint" s__law_is_joint f fd) (T : Txt K mg tk1 tk2) : FnOk P w K mg base CX0 1 f fd ["_law_thing"] (spE jtD) := by
  refine FnOk.or (ok_ljoint0 F T) ?_
  refine F.ok sc__law_is_joint (fun vs H Q E h => ?_) (fun cdv A outer s H vs Q E hr h => ?_)
  · obtain ⟨x, rfl, _⟩ := h
    rfl
  refine ⟨_, (pss_one (ps_ret (pe_and (pe_callB call_isi (by rfl) T.n_isinstance (by decide +kernel) (pa_cons (pv 0) (pa_cons (pe_bltn (v := .ty "int") (by rfl) T.n_int (by decide +kernel) rfl) pa_nil))) (pe_and (pe_not (pe_callB call_isi (by rfl) T.n_isinstance (by decide +kernel) (pa_cons (pv 0) (pa_cons (pe_bltn (v := .ty "bool") (by rfl) T.n_bool (by decide +kernel) rfl) pa_nil)))) (pe_one (pe_cmpR op_ge (pv 0) pe_int (nomark _))))))), ?_⟩
  obtain ⟨x, rfl, ho, hq⟩ := h
  obtain ⟨t, ht, hk⟩ := ho.tyI (K := K)
  exact ⟨_, rfl, x, .ty "int", _, _, false, rfl, .ty _, ht, hk, _, rfl, iteF (hq H (Ex.refl H))⟩
end
end KD

set_option Elab.async false
set_option linter.all false
set_option maxRecDepth 100000
set_option maxHeartbeats 16000000
namespace KD
open PySem PySem.Spec PyProof.Rows L2 LF
open Evl (Ev EvL EvU EvT EvA EvO Ex sq_of st_of)
open PySem.W (EachIs)
theorem len2 {n : Nat} (h : (!decide ((n : Int) = 2)) = false) : n = 2 := by
  have : decide ((n : Int) = 2) = true := by simpa using h
  have := of_decide_eq_true this
  omega
theorem pl_law (d : PyData) : plD d = (if (!isTup d || (!decide (((items d).length : Int) = 2) || !nmD (at' d 0))) = true then false else if (!isStr (at' d 1)) = true then false else (isStr (at' d 1) && decide (txt (at' d 1) = "")) || (PySem.Txt.split (txt (at' d 1)) c_sl).all isNm) := by
  unfold plD ptD isPt
  cases h1 : isTup d with
  | false => simp
  | true => cases h2 : decide (((items d).length : Int) = 2) <;> cases h3 : nmD (at' d 0) <;> cases h4 : isStr (at' d 1) <;> simp
theorem nodup_one {r : RowX} (hn : (r.map (·.1)).Nodup) {x y : Str × Option PyData} (hx : x ∈ r) (hy : y ∈ r) (e : x.1 = y.1) : x = y := by
  induction r with
  | nil => exact nomatch hx
  | cons p r ih =>
    rw [List.map_cons, List.nodup_cons] at hn
    rcases List.mem_cons.mp hx with e1 | hx
    · rcases List.mem_cons.mp hy with e2 | hy
      · rw [e1, e2]
      · exact absurd (List.mem_map.mpr ⟨y, hy, by rw [← e, e1]⟩) hn.1
    · rcases List.mem_cons.mp hy with e2 | hy
      · exact absurd (List.mem_map.mpr ⟨x, hx, by rw [e, e2]⟩) hn.1
      · exact ih hn.2 hx hy
theorem first_le {ns : List Str} {m : Nat} {z y : Str} (hs : ns.Pairwise leS) (hz : ns[m]? = some z) (hy : y ∈ ns) (hn : y ∉ ns.take m) : leS z y := by
  obtain ⟨k, hk⟩ := List.mem_iff_getElem?.mp hy
  rcases Nat.lt_or_ge k m with hkm | hkm
  · exact absurd (List.mem_iff_getElem?.mpr ⟨k, by rw [List.getElem?_take_of_lt hkm]; exact hk⟩) hn
  · have hk1 : k < ns.length := by
      rcases Nat.lt_or_ge k ns.length with h | h
      · exact h
      · rw [List.getElem?_eq_none h] at hk; cases hk
    have e1 : ns[k] = y := by rw [List.getElem?_eq_getElem hk1] at hk; exact Option.some.inj hk
    have hm1 : m < ns.length := by omega
    have e2 : ns[m] = z := by rw [List.getElem?_eq_getElem hm1] at hz; exact Option.some.inj hz
    rcases Nat.eq_or_lt_of_le hkm with e | hlt
    · subst e; rw [← e1, ← e2]; exact List.le_refl _
    · have := List.pairwise_iff_getElem.mp hs m k hm1 hk1 hlt
      rw [e1, e2] at this; exact this
section
variable {P : Program} {w : World} {K : PySem.W.Frag} {mg : Str → Option Value} {base : Heap} {tk1 tk2 tj tn : Tok}
theorem ok_lplace {f f1 : Addr} {fd fd1 : FuncData} (F : Fun K "_law_is_place" "_law_is_place" s__law_is_place f fd) (T : Txt K mg tk1 tk2) (d_name : DefAt P w K mg base "_law_is_name" 1 f1 fd1 ["_law_thing"] (spName K)) : FnOk P w K mg base CX0 2 f fd ["_law_thing"] (spE plD) := by
  refine FnOk.or ?_ ?_
  · refine F.ok sc__law_is_place (fun vs H Q E h => ?_) (fun cdv A outer s H vs Q E hr h => ?_)
    · obtain ⟨x, d, rfl, _⟩ := h
      rfl
    have hu := hr.units
    refine ⟨_, (pss_cons (ps_if (PW.pt (pw_or (pt_not (pt_val (pe_callB call_isi (by rfl) T.n_isinstance (by decide +kernel) (pa_cons (pv 0) (pa_cons (pe_bltn (v := .ty "tuple") (by rfl) T.n_tuple (by decide +kernel) rfl) pa_nil))))) (pw_or (pt_cmpR op_ne (pe_callB call_len_seq (by rfl) T.n_len (by decide +kernel) (pa_cons (pv 0) pa_nil)) pe_int (nomark _)) (pw_or1 (pt_not (pt_val (pe_callD d_name (hr.mono (by decide)) (pa_cons (pe_ix ix_tup (pv 0) pe_int (fun _ _ => rfl)) pa_nil)))))))) (pss_one (ps_ret pe_bl)) pss_nil)
      (pss_cons (ps_if (pt_not (pt_val (pe_callB call_isi (by rfl) T.n_isinstance (by decide +kernel) (pa_cons (pe_ix ix_tup (pv 0) pe_int (fun _ _ => rfl)) (pa_cons (pe_bltn (v := .ty "str") (by rfl) T.n_str (by decide +kernel) rfl) pa_nil))))) (pss_one (ps_ret pe_bl)) pss_nil)
      (pss_one (ps_ret (pe_or (pe_cmpR (op_eqQ hu) (pe_ix ix_tup (pv 0) pe_int (fun _ _ => rfl)) pe_str (nomark _)) (pe_one (pe_callB (cr_all rfl) (by rfl) T.n_all (by decide +kernel) (pa_cons (pe_lc (own := [("_law_name", 1)]) rfl sc__law_is_place.nd (pi_list (pe_split (pe_ix ix_tup (pv 0) pe_int (fun _ _ => rfl)) pe_str)) (blkOk_by (N := N__law_is_place) (sc := defScope s__law_is_place) (by decide +kernel)) (fun _ _ _ _ _ => pg_name (i := 1) sc__law_is_place.nd rfl (Or.inl rfl)) (fun _ _ _ _ _ => pts_nil) (fun _ _ _ _ _ => (pe_callD d_name (hr.mono (by decide)) (pa_cons (pv 1) pa_nil)))) pa_nil)))))))), ?_⟩
    obtain ⟨x, d, rfl, hd, hq⟩ := h
    have v0 : EvD (tVar 0) [some x, none] H d := evd_var rfl hd
    have c1 : EvT _ [some x, none] H (!isTup d || (!decide (((items d).length : Int) = 2) || !nmD (at' d 0))) := Evl.et_or (Evl.et_not (Evl.et_B (ev_isi (K := K) v0 (kit_tup' d)))) fun h1 =>
      Evl.et_or (Evl.et_test (et_neI (ev_lenD (K := K) v0 (Or.inl (by simpa using h1))) Evl.ev_c)) fun h2 => Evl.et_not (Evl.et_B (ev_nm (K := K) (E := E0) (evd_atT (K := K) (i := 0) v0 (by simpa using h1) (by rw [len2 h2]; omega) Evl.ev_c)))
    rw [pl_law] at hq
    refine Evl.q_when c1 (fun h1 H1 e1 => ?_) (fun h1 H1 e1 => ?_)
    · rw [if_pos h1] at hq
      exact Evl.s_ret Evl.ev_c fun H2 e2 => hq H2 (e1.trans e2)
    rw [if_neg (by rw [h1]; decide)] at hq
    rw [Bool.or_eq_false_iff, Bool.or_eq_false_iff] at h1
    have ht : isTup d = true := by simpa using h1.1
    have hl : (items d).length = 2 := len2 h1.2.1
    have z1 : ∀ H', Ex H H' → EvD (tOp (rIxT K) (tVar 0) (tC (.int 1))) [some x, none] H' (at' d 1) := fun H' e => evd_atT (K := K) (i := 1) (v0.mono e) ht (by omega) Evl.ev_c
    refine Evl.q_when (Evl.et_not (Evl.et_B (ev_isi (z1 H1 e1) (kit_str' _)))) (fun h2 H2 e2 => ?_) (fun h2 H2 e2 => ?_)
    · rw [if_pos h2] at hq
      exact Evl.s_ret Evl.ev_c fun H3 e3 => hq H3 ((e1.trans e2).trans e3)
    rw [if_neg (by rw [h2]; decide)] at hq
    have h2' : isStr (at' d 1) = true := by simpa using h2
    refine Evl.s_ret (Evl.ev_orV (ev_eqE (z1 H2 (e1.trans e2))) fun _ => ?_) fun H3 e3 => hq H3 ((e1.trans e2).trans e3)
    have hlen : (txt (at' d 1)).length ≤ 1000 := by
      obtain ⟨y, _, dy⟩ := z1 H2 (e1.trans e2)
      exact (dy.strE h2').2.1
    exact ev_allParts (K := K) ((z1 H2 (e1.trans e2)).strE h2') hlen (fun _ => rfl)
  · refine F.ok sc__law_is_place (fun vs H Q E h => ?_) (fun cdv A outer s H vs Q E hr h => ?_)
    · obtain ⟨x, rfl, _⟩ := h
      rfl
    have hu := hr.units
    refine ⟨_, (pss_cons (ps_if (PW.pt (pw_or (pt_not (pt_val (pe_callB call_isi (by rfl) T.n_isinstance (by decide +kernel) (pa_cons (pv 0) (pa_cons (pe_bltn (v := .ty "tuple") (by rfl) T.n_tuple (by decide +kernel) rfl) pa_nil))))) (pw_or (pt_cmpR op_ne (pe_callB call_len_seq (by rfl) T.n_len (by decide +kernel) (pa_cons (pv 0) pa_nil)) pe_int (nomark _)) (pw_or1 (pt_not (pt_val (pe_callD d_name (hr.mono (by decide)) (pa_cons (pe_ix ix_tup (pv 0) pe_int (fun _ _ => rfl)) pa_nil)))))))) (pss_one (ps_ret pe_bl)) pss_nil)
      (pss_cons (ps_if (pt_not (pt_val (pe_callB call_isi (by rfl) T.n_isinstance (by decide +kernel) (pa_cons (pe_ix ix_tup (pv 0) pe_int (fun _ _ => rfl)) (pa_cons (pe_bltn (v := .ty "str") (by rfl) T.n_str (by decide +kernel) rfl) pa_nil))))) (pss_one (ps_ret pe_bl)) pss_nil)
      (pss_one (ps_ret (pe_or (pe_cmpR (op_eqQ hu) (pe_ix ix_tup (pv 0) pe_int (fun _ _ => rfl)) pe_str (nomark _)) (pe_one (pe_callB (cr_all rfl) (by rfl) T.n_all (by decide +kernel) (pa_cons (pe_lc (own := [("_law_name", 1)]) rfl sc__law_is_place.nd (pi_list (pe_split (pe_ix ix_tup (pv 0) pe_int (fun _ _ => rfl)) pe_str)) (blkOk_by (N := N__law_is_place) (sc := defScope s__law_is_place) (by decide +kernel)) (fun _ _ _ _ _ => pg_name (i := 1) sc__law_is_place.nd rfl (Or.inl rfl)) (fun _ _ _ _ _ => pts_nil) (fun _ _ _ _ _ => (pe_callD d_name (hr.mono (by decide)) (pa_cons (pv 1) pa_nil)))) pa_nil)))))))), ?_⟩
    obtain ⟨x, rfl, ho, hq⟩ := h
    obtain ⟨t, ht, hk⟩ := ho.ty (K := K)
    exact ⟨_, rfl, x, .ty "tuple", _, _, false, rfl, .ty _, ht, hk, _, rfl, iteT (hq H (Ex.refl H))⟩
theorem ok_due {f f1 f2 f3 : Addr} {fd fd1 fd2 fd3 : FuncData} (F : Fun K "_law_due" "_law_due" s__law_due f fd) (T : Txt K mg tk1 tk2) (d_joint : DefAt P w K mg base "_law_is_joint" 1 f1 fd1 ["_law_thing"] (spE jtD)) (d_name : DefAt P w K mg base "_law_is_name" 1 f2 fd2 ["_law_thing"] (spName K)) (d_place : DefAt P w K mg base "_law_is_place" 2 f3 fd3 ["_law_thing"] (spE plD)) :
    FnOk P w K mg base CX0 3 f fd ["_law_tables", "_law_head"] spTold := by
  refine F.ok sc__law_due (fun vs H Q E h => ?_) (fun cdv A outer s H vs Q E hr h => ?_)
  · obtain ⟨tv, hv, o, hd, rfl, _⟩ := h
    rfl
  have hu := hr.units
  have hu1 := hu_of hr
  refine ⟨_, (pss_cons (ps_if (PW.pt (pw_or (pt_not (pt_val (pe_callB call_isi (by rfl) T.n_isinstance (by decide +kernel) (pa_cons (pv 0) (pa_cons (pe_bltn (v := .ty "dict") (by rfl) T.n_dict (by decide +kernel) rfl) pa_nil))))) (pw_or1 (pt_not (pt_val (pe_callB (cr_all rfl) (by rfl) T.n_all (by decide +kernel) (pa_cons (pe_lock (pe_lc (own := [("_law_joint", 2)]) rfl sc__law_due.nd (pi_keys (pv 0)) (blkOk_by (N := N__law_due) (sc := defScope s__law_due) (by decide +kernel)) (fun _ _ _ _ _ => pg_name (i := 2) sc__law_due.nd rfl (Or.inl rfl)) (fun _ _ _ _ _ => pts_nil) (fun _ _ _ _ _ => (pe_callD d_joint (hr.mono (by decide)) (pa_cons (pv 2) pa_nil))))) pa_nil))))))) (pss_one (ps_ret (pe_tup (pa_cons pe_non (pa_cons pe_non pa_nil))))) pss_nil)
    (pss_cons (ps_if (PW.pt (pw_or (pt_not (pt_val (pe_callD d_joint (hr.mono (by decide)) (pa_cons (pv 1) pa_nil)))) (pw_or1 (pt_cmp (pc_dnotin hu1 (pv 1) (pv 0)))))) (pss_one (ps_ret (pe_tup (pa_cons pe_non (pa_cons pe_non pa_nil))))) pss_nil)
    (pss_cons (ps_for PassesOwn.never rfl (pi_list (pe_callB (call_sortedDI rfl) (by rfl) T.n_sorted (by decide +kernel) (pa_cons (pv 0) pa_nil))) (pg_name (i := 2) sc__law_due.nd rfl (Or.inl rfl)) (pss_cons (ps_set (i := 3) sc__law_due.nd rfl (Or.inl rfl) (pe_dget hu1 (pv 0) (pv 2) (fun _ _ => rfl)))
    (pss_cons (ps_if (PW.pt (pw_or (pt_not (pt_val (pe_callB call_isi (by rfl) T.n_isinstance (by decide +kernel) (pa_cons (pv 3) (pa_cons (pe_bltn (v := .ty "dict") (by rfl) T.n_dict (by decide +kernel) rfl) pa_nil))))) (pw_or1 (pt_not (pt_val (pe_callB (cr_all rfl) (by rfl) T.n_all (by decide +kernel) (pa_cons (pe_lock (pe_lc (own := [("_law_name", 4)]) rfl sc__law_due.nd (pi_keys (pv 3)) (blkOk_by (N := N__law_due) (sc := defScope s__law_due) (by decide +kernel)) (fun _ _ _ _ _ => pg_name (i := 4) sc__law_due.nd rfl (Or.inl rfl)) (fun _ _ _ _ _ => pts_nil) (fun _ _ _ _ _ => (pe_callD d_name (hr.mono (by decide)) (pa_cons (pv 4) pa_nil))))) pa_nil))))))) (pss_one (ps_ret (pe_tup (pa_cons (pv 2) (pa_cons pe_non pa_nil))))) pss_nil)
    (pss_one (ps_for PassesOwn.never rfl (pi_list (pe_callB (call_sortedD rfl) (by rfl) T.n_sorted (by decide +kernel) (pa_cons (pv 3) pa_nil))) (pg_name (i := 4) sc__law_due.nd rfl (Or.inl rfl)) (pss_cons (ps_set (i := 5) sc__law_due.nd rfl (Or.inl rfl) (pe_dget hu1 (pv 3) (pv 4) (fun _ _ => rfl)))
    (pss_one (ps_if (PW.pt (pw_and (pt_not (PW.pt (pw_and (pt_val (pe_callD d_joint (hr.mono (by decide)) (pa_cons (pv 5) pa_nil))) (pw_and1 (pt_cmp (pc_din hu1 (pv 5) (pv 0))))))) (pw_and1 (pt_not (pt_val (pe_callD d_place (hr.mono (by decide)) (pa_cons (pv 5) pa_nil))))))) (pss_one (ps_ret (pe_tup (pa_cons (pv 2) (pa_cons (pv 4) pa_nil))))) pss_nil))))))))
    (pss_one (ps_ret pe_non))))), ?_⟩
  obtain ⟨tv, hv, o, hd, rfl, htb, hw, hhd, hq⟩ := h
  have isd : ∀ {σ : L2.St} {i : Nat} {a : Addr} {H1 : Hp} {kv : List (Key × V)}, σ[i]? = some (some (.ref a)) → H1 a = some (.dK kv) → Ev (tCB (rIsi K) (tCons (tVar i) (tCons (tC (.ty "dict")) tNil))) σ H1 (.bl true) := fun hi ha =>
    Evl.ev_cb (vs := [.ref _, .ty "dict"]) (Evl.ea_cons (Evl.ev_var hi) (Evl.ea_cons Evl.ev_c Evl.ea_nil)) fun H1 e Q q => ⟨_, .ty "dict", _, _, true, rfl, .ty _, .base (.dK (e _ _ ha)), kit_ty (by decide +kernel), q H1 (Ex.refl H1)⟩
  cases o with
  | none =>
    obtain ⟨ty, hty, hk⟩ := NotD.ty (K := K) (show NotD H tv from htb)
    have hdue : Due hd none (some (none, none)) := Or.inl ⟨rfl, rfl⟩
    refine ⟨_, rfl, _, .ty "dict", _, _, false, rfl, .ty _, hty, hk, ?_⟩
    exact ⟨_, rfl, iteT (iteT ⟨by show 2 ≤ sizeLine; decide, fun q hq' => hq _ (.ref q) _ hdue (Ex.new hq') ⟨q, rfl, upd_same⟩⟩)⟩
  | some l =>
  obtain ⟨t, kvs, rfl, ht, heach⟩ := htb
  obtain ⟨hnd, hl14, hok, hrows⟩ := hw l rfl
  have hkeys : kvs.map (·.1) = l.map (·.1) := each_map (fun a c h => h.1) heach
  have hlen : kvs.length = l.length := heach.length
  have hall : (kvs.map (·.1)).all keyJ = l.all fun x => keyJ x.1 := by rw [hkeys, List.all_map]; rfl
  refine Evl.q_when (b := !(l.all fun x => keyJ x.1)) (Evl.et_is (Evl.et_or (a := false) (b := !(l.all fun x => keyJ x.1)) (Evl.et_is (Evl.et_not (Evl.et_B (isd rfl ht))) rfl) fun _ => Evl.et_is (Evl.et_not (Evl.et_B (ev_lockAll (K := K) (kvs := kvs) (tVar 0) (Evl.ev_var rfl) (fun _ _ _ => Evl.ev_var rfl) ht (by omega) keyJ fun k hk od H1 e1 => ?_))) (by rw [hall])) rfl) (fun hb H1 e1 => ?_) fun hb H1 e1 => ?_
  · rw [hkeys] at hk
    obtain ⟨x, hx, rfl⟩ := List.mem_map.mp hk
    exact Evl.ev_is (ev_callE (g := jtD) (o := some (keyP x.1)) (Evl.ev_var rfl) (key_dq (hok x hx))) (by show V.bl (jtD (keyP x.1)) = _; rw [key_jt])
  · exact ⟨by show 2 ≤ sizeLine; decide, fun q hq' => hq _ (.ref q) _ (Or.inl ⟨by show (_ || _) = true; rw [hb]; rfl, rfl⟩) (e1.trans (Ex.new hq')) ⟨q, rfl, upd_same⟩⟩
  have hj : (l.all fun x => keyJ x.1) = true := by simpa using hb
  have ht1 := e1 _ _ ht
  refine Evl.q_when (b := !(jtD hd && hasK (l.map (·.1)) (num hd))) (Evl.et_is (Evl.et_or (a := !jtD hd) (b := !hasK (l.map (·.1)) (num hd)) (Evl.et_not (Evl.et_B (ev_callE (g := jtD) (o := some hd) (Evl.ev_var rfl) (Dq.same e1 _ _ hhd)))) fun h1 => Evl.et_B fun H2 e2 Q q => ?_) (by cases jtD hd <;> simp)) (fun hb2 H2 e2 => ?_) fun hb2 H2 e2 => ?_
  · have hj : jtD hd = true := by simpa using h1
    unfold jtD at hj
    obtain ⟨h2, h3⟩ := intD_iff (Bool.and_eq_true_iff.mp hj).1
    obtain ⟨rfl, _⟩ := Dq.intE hhd h2 h3
    refine ⟨_, rfl, _, rfl, t, _, rfl, DGet.k (k := .inl (num hd)) (e2 _ _ ht1), ?_⟩
    have := q H2 (Ex.refl H2)
    rw [← hkeys, ← has_val] at this
    exact this
  · exact ⟨by show 2 ≤ sizeLine; decide, fun q hq' => hq _ (.ref q) _ (Or.inl ⟨by show (_ || _) = true; rw [hj, hb2]; rfl, rfl⟩) ((e1.trans e2).trans (Ex.new hq')) ⟨q, rfl, upd_same⟩⟩
  have hbad : bad hd (some l) = false := by
    show (_ || _) = false
    rw [hj, hb2]; rfl
  have x2 : Ex H H2 := e1.trans e2
  have ht2 := x2 _ _ ht
  obtain ⟨js, hjs⟩ := keys_int (ks := l.map (·.1)) (by rw [List.all_map]; exact hj)
  have hjn : js.Nodup := by
    rw [hjs] at hnd
    exact nodup_of_map hnd
  have hjl : js.length ≤ 14 := by
    have := congrArg List.length hjs
    rw [List.length_map, List.length_map] at this; omega
  refine ⟨_, rfl, t, kvs, js, rfl, Rd.of ht2, by rw [hkeys, hjs], by omega, fun ys p hperm hpw hp => ⟨p, rfl, ⟨_, SqL.of upd_same⟩, ?_⟩⟩
  have x3 : Ex H (upd H2 p (.lst (ys.map V.int))) := x2.trans (Ex.new hp)
  have hp3 : (upd H2 p (.lst (ys.map V.int))) p = some (.lst (ys.map V.int)) := upd_same
  generalize upd H2 p (.lst (ys.map V.int)) = H3 at *
  refine for_it (walk_list (xs := ys.map V.int)) (fun i σ' H' => ∃ v2 v3 v4 v5, σ' = [some (.ref t), some hv, v2, v3, v4, v5] ∧ Ex H3 H' ∧ ∀ x ∈ l, ∀ a, x.1 = Sum.inl a → a ∈ ys.take i → rowG (l.map (·.1)) x.2 = true) ⟨_, _, _, _, rfl, Ex.refl H3, fun x _ a _ h => nomatch h⟩ (fun i σ' H' _ ⟨_, _, _, _, _, e, _⟩ => SqL.of (e _ _ hp3)) ?_ ?_
  · rintro i x σ' H4' H4 hi ⟨v2, v3, v4, v5, rfl, e4, hgood⟩ ⟨rfl, hxi⟩
    rw [List.getElem?_map] at hxi
    obtain ⟨j, hji, rfl⟩ := Option.map_eq_some_iff.mp hxi
    have hjy := List.mem_of_getElem? hji
    have hjk : (Sum.inl j : Key) ∈ kvs.map (·.1) := by rw [hkeys, hjs]; exact List.mem_map.mpr ⟨j, hperm.mem_iff.mp hjy, rfl⟩
    obtain ⟨v, hvv, hm⟩ := val_some hjk
    obtain ⟨y, hy, hy1, hrw, hne⟩ := each_mem heach _ hm
    obtain ⟨yk, row⟩ := y
    cases (show Sum.inl j = yk from hy1)
    have x4 : Ex H H4 := x3.trans e4
    have ht4 := x4 _ _ ht
    have below : ∀ x ∈ l, ∀ a, x.1 = Sum.inl a → a < j → rowG (l.map (·.1)) x.2 = true := fun x hx a ea hlt => by
      refine hgood x hx a ea (below_take hpw hji (hperm.mem_iff.mpr ?_) hlt)
      have : (Sum.inl a : Key) ∈ js.map Sum.inl := by rw [← hjs, ← ea]; exact List.mem_map.mpr ⟨x, hx, rfl⟩
      obtain ⟨a', h1, h2⟩ := List.mem_map.mp this
      rw [← Sum.inl.inj h2]; exact h1
    have next : rowG (l.map (·.1)) row = true → ∀ x ∈ l, ∀ a, x.1 = Sum.inl a → a ∈ ys.take (i + 1) → rowG (l.map (·.1)) x.2 = true := fun hg x hx a ea hm => by
      rw [List.take_add_one, hji] at hm
      rcases List.mem_append.mp hm with hm | hm
      · exact hgood x hx a ea hm
      · have : a = j := by simpa using hm
        subst this
        obtain ⟨xk, xr⟩ := x
        cases (show xk = Sum.inl a from ea)
        rw [mem_one hnd hx hy]; exact hg
    have raise : ∀ n, RowDue (l.map (·.1)) row n → rowG (l.map (·.1)) row = false → Due hd (some l) (some (some j, n)) := fun n h1 h2 => Or.inr ⟨hbad, l, rfl, Or.inr ⟨j, row, n, hy, rfl, h1, h2, below⟩⟩
    refine Evl.q_asg (v := v) (fun H5 e5 Q q => ?_) fun H5 e5 => ?_
    · have dg := DGet.k (k := .inl j) (e5 _ _ ht4)
      rw [hvv] at dg
      exact ⟨_, rfl, _, rfl, t, _, rfl, dg, q H5 (Ex.refl H5)⟩
    have x5 : Ex H H5 := x4.trans e5
    cases row with
    | none =>
      obtain ⟨ty, hty, hk⟩ := NotD.ty (K := K) (show NotD H5 v from NotD.same hrw x5)
      refine ⟨_, rfl, _, .ty "dict", _, _, false, rfl, .ty _, hty, hk, ?_⟩
      refine ⟨_, rfl, iteT (iteT ?_)⟩
      exact ⟨_, rfl, by show 2 ≤ sizeLine; decide, fun q hq' => hq _ (.ref q) _ (raise none rfl rfl) (x5.trans (Ex.new hq')) ⟨q, rfl, upd_same⟩⟩
    | some r =>
    obtain ⟨e, ekvs, rfl, he0, hrow⟩ := hrw
    obtain ⟨hrn, hrl, hrt⟩ := hrows _ hy r rfl
    have he5 := x5 _ _ he0
    have hek : ekvs.map (·.1) = (r.map (·.1)).map Sum.inr := by
      rw [List.map_map]
      exact each_map (fun a c h => h.1) hrow
    have hel : ekvs.length ≤ 14 := by rw [hrow.length]; exact hrl
    have hnm : (ekvs.map (·.1)).all (fun k => nmD (keyP k)) = nmX r := by
      rw [hek, List.all_map, List.all_map]; rfl
    refine Evl.q_when (b := !nmX r) (Evl.et_is (Evl.et_or (a := false) (b := !nmX r) (Evl.et_is (Evl.et_not (Evl.et_B (isd rfl he5))) rfl) fun _ => Evl.et_is (Evl.et_not (Evl.et_B (ev_lockAll (K := K) (kvs := ekvs) (tVar 3) (Evl.ev_var rfl) (fun _ _ _ => Evl.ev_var rfl) he5 (by omega) (fun k => nmD (keyP k)) fun k hk od H6 e6 => ?_))) (by rw [hnm])) rfl) (fun hb3 H6 e6 => ?_) fun hb3 H6 e6 => ?_
    · rw [hek] at hk
      obtain ⟨z, hz, rfl⟩ := List.mem_map.mp hk
      obtain ⟨y', hy', rfl⟩ := List.mem_map.mp hz
      exact ev_nm (K := K) (E := E0) (evd_var rfl (key_dq (k := .inr y'.1) (hrt y' hy')))
    · have hn0 : nmX r = false := by simpa using hb3
      exact ⟨_, rfl, by show 2 ≤ sizeLine; decide, fun q hq' => hq _ (.ref q) _ (raise none (Or.inl ⟨hn0, rfl⟩) (by show (_ && _) = false; rw [hn0]; rfl)) ((x5.trans e6).trans (Ex.new hq')) ⟨q, rfl, upd_same⟩⟩
    have hn1 : nmX r = true := by simpa using hb3
    have x6 : Ex H H6 := x5.trans e6
    have he6 := x6 _ _ he0
    refine ⟨_, rfl, e, ekvs, r.map (·.1), rfl, Rd.of he6, hek, by rw [List.length_map]; omega, fun ns p2 hperm2 hsort hp2 => ⟨p2, rfl, ⟨_, SqL.of upd_same⟩, ?_⟩⟩
    have x7 : Ex H (upd H6 p2 (.lst (ns.map V.str))) := x6.trans (Ex.new hp2)
    have e67 : Ex H6 (upd H6 p2 (.lst (ns.map V.str))) := Ex.new hp2
    have hp7 : (upd H6 p2 (.lst (ns.map V.str))) p2 = some (.lst (ns.map V.str)) := upd_same
    generalize upd H6 p2 (.lst (ns.map V.str)) = H7 at *
    have hspw := sorted_pw hsort
    refine for_it (walk_list (xs := ns.map V.str)) (fun m σ' H' => ∃ v4 v5, σ' = [some (.ref t), some hv, some (.int j), some (.ref e), v4, v5] ∧ Ex H7 H' ∧ ∀ y ∈ r, y.1 ∈ ns.take m → tgX (l.map (·.1)) y.2 = true) ⟨_, _, rfl, Ex.refl H7, fun y _ h => nomatch h⟩ (fun m σ' H' _ ⟨_, _, _, e, _⟩ => SqL.of (e _ _ hp7)) ?_ ?_
    · rintro m x σ'' H8' H8 hm8 ⟨v4', v5', rfl, e8, hgood8⟩ ⟨rfl, hxm⟩
      rw [List.getElem?_map] at hxm
      obtain ⟨z, hz, rfl⟩ := Option.map_eq_some_iff.mp hxm
      have hzr : z ∈ r.map (·.1) := hperm2.mem_iff.mp (List.mem_of_getElem? hz)
      have hzk : (Sum.inr z : Key) ∈ ekvs.map (·.1) := by rw [hek]; exact List.mem_map.mpr ⟨z, hzr, rfl⟩
      obtain ⟨u, huv, hum⟩ := val_some hzk
      obtain ⟨y', hy', h1, h2, h3⟩ := each_mem hrow _ hum
      obtain ⟨yz, yo⟩ := y'
      cases (show Sum.inr z = Sum.inr yz from h1)
      have x8 : Ex H H8 := x7.trans e8
      refine Evl.q_asg (v := u) (fun H9 e9 Q q => ?_) fun H9 e9 => ?_
      · have dg := DGet.k (k := .inr z) (e9 _ _ (x8 _ _ he0))
        rw [huv] at dg
        exact ⟨_, rfl, _, rfl, e, _, rfl, dg, q H9 (Ex.refl H9)⟩
      have x9 : Ex H H9 := x8.trans e9
      have ho9 : El H9 u yo := h2.same x9
      have etg : (!(elG jtD yo && hasK (l.map (·.1)) (match yo with | some d => num d | none => 0)) && !elG plD yo) = !tgX (l.map (·.1)) yo := by
        cases yo with
        | none => rfl
        | some d =>
          show (!(jtD d && hasK (l.map (·.1)) (num d)) && !plD d) = !(plD d || (jtD d && hasK (l.map (·.1)) (num d)))
          cases plD d <;> cases (jtD d && hasK (l.map (·.1)) (num d)) <;> rfl
      refine Evl.s_when (b := !tgX (l.map (·.1)) yo) (Evl.et_is (Evl.et_and (Evl.et_not (Evl.et_and (Evl.et_B (ev_callE (g := jtD) (Evl.ev_var rfl) ho9)) fun g1 => Evl.et_B fun H10 e10 Q q => ?_)) fun g2 => Evl.et_not (Evl.et_B (ev_callE (g := plD) (Evl.ev_var rfl) ho9))) etg) (fun hb4 H10 e10 => ?_) fun hb4 H10 e10 => ?_
      · cases yo with
        | none => cases g1
        | some d =>
          have hj : jtD d = true := g1
          unfold jtD at hj
          obtain ⟨q2, q3⟩ := intD_iff (Bool.and_eq_true_iff.mp hj).1
          obtain ⟨rfl, _⟩ := Dq.intE ho9 q2 q3
          refine ⟨_, rfl, _, rfl, t, _, rfl, DGet.k (k := .inl (num d)) (e10 _ _ (x9 _ _ ht)), ?_⟩
          rw [has_val, hkeys]
          exact q H10 (Ex.refl H10)
      · have htf : tgX (l.map (·.1)) yo = false := by simpa using hb4
        refine ⟨_, rfl, _, rfl, by show 2 ≤ sizeLine; decide, fun q hq' => hq _ (.ref q) _ (raise (some z) (Or.inr ⟨hn1, z, rfl, ⟨_, hy', rfl, htf⟩, fun y hy hty => ?_⟩) ?_) ((x9.trans e10).trans (Ex.new hq')) ⟨q, rfl, upd_same⟩⟩
        · refine first_le hspw hz (hperm2.mem_iff.mpr (List.mem_map.mpr ⟨y, hy, rfl⟩)) fun hin => ?_
          rw [hgood8 y hy hin] at hty; cases hty
        · show (_ && _) = false
          rw [Bool.and_eq_false_iff]
          exact Or.inr (List.all_eq_false.mpr ⟨_, hy', by rw [htf]; decide⟩)
      · have htt : tgX (l.map (·.1)) yo = true := by simpa using hb4
        refine ⟨_, _, rfl, (e8.trans e9).trans e10, fun y hy hin => ?_⟩
        rw [List.take_add_one, hz] at hin
        rcases List.mem_append.mp hin with hin | hin
        · exact hgood8 y hy hin
        · have ez : y.1 = z := by simpa using hin
          have : y = (z, yo) := nodup_one hrn hy hy' ez
          rw [this]; exact htt
    · rintro σ'' H8 ⟨v4', v5', rfl, e8, hgood8⟩
      rw [List.length_map, List.take_length] at hgood8
      refine ⟨_, _, _, _, rfl, (((e4.trans e5).trans e6).trans e67).trans e8, next ?_⟩
      show (_ && _) = true
      rw [hn1, Bool.true_and, List.all_eq_true]
      exact fun y hy => hgood8 y hy (hperm2.mem_iff.mpr (List.mem_map.mpr ⟨y, hy, rfl⟩))
  · rintro σ' H4 ⟨v2, v3, v4, v5, rfl, e4, hgood⟩
    refine hq none .non H4 (Or.inr ⟨hbad, l, rfl, Or.inl ⟨rfl, fun x hx => ?_⟩⟩) (x3.trans e4) rfl
    rw [List.length_map, List.take_length] at hgood
    have hxk : x.1 ∈ js.map Sum.inl := by rw [← hjs]; exact List.mem_map.mpr ⟨x, hx, rfl⟩
    obtain ⟨a, ha, ea⟩ := List.mem_map.mp hxk
    exact hgood x hx a ea.symm (hperm.mem_iff.mpr ha)
end
end KD

set_option Elab.async false
set_option linter.all false
set_option maxRecDepth 100000
set_option maxHeartbeats 8000000
namespace KD
open PySem PySem.Spec PyProof.Rows L2 LF
open Evl (Ev EvL EvU EvT EvA EvO Ex sq_of st_of)
open PySem.W (EachIs)
/-! tables of any values, as they are made -/
def RowP (n : Nat) (W : Hp) (ekvs : List (Key × V)) : Prop := (ekvs.map (·.1)).Nodup ∧ ekvs.length ≤ n ∧ ∀ kv ∈ ekvs, ∃ z o, kv.1 = Sum.inr z ∧ okT z ∧ El W kv.2 o
def RowV (n : Nat) (W : Hp) (v : V) : Prop := ∃ e ekvs, v = .ref e ∧ W e = some (.dK ekvs) ∧ RowP n W ekvs ∧ ∀ kv ∈ ekvs, kv.2 ≠ .ref e
def TabP (n m : Nat) (W : Hp) (kvs : List (Key × V)) : Prop := (kvs.map (·.1)).Nodup ∧ kvs.length ≤ n ∧ ∀ kv ∈ kvs, okK kv.1 ∧ (NotD W kv.2 ∨ RowV m W kv.2)
def TabV (n m : Nat) (W : Hp) (v : V) : Prop := ∃ t kvs, v = .ref t ∧ W t = some (.dK kvs) ∧ TabP n m W kvs ∧ ∀ kv ∈ kvs, kv.2 ≠ .ref t
def ResV (n m : Nat) (W : Hp) (v : V) : Prop := NotD W v ∨ TabV n m W v
theorem RowP.same {n : Nat} {W W' : Hp} {e : List (Key × V)} (h : RowP n W e) (s : Ex W W') : RowP n W' e := ⟨h.1, h.2.1, fun kv hkv => by
  obtain ⟨z, o, h1, h2, h3⟩ := h.2.2 kv hkv
  exact ⟨z, o, h1, h2, h3.same s⟩⟩
theorem RowP.more {n m : Nat} {W : Hp} {e : List (Key × V)} (h : RowP n W e) (l : n ≤ m) : RowP m W e := ⟨h.1, Nat.le_trans h.2.1 l, h.2.2⟩
theorem RowV.same {n : Nat} {W W' : Hp} {v : V} (h : RowV n W v) (s : Ex W W') : RowV n W' v := by
  obtain ⟨e, ekvs, h1, h2, h3, h4⟩ := h
  exact ⟨e, ekvs, h1, s _ _ h2, h3.same s, h4⟩
theorem RowV.more {n m : Nat} {W : Hp} {v : V} (h : RowV n W v) (l : n ≤ m) : RowV m W v := by
  obtain ⟨e, ekvs, h1, h2, h3, h4⟩ := h
  exact ⟨e, ekvs, h1, h2, h3.more l, h4⟩
theorem TabP.same {n m : Nat} {W W' : Hp} {k : List (Key × V)} (h : TabP n m W k) (s : Ex W W') : TabP n m W' k := ⟨h.1, h.2.1, fun kv hkv => ⟨(h.2.2 kv hkv).1, (h.2.2 kv hkv).2.imp (fun q => q.same s) fun q => q.same s⟩⟩
theorem TabP.more {n m n' m' : Nat} {W : Hp} {k : List (Key × V)} (h : TabP n m W k) (l : n ≤ n') (l' : m ≤ m') : TabP n' m' W k := ⟨h.1, Nat.le_trans h.2.1 l, fun kv hkv => ⟨(h.2.2 kv hkv).1, (h.2.2 kv hkv).2.imp id fun q => q.more l'⟩⟩
theorem TabV.same {n m : Nat} {W W' : Hp} {v : V} (h : TabV n m W v) (s : Ex W W') : TabV n m W' v := by
  obtain ⟨e, ekvs, h1, h2, h3, h4⟩ := h
  exact ⟨e, ekvs, h1, s _ _ h2, h3.same s, h4⟩
theorem ResV.same {n m : Nat} {W W' : Hp} {v : V} (h : ResV n m W v) (s : Ex W W') : ResV n m W' v := h.imp (fun q => q.same s) fun q => q.same s
theorem RowP.put {n : Nat} {W : Hp} {e : List (Key × V)} {z : Str} {v : V} {o : Option PyData} (h : RowP n W e) (hz : okT z) (ho : El W v o) : RowP (n + 1) W (putK e (.inr z) v) :=
  ⟨nodup_put h.1, Nat.le_trans len_put (Nat.succ_le_succ h.2.1), fun kv hkv => by
    rcases mem_put hkv with e1 | h1
    · rw [e1]; exact ⟨z, o, rfl, hz, ho⟩
    · exact h.2.2 kv h1⟩
theorem TabP.put {n m : Nat} {W : Hp} {t : List (Key × V)} {k : Key} {v : V} (h : TabP n m W t) (hk : okK k) (hv : NotD W v ∨ RowV m W v) : TabP (n + 1) m W (putK t k v) :=
  ⟨nodup_put h.1, Nat.le_trans len_put (Nat.succ_le_succ h.2.1), fun kv hkv => by
    rcases mem_put hkv with e1 | h1
    · rw [e1]; exact ⟨hk, hv⟩
    · exact h.2.2 kv h1⟩
theorem El.ref_in {W : Hp} {a : Addr} {o : Option PyData} (h : El W (.ref a) o) : ∃ u, W a = some u := by
  cases o with
  | some d =>
    have h : Dq W (.ref a) d := h
    cases h with
    | lst h1 _ _ => exact ⟨_, h1⟩
    | tup h1 _ _ => exact ⟨_, h1⟩
  | none =>
    obtain ⟨b, e, h⟩ := h
    cases e
    rcases h with ⟨xs, h⟩ | ⟨xs, h⟩
    · exact ⟨_, h⟩
    · exact ⟨_, h⟩
theorem NotD.ref_in {W : Hp} {a : Addr} (h : NotD W (.ref a)) : ∃ u, W a = some u := by
  rcases h with ⟨d, h⟩ | ⟨b, xs, e, h⟩
  · exact El.ref_in (o := some d) h
  · cases e; exact ⟨_, h⟩
/-! as they are asked -/
theorem RowV.x {W : Hp} {v : V} (h : RowV 14 W v) : ∃ r, RwX W v (some r) ∧ RowW r := by
  obtain ⟨e, ekvs, rfl, h1, h2, h3⟩ := h
  obtain ⟨r, hr⟩ := each_of (R := fun (kv : Key × V) (x : Str × Option PyData) => kv.1 = Sum.inr x.1 ∧ El W kv.2 x.2 ∧ kv.2 ≠ .ref e ∧ okT x.1) (xs := ekvs) fun kv hkv => by
    obtain ⟨z, o, a1, a2, a3⟩ := h2.2.2 kv hkv
    exact ⟨(z, o), a1, a3, h3 kv hkv, a2⟩
  have ek : ekvs.map (·.1) = (r.map (·.1)).map Sum.inr := by
    rw [List.map_map]
    exact each_map (fun a b h => h.1) hr
  refine ⟨r, ⟨e, ekvs, rfl, h1, hr.mono fun kv x h => ⟨h.1, h.2.1, h.2.2.1⟩⟩, ?_, by rw [← hr.length]; exact h2.2.1, fun y hy => ?_⟩
  · have := h2.1
    rw [ek] at this
    exact nodup_of_map this
  · obtain ⟨kv, _, h⟩ := each_back hr y hy
    exact h.2.2.2
theorem TabV.x {W : Hp} {t : Addr} {kvs : List (Key × V)} (h1 : W t = some (.dK kvs)) (h2 : TabP 14 14 W kvs) (h3 : ∀ kv ∈ kvs, kv.2 ≠ .ref t) : ∃ l, TbX W (.ref t) (some l) ∧ TabW' l ∧ l.map (·.1) = kvs.map (·.1) ∧ EachIs (fun (kv : Key × V) (x : Key × Option RowX) => kv.1 = x.1 ∧ RwX W kv.2 x.2) kvs l := by
  obtain ⟨l, hl⟩ := each_of (R := fun (kv : Key × V) (x : Key × Option RowX) => kv.1 = x.1 ∧ RwX W kv.2 x.2 ∧ kv.2 ≠ .ref t ∧ okK x.1 ∧ ∀ r, x.2 = some r → RowW r) (xs := kvs) fun kv hkv => by
    obtain ⟨a1, a2⟩ := h2.2.2 kv hkv
    rcases a2 with a2 | a2
    · exact ⟨(kv.1, none), rfl, a2, h3 kv hkv, a1, fun r h => nomatch h⟩
    · obtain ⟨r, b1, b2⟩ := a2.x
      exact ⟨(kv.1, some r), rfl, b1, h3 kv hkv, a1, fun r' h => by cases h; exact b2⟩
  have ek : l.map (·.1) = kvs.map (·.1) := (each_map (fun a b h => h.1) hl).symm
  refine ⟨l, ⟨t, kvs, rfl, h1, hl.mono fun kv x h => ⟨h.1, h.2.1, h.2.2.1⟩⟩, ⟨by rw [ek]; exact h2.1, by rw [← hl.length]; exact h2.2.1, fun x hx => ?_, fun x hx r hr => ?_⟩, ek, hl.mono fun kv x h => ⟨h.1, h.2.1⟩⟩
  · obtain ⟨kv, _, h⟩ := each_back hl x hx
    exact h.2.2.2.1
  · obtain ⟨kv, _, h⟩ := each_back hl x hx
    exact h.2.2.2.2 r hr
end KD

set_option Elab.async false
set_option linter.all false
set_option maxRecDepth 100000
set_option maxHeartbeats 32000000
namespace KD
open PySem PySem.Spec PyProof.Rows L2 LF
open Evl (Ev EvL EvU EvT EvA EvO Ex sq_of st_of)
open PySem.W (EachIs)
abbrev s__law_spoilt : Stmt := topS 32
abbrev N__law_spoilt : List Str := ["_law_bag_here", "_law_tables", "_law_head", "_law_way", "_law_joint", "_law_found", "_law_one", "_law_word", "_law_table", "_law_odd", "_law_name"]
theorem sc__law_spoilt : FnScope ["_law_bag_here", "_law_tables", "_law_head", "_law_way", "_law_joint", "_law_found", "_law_one", "_law_word", "_law_table", "_law_odd", "_law_name"] ["_law_bag_here", "_law_tables", "_law_head"] (defScope s__law_spoilt) := ⟨rfl, rfl, rfl, by decide +kernel, rfl, by decide +kernel, by decide +kernel⟩
def spSpoilt : Sp := fun vs H Q _ => ∃ (b t : Addr) (hv : V) (N n m : Nat) (kvs : List (Key × V)) (js : List Int) (hd : PyData), vs = [.ref b, .ref t, hv] ∧ BagC H b N ∧ N + 10 ≤ 900000 ∧ t ≠ b ∧ H t = some (.dK kvs) ∧ kvs.map (·.1) = js.map Sum.inl ∧ js.Nodup ∧ (∀ j ∈ js, 0 ≤ j ∧ j < 1000) ∧ 1 ≤ js.length ∧ js.length ≤ n ∧ n ≤ 13 ∧ m ≤ 13 ∧
  (∀ kv ∈ kvs, RowV m (wo [b] H) kv.2) ∧ Dq (wo [b] H) hv hd ∧ ∀ H' q M fv hv' hd', M ≤ N + 10 → Keep b H H' → BagC H' b M → q ≠ b → H' q = some (.tup [fv, hv']) → ResV (n + 1) (m + 1) (wo [b] H') fv → Dq (wo [b] H') hv' hd' → Q (.ref q) H'
theorem paired_map {α β γ : Type} {F : α → β → Prop} {f : γ → α} {g : γ → β} : ∀ {l : List γ}, (∀ c ∈ l, F (f c) (g c)) → Paired F (l.map f) (l.map g)
  | [], _ => .nil
  | c :: l, h => .cons (h c List.mem_cons_self) (paired_map fun d hd => h d (List.mem_cons_of_mem _ hd))
theorem none_mem {kvs : List (Key × V)} {k : Key} {u : V} (h : valV kvs k = none) : (k, u) ∉ kvs := fun hm => by
  unfold valV at h
  rw [Option.map_eq_none_iff, List.find?_eq_none] at h
  exact h _ hm (by simp)
theorem merge_app : ∀ {kvs acc : List (Key × V)}, (kvs.map (·.1)).Nodup → (∀ kv ∈ kvs, valV acc kv.1 = none) → mergeK acc kvs = acc ++ kvs
  | [], acc, _, _ => by rw [List.append_nil]; rfl
  | p :: r, acc, h, hn => by
    rw [List.map_cons, List.nodup_cons] at h
    rw [merge_cons, putK_new _ (hn p List.mem_cons_self), merge_app h.2 fun kv hkv => ?_, List.append_assoc]
    · rfl
    · cases hv : valV (acc ++ [(p.1, p.2)]) kv.1 with
      | none => rfl
      | some u =>
        have hm := val_mem hv
        rcases List.mem_append.mp hm with hm | hm
        · have h1 := hn kv (List.mem_cons_of_mem _ hkv)
          exact absurd hm (none_mem h1)
        · have e0 := List.mem_singleton.mp hm
          have e : kv.1 = p.1 := by injection e0
          exact absurd (List.mem_map.mpr ⟨kv, hkv, e⟩) h.1
/-- a value that is no dict, one that is data, one that is data or a list or a dict -/
def GN (B : List Addr) : V → Hp → Prop := fun x H => NotD (wo B H) x
theorem gn_stb {B : List Addr} : Stb B (GN B) := fun x H H' h k => NotD.same h (wo_keepB k)
theorem gd_gn {B : List Addr} {x : V} {H : Hp} (h : Gd B x H) : GN B x H := Or.inl h
theorem ls_gn {B : List Addr} {n : Nat} {x : V} {H : Hp} (h : Ls (fun _ _ => True) B n x H) : GN B x H := by
  obtain ⟨p, xs, e, np, h, _⟩ := h
  exact Or.inr ⟨p, xs, e, wo_put np h⟩
def GKs (ks : List Key) : V → Hp → Prop := fun x _ => ∃ k ∈ ks, x = kV k
theorem gk_stb {B : List Addr} {ks : List Key} : Stb B (GKs ks) := fun _ _ _ h _ => h
def GT : V → Hp → Prop := fun x _ => ∃ z, x = .str z ∧ okT z
theorem gt_stb {B : List Addr} : Stb B GT := fun _ _ _ h _ => h
theorem ek_pow {b : Addr} {B : List Addr} {σ : L2.St} {H : Hp} {i j : Int} (h : CPow i j) : EK b B 0 (tOp (rI CPow fun i j => .int (i ^ j.toNat)) (tC (.int i)) (tC (.int j))) σ H (Gd B) := fun N H1 l k g Q q => ⟨i, j, rfl, rfl, h, q _ H1 N (Nat.le_refl _) (Keep.refl b H1) g ⟨_, .int _⟩⟩
theorem ev_ifZ {c : Bool} {A B : Prop} (h1 : c = true → A) (h2 : c = false → B) : if c = true then A else B := by
  cases c with
  | true => exact iteT (h1 rfl)
  | false => exact iteF (h2 rfl)
theorem paired_mono {α β : Type} {F G : α → β → Prop} : ∀ {xs : List α} {ys : List β}, Paired F xs ys → (∀ a b, F a b → G a b) → Paired G xs ys
  | _, _, .nil, _ => .nil
  | _, _, .cons h t, k => .cons (k _ _ h) (paired_mono t k)
theorem keys_str {n : Nat} {W : Hp} {ekvs : List (Key × V)} (h : RowP n W ekvs) : ∃ ns : List Str, ekvs.map (·.1) = ns.map Sum.inr ∧ ∀ z ∈ ns, okT z := by
  have h2 := h.2.2
  clear h
  revert h2
  induction ekvs with
  | nil => intro _; exact ⟨[], rfl, fun _ h => nomatch h⟩
  | cons kv r ih =>
    intro h
    obtain ⟨z, o, h1, h2, _⟩ := h kv List.mem_cons_self
    obtain ⟨ns, e, hn⟩ := ih fun x hx => h x (List.mem_cons_of_mem _ hx)
    refine ⟨z :: ns, by rw [List.map_cons, List.map_cons, h1, e], fun y hy => ?_⟩
    rcases List.mem_cons.mp hy with rfl | hy
    · exact h2
    · exact hn y hy
section
variable {P : Program} {w : World} {K : PySem.W.Frag} {mg : Str → Option Value} {base : Heap} {tk1 tk2 : Tok}
theorem ok_spoilt {f f1 f2 : Addr} {fd fd1 fd2 : FuncData} (F : Fun K "_law_spoilt" "_law_spoilt" s__law_spoilt f fd) (T : Txt K mg tk1 tk2) (d_take : DefAt P w K mg base "_law_take" 1 f1 fd1 ["_law_bag_here", "_law_many"] spTakeC) (d_pick : DefAt P w K mg base "_law_pick" 2 f2 fd2 ["_law_bag_here", "_law_items"] (spPickC K)) :
    FnOk P w K mg base CX0 4 f fd ["_law_bag_here", "_law_tables", "_law_head"] spSpoilt := by
  refine F.ok sc__law_spoilt (fun vs H Q E h => ?_) (fun cdv A outer s H vs Q E hr h => ?_)
  · obtain ⟨b, t, hv, N, n, m, kvs, js, hd, rfl, _⟩ := h
    rfl
  have hu := hr.units
  have hu1 := hu_of hr
  refine ⟨_, (pss_cons (ps_par (i := 3) (j := 4) (by rfl) sc__law_spoilt.nd rfl rfl (by decide) rfl rfl (pa_cons (pe_callD d_take (hr.mono (by decide)) (pa_cons (pv 0) (pa_cons pe_int pa_nil))) (pa_cons (pe_callD d_pick (hr.mono (by decide)) (pa_cons (pv 0) (pa_cons (pe_callB (call_sortedDI rfl) (by rfl) T.n_sorted (by decide +kernel) (pa_cons (pv 1) pa_nil)) pa_nil))) pa_nil)) (by rfl))
    (pss_cons (ps_set (i := 5) sc__law_spoilt.nd rfl (Or.inl rfl) (pe_callTy (call_dictP rfl) (by rfl) T.n_dict (by decide +kernel) (pa_cons (pe_lock (pe_lc (own := [("_law_one", 6)]) (te := tTup (tCons (tVar 6) (tCons (tCB (fun xs H Q => ∃ (a : Addr) (kvs : List (Key × V)), xs = [.ref a] ∧ Rd H a (.dK kvs) ∧ ∀ p, H p = none → Q (.ref p) (upd H p (.dK kvs))) (tCons (tDGet (tVar 1) (tVar 6)) tNil)) tNil))) rfl sc__law_spoilt.nd (pi_keys (pv 1)) (blkOk_by (N := N__law_spoilt) (sc := defScope s__law_spoilt) (by decide +kernel)) (fun _ _ _ _ _ => pg_name (i := 6) sc__law_spoilt.nd rfl (Or.inl rfl)) (fun _ _ _ _ _ => pts_nil) (fun _ _ _ _ _ => (pe_tup (pa_cons (pv 6) (pa_cons (pe_callTy call_dictD (by rfl) T.n_dict (by decide +kernel) (pa_cons (pe_dget hu1 (pv 1) (pv 6) (fun _ _ => rfl)) pa_nil)) pa_nil)))))) pa_nil)))
    (pss_cons (ps_if (pt_cmpR op_eq (pv 3) pe_int (nomark _)) (pss_one (ps_ret (pe_tup (pa_cons (pe_callD d_pick (hr.mono (by decide)) (pa_cons (pv 0) (pa_cons (pe_lst (pa_cons pe_non (pa_cons (pe_lst pa_nil) (pa_cons pe_int (pa_cons pe_str (pa_cons pe_bl (pa_cons (pe_tup pa_nil) (pa_cons (pe_lst (pa_cons (pv 5) pa_nil)) (pa_cons pe_int pa_nil))))))))) pa_nil))) (pa_cons (pv 2) pa_nil))))) pss_nil)
    (pss_cons (ps_if (pt_cmpR op_eq (pv 3) pe_int (nomark _)) (pss_one (ps_dput hu1 (pv 5) (pe_callD d_pick (hr.mono (by decide)) (pa_cons (pv 0) (pa_cons (pe_lst (pa_cons (pe_un un_neg pe_int) (pa_cons pe_str (pa_cons pe_str (pa_cons pe_str pa_nil))))) pa_nil))) pe_dnewK rfl)) (pss_one (ps_if (pt_cmpR op_eq (pv 3) pe_int (nomark _)) (pss_one (ps_set (i := 2) sc__law_spoilt.nd rfl (Or.inl rfl) (pe_callD d_pick (hr.mono (by decide)) (pa_cons (pv 0) (pa_cons (pe_lst (pa_cons pe_int (pa_cons (pe_un un_neg pe_int) (pa_cons pe_non (pa_cons pe_str (pa_cons pe_bl (pa_cons (pe_tup (pa_cons pe_int pa_nil)) (pa_cons (pe_lst pa_nil) (pa_cons (pe_op op_pow pe_int pe_int) pa_nil))))))))) pa_nil))))) (pss_one (ps_if (pt_cmpR op_eq (pv 3) pe_int (nomark _)) (pss_one (ps_dput hu1 (pv 5) (pv 4) (pe_callD d_pick (hr.mono (by decide)) (pa_cons (pv 0) (pa_cons (pe_lst (pa_cons pe_non (pa_cons (pe_lst pa_nil) (pa_cons pe_int (pa_cons pe_str (pa_cons (pe_tup pa_nil) (pa_cons pe_bl (pa_cons (pe_lst (pa_cons (pe_lst (pa_cons pe_str (pa_cons pe_int pa_nil))) pa_nil)) pa_nil)))))))) pa_nil))) rfl)) (pss_one (ps_if (pt_cmpR op_eq (pv 3) pe_int (nomark _)) (pss_cons (ps_set (i := 7) sc__law_spoilt.nd rfl (Or.inl rfl) (pe_callD d_pick (hr.mono (by decide)) (pa_cons (pv 0) (pa_cons (pe_lst (pa_cons pe_str (pa_cons pe_str (pa_cons pe_str (pa_cons pe_str (pa_cons pe_str (pa_cons pe_str pa_nil))))))) pa_nil))))
    (pss_one (ps_dput hu1 (pv 5) (pv 4) (pe_callTy (call_dictP rfl) (by rfl) T.n_dict (by decide +kernel) (pa_cons (pe_op op_cat (pe_lst (pa_cons (pe_tup (pa_cons (pv 7) (pa_cons pe_int pa_nil))) pa_nil)) (LiI.pe_listItems rfl (pe_dget hu1 (pv 1) (pv 4) (fun _ _ => rfl)) (by rfl) T.n_list (by decide +kernel))) pa_nil)) rfl))) (pss_cons (ps_set (i := 8) sc__law_spoilt.nd rfl (Or.inl rfl) (pe_dget hu1 (pv 5) (pv 4) (fun _ _ => rfl)))
    (pss_cons (ps_set (i := 9) sc__law_spoilt.nd rfl (Or.inl rfl) (pe_lst (pa_cons pe_non (pa_cons pe_bl (pa_cons pe_bl (pa_cons pe_int (pa_cons (pe_un un_neg pe_int) (pa_cons pe_str (pa_cons pe_str (pa_cons (pe_lst pa_nil) (pa_cons (pe_tup (pa_cons pe_str pa_nil)) (pa_cons (pe_tup (pa_cons pe_str (pa_cons pe_str pa_nil))) (pa_cons (pe_tup (pa_cons pe_str (pa_cons pe_str pa_nil))) (pa_cons (pe_tup (pa_cons pe_str (pa_cons pe_str (pa_cons pe_str pa_nil)))) (pa_cons (pe_lst (pa_cons pe_str (pa_cons pe_str pa_nil))) pa_nil)))))))))))))))
    (pss_cons (ps_set (i := 10) sc__law_spoilt.nd rfl (Or.inl rfl) (pe_callD d_pick (hr.mono (by decide)) (pa_cons (pv 0) (pa_cons (pe_op op_cat (pe_lst (pa_cons pe_str (pa_cons pe_str (pa_cons pe_str pa_nil)))) (pe_callB (call_sortedD rfl) (by rfl) T.n_sorted (by decide +kernel) (pa_cons (pv 8) pa_nil))) pa_nil))))
    (pss_one (ps_dput hu1 (pv 8) (pv 10) (pe_callD d_pick (hr.mono (by decide)) (pa_cons (pv 0) (pa_cons (pe_op op_cat (pv 9) (pe_lst (pa_cons (pe_tup (pa_cons pe_str (pa_cons pe_non pa_nil))) (pa_cons (pe_tup (pa_cons pe_int (pa_cons pe_str pa_nil))) (pa_cons (pe_tup (pa_cons pe_str (pa_cons pe_str pa_nil))) (pa_cons (pe_tup (pa_cons pe_str (pa_cons pe_str pa_nil))) (pa_cons pe_dnewK pa_nil))))))) pa_nil))) rfl))))))))))))
    (pss_one (ps_ret (pe_tup (pa_cons (pv 5) (pa_cons (pv 2) pa_nil))))))))), ?_⟩
  obtain ⟨b, t, hv, N, n, m, kvs, js, hd, rfl, hbag, hN, ntb, ht, hks, hjn, hjb, hj1, hjl, hn13, hm13, hrows, hhd, hq⟩ := h
  have hbig : (1000000 : Nat) ≤ sizeLine := by decide
  have hb1 : b ∈ [b] := List.mem_singleton.mpr rfl
  have hkl : kvs.length = js.length := by
    have := congrArg List.length hks
    rw [List.length_map, List.length_map] at this; exact this
  have hkn : (kvs.map (·.1)).Nodup := by rw [hks]; exact nodup_map_inl hjn
  refine sk_par (B := [b]) (m := 1) (m' := 1) (P := fun x _ => ∃ r, x = .int r ∧ 0 ≤ r ∧ r < 8) (P' := fun x _ => ∃ j, x = .int j ∧ j ∈ js) (bgAt1 hbag) (by omega) hb1 (fun _ _ _ h _ => h) (ek_take rfl (by decide)) (by
    refine ek_pickN (K := K) (m := 0) (G := fun x _ => ∃ j, x = V.int j ∧ j ∈ js) hb1 (fun _ _ _ h _ => h) rfl (fun N1 H1 l1 k1 g1 Q1 q1 => ?_)
    refine ⟨_, rfl, t, kvs, js, rfl, Rd.of (k1 _ _ ntb ht), hks, by omega, fun ys p hperm hpw hp => ?_⟩
    obtain ⟨np, g2, k2⟩ := g1.new (o := .lst (ys.map V.int)) hp
    exact q1 _ _ N1 (Nat.le_refl _) k2 g2 ⟨p, ys.map V.int, rfl, np, upd_same, fun v hv => by
      obtain ⟨j, hj, rfl⟩ := List.mem_map.mp hv
      exact ⟨j, rfl, hperm.mem_iff.mp hj⟩, by rw [List.length_map, hperm.length_eq]; exact hj1, by rw [List.length_map, hperm.length_eq]; omega⟩) fun way jv H1 M1 l1 k1 g1 ⟨way, ew, hw0, hw8⟩ ⟨joint, ej, hjoint⟩ => ?_
  subst ew
  subst ej
  have ht1 := k1 _ _ ntb ht
  have hW1 : Ex (wo [b] H) (wo [b] H1) := wo_keep hb1 k1
  have hob1 : ∃ o, H1 b = some o := g1.live b hb1
  obtain ⟨ob, hob⟩ := hob1
  have okj : ∀ {j : Int}, j ∈ js → okK (.inl j) := fun h => ⟨by have := (hjb _ h).1; omega, (hjb _ h).2⟩
  -- copies of all rows
  refine ⟨t, .dK kvs, ht1, trivial, fun od => ?_⟩
  have htL : (upd H1 t (.frz od (.dK kvs))) t = some (.frz od (.dK kvs)) := upd_same
  have oldL : ∀ a o, a ≠ t → H1 a = some o → (upd H1 t (.frz od (.dK kvs))) a = some o := fun a o n h => by rw [upd_ne n]; exact h
  have unl : ∀ {H'}, Ex (upd H1 t (.frz od (.dK kvs))) H' → Ex H1 (upd H' t (.dK kvs)) := fun e => ex_unlock ht1 e
  generalize upd H1 t (.frz od (.dK kvs)) = L at *
  refine ⟨_, rfl, t, od, rfl, Or.inl ⟨kvs, htL, fun D hD => ?_⟩⟩
  have nDt : D ≠ t := fun z => by rw [z, htL] at hD; cases hD
  refine lc_it walk_keys (fun i H' => Ex L H' ∧ ∃ M : List (Addr × Int × Addr × List (Key × V)), H' D = some (.lst ((M.map (·.1)).map V.ref)) ∧ M.map (·.2.1) = js.take i ∧ ∀ x ∈ M, H' x.1 = some (.tup [.int x.2.1, .ref x.2.2.1]) ∧ H' x.2.2.1 = some (.dK x.2.2.2) ∧ H1 x.2.2.1 = none ∧ RowP m (wo [b] H) x.2.2.2)
    ⟨Ex.new hD, [], upd_same, rfl, fun _ h => nomatch h⟩ (fun n H' _ h => h.1 _ _ htL) ?_ ?_
  · rintro i x H3' H3 hi ⟨e3, M, hd3, hM, hMr⟩ ⟨rfl, kk, vv, hkv, rfl⟩
    have hkj : js[i]?.map Sum.inl = some kk := by
      have h1 : (kvs.map (·.1))[i]? = some kk := by rw [List.getElem?_map, hkv]; rfl
      rw [hks, List.getElem?_map] at h1; exact h1
    obtain ⟨j, hj, rfl⟩ := Option.map_eq_some_iff.mp hkj
    obtain ⟨e, ekvs, rfl, he, hrow, _⟩ := hrows _ (List.mem_of_getElem? hkv)
    obtain ⟨neb, heH⟩ := wo_get he
    have neb : e ≠ b := fun z => neb (by rw [z]; exact hb1)
    have he1 := k1 _ _ neb heH
    have hv' : valV kvs (.inl j) = some (.ref e) := val_of hkn (List.mem_of_getElem? hkv)
    have net : e ≠ t := fun z => by
      rw [z, ht] at heH
      cases heH
      obtain ⟨zz, _, a1, _⟩ := hrow.2.2 _ (List.mem_of_getElem? hkv)
      cases a1
    have dg : DGet H3 t (kV (.inl j)) (valV kvs (.inl j)) := Or.inl ⟨kvs, .inl j, Or.inr ⟨od, e3 _ _ htL⟩, rfl, rfl⟩
    rw [hv'] at dg
    have he3 := e3 _ _ (oldL _ _ net he1)
    refine ⟨wipe_set, ?_⟩
    refine ⟨_, rfl, _, rfl, _, rfl, t, _, rfl, dg, e, ekvs, rfl, Rd.of he3, fun p hp => ?_⟩
    have hpH : H1 p = none := by
      cases hh : H1 p with
      | none => rfl
      | some o =>
        have npt : p ≠ t := fun z => by rw [z, e3 _ _ htL] at hp; cases hp
        rw [e3 _ _ (oldL _ _ npt hh)] at hp; cases hp
    have x4 : Ex H3 (upd H3 p (.dK ekvs)) := Ex.new hp
    have hp4 : (upd H3 p (.dK ekvs)) p = some (.dK ekvs) := upd_same
    generalize upd H3 p (.dK ekvs) = H4 at *
    refine ⟨by show 2 ≤ sizeLine; omega, fun q hq' => ?_⟩
    have x5 : Ex H4 (upd H4 q (.tup [kV (.inl j), .ref p])) := Ex.new hq'
    have hq5 : (upd H4 q (.tup [kV (.inl j), .ref p])) q = some (.tup [.int j, .ref p]) := upd_same
    generalize upd H4 q (.tup [kV (.inl j), .ref p]) = H5 at *
    have hd5 := x5 _ _ (x4 _ _ hd3)
    have hMl : M.length ≤ 13 := by
      have := congrArg List.length hM
      rw [List.length_map, List.length_take] at this; omega
    have kD : ∀ a o, a ≠ D → H5 a = some o → (upd H5 D (.lst ((M.map (·.1)).map V.ref ++ [V.ref q]))) a = some o := fun a o n h => by rw [upd_ne n]; exact h
    have tD : ∀ a xs, H5 a = some (.tup xs) → (upd H5 D (.lst ((M.map (·.1)).map V.ref ++ [V.ref q]))) a = some (.tup xs) := fun a xs h => kD _ _ (fun z => by rw [z, hd5] at h; cases h) h
    have rD : ∀ a xs, H5 a = some (.dK xs) → (upd H5 D (.lst ((M.map (·.1)).map V.ref ++ [V.ref q]))) a = some (.dK xs) := fun a xs h => kD _ _ (fun z => by rw [z, hd5] at h; cases h) h
    refine ⟨_, hd5, Evl.sz_lt (by rw [List.length_map, List.length_map]; omega), Ex.mut (e3.trans (x4.trans x5)) hD, M ++ [(q, j, p, ekvs)], ?_, ?_, fun x hx => ?_⟩
    · rw [upd_same, List.map_append, List.map_append]; rfl
    · rw [List.map_append, hM, List.take_add_one, hj]; rfl
    · rcases List.mem_append.mp hx with hx | hx
      · obtain ⟨a1, a2, a3, a4⟩ := hMr x hx
        exact ⟨tD _ _ (x5 _ _ (x4 _ _ a1)), rD _ _ (x5 _ _ (x4 _ _ a2)), a3, a4⟩
      · rw [List.mem_singleton.mp hx]
        exact ⟨tD _ _ hq5, rD _ _ (x5 _ _ hp4), hpH, hrow⟩
  rintro H3 ⟨e3, M, hd3, hM, hMr⟩
  rw [hkl, List.take_length] at hM
  have htL3 := e3 _ _ htL
  refine ⟨htL3, ?_⟩
  have x4 : Ex H1 (upd H3 t (.dK kvs)) := unl e3
  have hd4 : (upd H3 t (.dK kvs)) D = some (.lst ((M.map (·.1)).map V.ref)) := by rw [upd_ne nDt]; exact hd3
  have hM4 : ∀ x ∈ M, (upd H3 t (.dK kvs)) x.1 = some (.tup [.int x.2.1, .ref x.2.2.1]) ∧ (upd H3 t (.dK kvs)) x.2.2.1 = some (.dK x.2.2.2) ∧ H1 x.2.2.1 = none ∧ RowP m (wo [b] H) x.2.2.2 := fun x hx => by
    obtain ⟨a1, a2, a3, a4⟩ := hMr x hx
    exact ⟨by rw [upd_ne (fun z => by rw [z, htL3] at a1; cases a1)]; exact a1, by rw [upd_ne (fun z => by rw [z, htL3] at a2; cases a2)]; exact a2, a3, a4⟩
  generalize upd H3 t (.dK kvs) = H4 at *
  have hMk : (M.map fun x => ((Sum.inl x.2.1 : Key), V.ref x.2.2.1)).map (·.1) = js.map Sum.inl := by
    rw [← hM, List.map_map, List.map_map]; rfl
  refine ⟨D, M.map (·.1), M.map (fun x => ((Sum.inl x.2.1 : Key), V.ref x.2.2.1)), rfl, SqL.of hd4, paired_map fun x hx => SqT.of (hM4 x hx).1, fun f hf => ?_⟩
  rw [merge_app (by rw [hMk]; exact nodup_map_inl hjn) (fun _ _ => rfl), List.nil_append]
  have x5 : Ex H4 (upd H4 f (.dK (M.map fun x => ((Sum.inl x.2.1 : Key), V.ref x.2.2.1)))) := Ex.new hf
  have hf5 : (upd H4 f (.dK (M.map fun x => ((Sum.inl x.2.1 : Key), V.ref x.2.2.1)))) f = some (.dK (M.map fun x => ((Sum.inl x.2.1 : Key), V.ref x.2.2.1))) := upd_same
  have hfH : H1 f = none := Evl.fresh_back x4 hf
  have hnf : ∀ x ∈ M, x.2.2.1 ≠ f := fun x hx z => by
    have := (hM4 x hx).2.1
    rw [z, hf] at this; cases this
  generalize upd H4 f (.dK (M.map fun x => ((Sum.inl x.2.1 : Key), V.ref x.2.2.1))) = H5 at *
  have x15 : Ex H1 H5 := x4.trans x5
  have nfb : f ≠ b := fun z => by rw [z, hob] at hfH; cases hfH
  generalize hfk : M.map (fun x => ((Sum.inl x.2.1 : Key), V.ref x.2.2.1)) = fkvs at *
  -- all of it, apart from what changes
  have hbf : b ∈ [b, f] := by simp
  have hff : f ∈ [b, f] := by simp
  have hW5 : Ex (wo [b] H) (wo [b, f] H5) := fun a o h => by
    obtain ⟨na, h⟩ := wo_get h
    have nab : a ≠ b := fun z => na (by rw [z]; exact hb1)
    have h1 := k1 _ _ nab h
    have naf : a ≠ f := fun z => by rw [z, hfH] at h1; cases h1
    exact wo_put (by simp [nab, naf]) (x15 _ _ h1)
  have hrow5 : ∀ x ∈ M, RowV m (wo [b, f] H5) (.ref x.2.2.1) := fun x hx => by
    obtain ⟨a1, a2, a3, a4⟩ := hM4 x hx
    have npb : x.2.2.1 ≠ b := fun z => by rw [z, hob] at a3; cases a3
    refine ⟨x.2.2.1, x.2.2.2, rfl, wo_put (by simp [npb, hnf x hx]) (x5 _ _ a2), a4.same hW5, fun kv hkv z => ?_⟩
    obtain ⟨_, o, _, _, h3⟩ := a4.2.2 kv hkv
    rw [z] at h3
    obtain ⟨u, hu⟩ := El.ref_in h3
    obtain ⟨_, hu⟩ := wo_get hu
    rw [k1 _ _ npb hu] at a3; cases a3
  have hfl : fkvs.length ≤ n := by
    rw [← hfk, List.length_map]
    have := congrArg List.length hM
    rw [List.length_map] at this; omega
  have htab5 : TabP n m (wo [b, f] H5) fkvs := by
    refine ⟨by rw [hMk]; exact nodup_map_inl hjn, hfl, fun kv hkv => ?_⟩
    rw [← hfk] at hkv
    obtain ⟨x, hx, rfl⟩ := List.mem_map.mp hkv
    have hxj : x.2.1 ∈ js := by rw [← hM]; exact List.mem_map.mpr ⟨x, hx, rfl⟩
    exact ⟨okj hxj, Or.inr (hrow5 x hx)⟩
  have hrowf : ∀ kv ∈ fkvs, ∃ p ekvs, kv.2 = .ref p ∧ p ≠ f ∧ p ≠ b ∧ H1 p = none ∧ H5 p = some (.dK ekvs) ∧ RowP m (wo [b] H) ekvs := fun kv hkv => by
    rw [← hfk] at hkv
    obtain ⟨x, hx, rfl⟩ := List.mem_map.mp hkv
    obtain ⟨a1, a2, a3, a4⟩ := hM4 x hx
    exact ⟨_, _, rfl, hnf x hx, (fun z => by rw [z, hob] at a3; cases a3), a3, x5 _ _ a2, a4⟩
  have g5 : BgAt b [b, f] M1 H5 := ⟨g1.bag.same x15, hbf, fun a ha => by
    simp only [List.mem_cons, List.not_mem_nil, or_false] at ha
    rcases ha with rfl | rfl
    · exact ⟨_, x15 _ _ hob⟩
    · exact ⟨_, hf5⟩⟩
  have k05 : Keep b H H5 := k1.trans (Same.keep x15)
  have hhd5 : Dq (wo [b, f] H5) hv hd := Dq.same hW5 _ _ hhd
  clear hM4 hMr hd4 hd3
  -- what is given at the end
  have fin : ∀ {H' : Hp} {M' : Nat} {hv' : V} {hd' : PyData} {kv' : List (Key × V)} {v7 v8 v9 v10 v6 : Option V} {D' : Ends}, D'.rt = Q → M' ≤ N + 10 → Keep b H H' → BagC H' b M' → H' f = some (.dK kv') → TabP (n + 1) (m + 1) (wo [b] H') kv' → (∀ kv ∈ kv', kv.2 ≠ .ref f) → Dq (wo [b] H') hv' hd' →
      tRet (tTup (tCons (tVar 5) (tCons (tVar 2) tNil))) D' [some (V.ref b), some (.ref t), some hv', some (.int way), some (.int joint), some (.ref f), v6, v7, v8, v9, v10] H' := by
    intro H' M' hv' hd' kv' v7 v8 v9 v10 v6 D' eD lM k bb hf' htp hne hh
    refine ⟨_, rfl, _, rfl, by show 2 ≤ sizeLine; omega, fun q hqn => ?_⟩
    have nqb : q ≠ b := BagC.ne bb hqn
    have xq : Ex (wo [b] H') (wo [b] (upd H' q (.tup [.ref f, hv']))) := wo_keep hb1 (Same.keep (Ex.new hqn))
    rw [eD]
    exact hq _ q M' (.ref f) hv' hd' lM (k.trans (Same.keep (Ex.new hqn))) (bb.same (Ex.new hqn)) nqb upd_same (Or.inr ⟨f, kv', rfl, xq _ _ (wo_put (by simpa using nfb) hf'), htp.same xq, hne⟩) (Dq.same xq _ _ hh)
  have wls : ∀ {H' : Hp}, Ex (wo [b, f] H') (wo [b] H') := wo_less (by simp)
  have wup : ∀ {H' : Hp} {o : HO}, Ex (wo [b, f] H') (wo [b] (upd H' f o)) := fun {H' o} a u h => by
    obtain ⟨na, h⟩ := wo_get h
    simp only [List.mem_cons, List.not_mem_nil, or_false, not_or] at na
    exact wo_put (by simpa using na.1) (by rw [upd_ne na.2]; exact h)
  have nef : ∀ kv ∈ fkvs, kv.2 ≠ .ref f := fun kv hkv z => by
    obtain ⟨p, _, e, n, _⟩ := hrowf kv hkv
    rw [e] at z
    exact n (V.ref.inj z)
  have putF : ∀ {H' : Hp} {M' : Nat} {hv' : V} {hd' : PyData} {k : Key} {v : V} {v7 v8 v9 v10 v6 : Option V} {D' : Ends}, D'.rt = Q → M' ≤ N + 10 → Keep b H5 H' → BagC H' b M' → okK k → (NotD (wo [b, f] H') v ∨ RowV (m + 1) (wo [b, f] H') v) → Dq (wo [b, f] H') hv' hd' →
      tRet (tTup (tCons (tVar 5) (tCons (tVar 2) tNil))) D' [some (V.ref b), some (.ref t), some hv', some (.int way), some (.int joint), some (.ref f), v6, v7, v8, v9, v10] (upd H' f (.dK (putK fkvs k v))) := by
    intro H' M' hv' hd' k v v7 v8 v9 v10 v6 D' eD lM kk bb hk hv2 hh
    have hf' := kk _ _ nfb hf5
    have bb' : BagC (upd H' f (.dK (putK fkvs k v))) b M' := by
      obtain ⟨d, x, n, e, r⟩ := bb
      exact ⟨d, x, n, by rw [upd_ne nfb.symm]; exact e, r⟩
    refine fin eD lM (fun a o na h => ?_) bb' upd_same ((((htab5.same (wo_keep hbf kk)).more (Nat.le_refl _) (Nat.le_succ m)).put hk hv2).same wup) (fun kv hkv => ?_) (Dq.same wup _ _ hh)
    · have h1 := k1 _ _ na h
      rw [upd_ne (fun z => by rw [z, hfH] at h1; cases h1)]
      exact kk _ _ na (x15 _ _ h1)
    · rcases mem_put hkv with e1 | h1
      · rw [e1]
        intro z
        have z : v = .ref f := z
        rw [z] at hv2
        rcases hv2 with h | ⟨e, ekvs, e2, h, _⟩
        · obtain ⟨u, hu⟩ := NotD.ref_in h
          exact absurd (wo_get hu).1 (by simp)
        · rw [← V.ref.inj e2] at h
          exact absurd (wo_get h).1 (by simp)
      · exact nef kv h1
  refine ⟨_, rfl, rfl, _, rfl, ?_⟩
  refine ev_ifZ (fun hw => ?_) (fun hw => ?_)
  · -- no dict at all
    refine ek_pick (K := K) (m := 0) (n := 8) hbf gn_stb rfl (ek_lst hbf gn_stb (eka_cons0 hbf gn_stb (ek_w (ek_c fun _ => gd_non) fun _ _ => gd_gn) (eka_cons0 hbf gn_stb (ek_w (ek_lstD hbf eka_nil (by decide)) fun _ _ => gd_gn) (eka_cons0 hbf gn_stb (ek_w (ek_c fun _ => gd_int _) fun _ _ => gd_gn) (eka_cons0 hbf gn_stb (ek_w (ek_c fun _ => gd_str (by decide +kernel)) fun _ _ => gd_gn) (eka_cons0 hbf gn_stb (ek_w (ek_c fun _ => gd_bl _) fun _ _ => gd_gn) (eka_cons0 hbf gn_stb (ek_w (ek_tup hbf eka_nil (by decide)) fun _ _ => gd_gn)
      (eka_cons0 hbf gn_stb (ek_w (ek_lst (G := fun _ _ => True) hbf (fun _ _ _ _ _ => trivial) (eka_cons0 hbf (fun _ _ _ _ _ => trivial) (ek_v rfl fun _ _ => trivial) eka_nil) (by decide)) fun _ _ => ls_gn) (eka_cons0 hbf gn_stb (ek_w (ek_c fun _ => gd_int _) fun _ _ => gd_gn) eka_nil)))))))) (by decide)) (by decide) M1 H5 (by omega) (Keep.refl b H5) g5 _ fun x H6 M6 l6 k6 g6 hx => ?_
    refine ⟨_, rfl, by show 2 ≤ sizeLine; omega, fun q hqn => ?_⟩
    have nqb : q ≠ b := BagC.ne g6.bag hqn
    have xq : Ex (wo [b, f] H6) (wo [b] (upd H6 q (.tup [x, hv]))) := wls.trans (wo_keep hb1 (Same.keep (Ex.new hqn)))
    exact hq _ q M6 x hv hd (by omega) ((k05.trans k6).trans (Same.keep (Ex.new hqn))) (g6.bag.same (Ex.new hqn)) nqb upd_same (Or.inl (NotD.same hx xq)) (Dq.same ((wo_keep hbf k6).trans xq) _ _ hhd5)
  refine ⟨_, rfl, rfl, _, rfl, ?_⟩
  refine ev_ifZ (fun hw => ?_) (fun hw => ?_)
  · -- a key that is no joint
    intro e he
    obtain ⟨neB, g6, k6⟩ := g5.new (o := .dK []) he
    have he6 : (upd H5 e (.dK [])) e = some (.dK []) := upd_same
    have he0 : (upd H5 e (.dK [])) f = some (.dK fkvs) := k6 _ _ nfb hf5
    show (fun σ H' Q' => _) _ (upd H5 e (.dK [])) _
    generalize upd H5 e (.dK []) = H6 at *
    refine ⟨_, rfl, ?_⟩
    refine ek_pick (K := K) (m := 0) (n := 4) hbf (gk_stb (ks := [.inl (-1), .inr "0", .inr "a", .inr ""])) rfl (ek_lst hbf gk_stb (eka_cons0 hbf gk_stb (ek_neg fun _ => ⟨.inl (-1), by simp, rfl⟩) (eka_cons0 hbf gk_stb (ek_c fun _ => ⟨.inr "0", by simp, rfl⟩) (eka_cons0 hbf gk_stb (ek_c fun _ => ⟨.inr "a", by simp, rfl⟩) (eka_cons0 hbf gk_stb (ek_c fun _ => ⟨.inr "", by simp, rfl⟩) eka_nil)))) (by decide)) (by decide) M1 H6 (by omega) (Keep.refl b H6) g6 _ fun y H7 M7 l7 k7 g7 ⟨k, hk, ey⟩ => ?_
    subst ey
    refine ⟨f, _, rfl, DPut.k (k := k) (k7 _ _ nfb he0) (Evl.sz_lt (by omega)), ?_⟩
    have hok : okK k := by
      simp only [List.mem_cons, List.not_mem_nil, or_false] at hk
      rcases hk with rfl | rfl | rfl | rfl
      · exact ⟨by decide, by decide⟩
      · exact ⟨by decide +kernel, by decide +kernel⟩
      · exact ⟨by decide +kernel, by decide +kernel⟩
      · exact ⟨by decide +kernel, by decide +kernel⟩
    have he7 := k7 _ _ (fun z => neB (by rw [z]; exact hbf)) he6
    exact putF rfl (by omega) (k6.trans k7) g7.bag hok (Or.inr ⟨e, [], rfl, wo_put neB he7, ⟨.nil, Nat.zero_le _, fun _ h => nomatch h⟩, fun _ h => nomatch h⟩) (Dq.same (wo_keep hbf (k6.trans k7)) _ _ hhd5)
  refine ⟨_, rfl, rfl, _, rfl, ?_⟩
  refine ev_ifZ (fun hw => ?_) (fun hw => ?_)
  · -- a head that is none
    refine ek_pick (K := K) (m := 0) (n := 8) hbf gd_stb rfl (ek_lst hbf gd_stb (eka_cons0 hbf gd_stb (ek_c fun _ => gd_int _) (eka_cons0 hbf gd_stb (ek_neg fun _ => gd_int _) (eka_cons0 hbf gd_stb (ek_c fun _ => gd_non) (eka_cons0 hbf gd_stb (ek_c fun _ => gd_str (by decide +kernel)) (eka_cons0 hbf gd_stb (ek_c fun _ => gd_bl _) (eka_cons0 hbf gd_stb (ek_tup hbf (eka_cons0 hbf gd_stb (ek_c fun _ => gd_int _) eka_nil) (by decide)) (eka_cons0 hbf gd_stb (ek_lstD hbf eka_nil (by decide)) (eka_cons0 hbf gd_stb (ek_pow ⟨by decide, by decide, by decide⟩) eka_nil)))))))) (by decide)) (by decide) M1 H5 (by omega) (Keep.refl b H5) g5 _ fun x H6 M6 l6 k6 g6 ⟨d, hdx⟩ => ?_
    exact fin rfl (by omega) (k05.trans k6) g6.bag (k6 _ _ nfb hf5) ((htab5.more (Nat.le_succ n) (Nat.le_succ m)).same ((wo_keep hbf k6).trans wls)) nef (Dq.same wls _ _ hdx)
  refine ⟨_, rfl, rfl, _, rfl, ?_⟩
  refine ev_ifZ (fun hw => ?_) (fun hw => ?_)
  · -- a row that is no dict
    refine ek_pick (K := K) (m := 0) (n := 7) hbf gd_stb rfl (ek_lst hbf gd_stb (eka_cons0 hbf gd_stb (ek_c fun _ => gd_non) (eka_cons0 hbf gd_stb (ek_lstD hbf eka_nil (by decide)) (eka_cons0 hbf gd_stb (ek_c fun _ => gd_int _) (eka_cons0 hbf gd_stb (ek_c fun _ => gd_str (by decide +kernel)) (eka_cons0 hbf gd_stb (ek_tup hbf eka_nil (by decide)) (eka_cons0 hbf gd_stb (ek_c fun _ => gd_bl _) (eka_cons0 hbf gd_stb (ek_lstD hbf (eka_cons0 hbf gd_stb (ek_lstD hbf (eka_cons0 hbf gd_stb (ek_c fun _ => gd_str (by decide +kernel)) (eka_cons0 hbf gd_stb (ek_c fun _ => gd_int _) eka_nil)) (by decide)) eka_nil) (by decide)) eka_nil))))))) (by decide)) (by decide) M1 H5 (by omega) (Keep.refl b H5) g5 _ fun x H6 M6 l6 k6 g6 hx => ?_
    refine ⟨_, rfl, _, rfl, f, _, rfl, DPut.k (k := .inl joint) (k6 _ _ nfb hf5) (Evl.sz_lt (by omega)), ?_⟩
    exact putF rfl (by omega) k6 g6.bag (okj hjoint) (Or.inl (Or.inl hx)) (Dq.same (wo_keep hbf k6) _ _ hhd5)
  have hjk : (Sum.inl joint : Key) ∈ kvs.map (·.1) := by rw [hks]; exact List.mem_map.mpr ⟨joint, hjoint, rfl⟩
  refine ⟨_, rfl, rfl, _, rfl, ?_⟩
  refine ev_ifZ (fun hw => ?_) (fun hw => ?_)
  · -- a name that is none
    refine ek_pick (K := K) (m := 0) (n := 6) hbf gt_stb rfl (ek_lst hbf gt_stb (eka_cons0 hbf gt_stb (ek_c fun _ => ⟨_, rfl, by decide +kernel, by decide +kernel⟩) (eka_cons0 hbf gt_stb (ek_c fun _ => ⟨_, rfl, by decide +kernel, by decide +kernel⟩) (eka_cons0 hbf gt_stb (ek_c fun _ => ⟨_, rfl, by decide +kernel, by decide +kernel⟩) (eka_cons0 hbf gt_stb (ek_c fun _ => ⟨_, rfl, by decide +kernel, by decide +kernel⟩) (eka_cons0 hbf gt_stb (ek_c fun _ => ⟨_, rfl, by decide +kernel, by decide +kernel⟩) (eka_cons0 hbf gt_stb (ek_c fun _ => ⟨_, rfl, by decide +kernel, by decide +kernel⟩) eka_nil)))))) (by decide)) (by decide) M1 H5 (by omega) (Keep.refl b H5) g5 _ fun x H6 M6 l6 k6 g6 ⟨z, ez, hz⟩ => ?_
    subst ez
    obtain ⟨v, hvv, hvm⟩ := val_some hjk
    obtain ⟨e, ekvs, rfl, he, hrow, _⟩ := hrows _ hvm
    obtain ⟨neb, heH⟩ := wo_get he
    have neb : e ≠ b := fun z => neb (by rw [z]; exact hb1)
    refine ⟨_, rfl, by show 2 ≤ sizeLine; omega, fun q1 hq1 => ?_⟩
    obtain ⟨nq1, g7, k7⟩ := g6.new (o := .tup [.str z, .int 0]) hq1
    have hq17 : (upd H6 q1 (.tup [.str z, .int 0])) q1 = some (.tup [.str z, .int 0]) := upd_same
    generalize upd H6 q1 (.tup [.str z, .int 0]) = H7 at *
    refine ⟨by show 1 ≤ sizeLine; omega, fun l1a hl1 => ?_⟩
    obtain ⟨nl1, g8, k8⟩ := g7.new (o := .lst [.ref q1]) hl1
    have hl18 : (upd H7 l1a (.lst [.ref q1])) l1a = some (.lst [.ref q1]) := upd_same
    generalize upd H7 l1a (.lst [.ref q1]) = H8 at *
    have nb : ∀ {a : Addr}, a ∉ [b, f] → a ≠ b := fun n z => n (by rw [z]; exact hbf)
    have k18 : Keep b H1 H8 := (Same.keep x15).trans (k6.trans (k7.trans k8))
    have ht8 := k18 _ _ ntb ht1
    have he8 := k18 _ _ neb (k1 _ _ neb heH)
    have dg8 : DGet H8 t (.int joint) (some (.ref e)) := by
      have := DGet.k (k := .inl joint) ht8
      rw [hvv] at this; exact this
    refine ⟨_, rfl, _, rfl, t, _, rfl, dg8, e, ekvs, rfl, he8, fun H9 p9 ts ext9 np9 nts9 npts hp9 hpr9 => ?_⟩
    have x9 : Ex H8 H9 := ext9
    have nb9 : BagC H9 b M6 := g8.bag.same x9
    have g9 : BgAt b [b, f] M6 H9 := g8.keep (Same.keep x9) nb9
    have hel : ekvs.length ≤ 13 := Nat.le_trans hrow.2.1 hm13
    have htl : ts.length = ekvs.length := Paired.length hpr9
    refine ⟨l1a, p9, [.ref q1], ts.map V.ref, rfl, rfl, x9 _ _ hl18, hp9, by rw [List.length_map]; simp only [List.length_cons, List.length_nil]; omega, fun pc hpc => ?_⟩
    obtain ⟨npc, g10, k10⟩ := g9.new (o := .lst ([.ref q1] ++ ts.map V.ref)) hpc
    have hpc10 : (upd H9 pc (.lst ([.ref q1] ++ ts.map V.ref))) pc = some (.lst ((q1 :: ts).map V.ref)) := upd_same
    have x10 : Ex H9 (upd H9 pc (.lst ([.ref q1] ++ ts.map V.ref))) := Ex.new hpc
    generalize upd H9 pc (.lst ([.ref q1] ++ ts.map V.ref)) = H10 at *
    refine ⟨pc, q1 :: ts, ((Sum.inr z : Key), V.int 0) :: ekvs, rfl, SqL.of hpc10, .cons (SqT.of (x10 _ _ (x9 _ _ (k8 _ _ (nb nq1) hq17)))) (paired_mono hpr9 fun a q h => SqT.of (x10 _ _ h)), fun r hr => ?_⟩
    obtain ⟨nr, g11, k11⟩ := g10.new (o := .dK (mergeK [] (((Sum.inr z : Key), V.int 0) :: ekvs))) hr
    have hr11 : (upd H10 r (.dK (mergeK [] (((Sum.inr z : Key), V.int 0) :: ekvs)))) r = some (.dK (mergeK [] (((Sum.inr z : Key), V.int 0) :: ekvs))) := upd_same
    generalize upd H10 r (.dK (mergeK [] (((Sum.inr z : Key), V.int 0) :: ekvs))) = H11 at *
    have k511 : Keep b H5 H11 := (k6.trans (k7.trans k8)).trans ((Same.keep x9).trans ((Same.keep x10).trans k11))
    refine ⟨_, rfl, _, rfl, f, _, rfl, DPut.k (k := .inl joint) (k511 _ _ nfb hf5) (Evl.sz_lt (by omega)), ?_⟩
    have hW11 : Ex (wo [b] H) (wo [b, f] H11) := hW5.trans (wo_keep hbf k511)
    refine putF rfl (by omega) k511 g11.bag (okj hjoint) (Or.inr ⟨r, _, rfl, wo_put nr hr11, ⟨nodup_merge (by exact .nil), ?_, fun kv hkv => ?_⟩, fun kv hkv zr => ?_⟩) (Dq.same (wo_keep hbf k511) _ _ hhd5)
    · have := len_merge (kvs := ((Sum.inr z : Key), V.int 0) :: ekvs) (acc := [])
      simp only [List.length_cons, List.length_nil] at this
      have := hrow.2.1
      omega
    · rcases mem_merge hkv with h | h
      · exact nomatch h
      · rcases List.mem_cons.mp h with h | h
        · rw [h]; exact ⟨z, some (.int 0), rfl, hz, .int 0⟩
        · obtain ⟨z', o, a1, a2, a3⟩ := hrow.2.2 kv h
          exact ⟨z', o, a1, a2, a3.same hW11⟩
    · rcases mem_merge hkv with h | h
      · exact nomatch h
      · rcases List.mem_cons.mp h with h | h
        · rw [h] at zr; cases zr
        · obtain ⟨z', o, a1, a2, a3⟩ := hrow.2.2 kv h
          rw [zr] at a3
          obtain ⟨u, hu⟩ := El.ref_in a3
          obtain ⟨nn, hu⟩ := wo_get hu
          have nrb : r ≠ b := nb nr
          rw [x10 _ _ (x9 _ _ (k18 _ _ nrb (k1 _ _ nrb hu)))] at hr
          cases hr
  -- a target that is none
  have hjf : (Sum.inl joint : Key) ∈ fkvs.map (·.1) := by rw [hMk]; exact List.mem_map.mpr ⟨joint, hjoint, rfl⟩
  obtain ⟨v, hvv, hvm⟩ := val_some hjf
  obtain ⟨p, ekvs, ep, npf, npb, hpH, hp5, hprow⟩ := hrowf _ hvm
  have ep : v = .ref p := ep
  subst ep
  have dgf : DGet H5 f (.int joint) (some (.ref p)) := by
    have := DGet.k (k := .inl joint) hf5
    rw [hvv] at this; exact this
  refine ⟨_, rfl, _, rfl, f, _, rfl, dgf, ?_⟩
  have hbp : b ∈ [b, p] := by simp
  have gp5 : BgAt b [b, p] M1 H5 := ⟨g5.bag, hbp, fun a ha => by
    simp only [List.mem_cons, List.not_mem_nil, or_false] at ha
    rcases ha with rfl | rfl
    · exact ⟨_, x15 _ _ hob⟩
    · exact ⟨_, hp5⟩⟩
  refine sk_asg (m := 0) gp5 (by omega) (ek_lst (n := 13) hbp gd_stb (eka_cons0 hbp gd_stb (ek_c fun _ => gd_non) (eka_cons0 hbp gd_stb (ek_c fun _ => gd_bl _) (eka_cons0 hbp gd_stb (ek_c fun _ => gd_bl _) (eka_cons0 hbp gd_stb (ek_c fun _ => gd_int _) (eka_cons0 hbp gd_stb (ek_neg fun _ => gd_int _) (eka_cons0 hbp gd_stb (ek_c fun _ => gd_str (by decide +kernel)) (eka_cons0 hbp gd_stb (ek_c fun _ => gd_str (by decide +kernel)) (eka_cons0 hbp gd_stb (ek_lstD hbp eka_nil (by decide)) (eka_cons0 hbp gd_stb (ek_tup hbp (eka_cons0 hbp gd_stb (ek_c fun _ => gd_str (by decide +kernel)) eka_nil) (by decide)) (eka_cons0 hbp gd_stb (ek_tup hbp (eka_cons0 hbp gd_stb (ek_c fun _ => gd_str (by decide +kernel)) (eka_cons0 hbp gd_stb (ek_c fun _ => gd_str (by decide +kernel)) eka_nil)) (by decide)) (eka_cons0 hbp gd_stb (ek_tup hbp (eka_cons0 hbp gd_stb (ek_c fun _ => gd_str (by decide +kernel)) (eka_cons0 hbp gd_stb (ek_c fun _ => gd_str (by decide +kernel)) eka_nil)) (by decide)) (eka_cons0 hbp gd_stb (ek_tup hbp (eka_cons0 hbp gd_stb (ek_c fun _ => gd_str (by decide +kernel)) (eka_cons0 hbp gd_stb (ek_c fun _ => gd_str (by decide +kernel)) (eka_cons0 hbp gd_stb (ek_c fun _ => gd_str (by decide +kernel)) eka_nil))) (by decide)) (eka_cons0 hbp gd_stb (ek_lstD hbp (eka_cons0 hbp gd_stb (ek_c fun _ => gd_str (by decide +kernel)) (eka_cons0 hbp gd_stb (ek_c fun _ => gd_str (by decide +kernel)) eka_nil)) (by decide)) eka_nil))))))))))))) (by decide)) fun ol H6 M6 l6 k6 g6 hol => ?_
  obtain ⟨ns, hns, hnt⟩ := keys_str hprow
  have hel : ekvs.length ≤ 13 := Nat.le_trans hprow.2.1 hm13
  have hnl : ns.length ≤ 13 := by
    have := congrArg List.length hns
    rw [List.length_map, List.length_map] at this; omega
  have hp6 := k6 _ _ npb hp5
  refine sk_asg (m := 1) g6 (by omega) (ek_pickN (K := K) (m := 0) (G := GT) hbp gt_stb rfl (fun N1 H7 l7 k7 g7 Q7 q7 => ?_)) fun zx H7 M7 l7 k7 g7 ⟨z, ez, hz⟩ => ?_
  · refine ek_lst (n := 3) hbp gt_stb (eka_cons0 hbp gt_stb (ek_c fun _ => ⟨_, rfl, by decide +kernel, by decide +kernel⟩) (eka_cons0 hbp gt_stb (ek_c fun _ => ⟨_, rfl, by decide +kernel, by decide +kernel⟩) (eka_cons0 hbp gt_stb (ek_c fun _ => ⟨_, rfl, by decide +kernel, by decide +kernel⟩) eka_nil))) (by decide) N1 H7 (by omega) (Keep.refl b H7) g7 _ fun x8 H8 M8 l8 k8 g8 ⟨a1, xs1, ea, na1, ha1, hxs1⟩ => ?_
    have hp8 := k8 _ _ npb (k7 _ _ npb hp6)
    refine ⟨_, rfl, p, ekvs, ns, rfl, Rd.of hp8, hns, by omega, fun ys p2 hperm hsort hp2 => ?_⟩
    obtain ⟨np2, g9, k9⟩ := g8.new (o := .lst (ys.map V.str)) hp2
    have hp29 : (upd H8 p2 (.lst (ys.map V.str))) p2 = some (.lst (ys.map V.str)) := upd_same
    have ha19 : (upd H8 p2 (.lst (ys.map V.str))) a1 = some (.lst xs1) := k9 _ _ (fun z => na1 (by rw [z]; exact hbp)) ha1
    generalize upd H8 p2 (.lst (ys.map V.str)) = H9 at *
    have hyl : ys.length ≤ 13 := by rw [hperm.length_eq]; exact hnl
    refine ⟨a1, p2, xs1, ys.map V.str, ea, rfl, ha19, hp29, by rw [hxs1.2, List.length_map]; omega, fun pc hpc => ?_⟩
    obtain ⟨npc, g10, k10⟩ := g9.new (o := .lst (xs1 ++ ys.map V.str)) hpc
    refine q7 _ _ M8 l8 (k8.trans (k9.trans k10)) g10 ⟨pc, _, rfl, npc, upd_same, fun v hv => ?_, by rw [List.length_append, hxs1.2]; omega, by rw [List.length_append, hxs1.2, List.length_map]; omega⟩
    rcases List.mem_append.mp hv with hv | hv
    · exact hxs1.1 v hv
    · obtain ⟨z, hz, rfl⟩ := List.mem_map.mp hv
      exact ⟨z, rfl, hnt z (hperm.mem_iff.mp hz)⟩
  subst ez
  refine ek_pick (K := K) (m := 0) (n := 18) hbp ge_stb rfl (ek_cat (m := 0) (m' := 0) (n := 13) (n' := 5) hbp ge_stb (ek_v rfl fun H8 k8 => ls_w (ls_stb gd_stb _ _ _ hol (kb hbp (k7.trans k8))) fun v h => gd_ge h) (ek_lst hbp ge_stb (eka_cons0 hbp ge_stb (ek_ge (ek_tup hbp (eka_cons0 hbp gd_stb (ek_c fun _ => gd_str (by decide +kernel)) (eka_cons0 hbp gd_stb (ek_c fun _ => gd_non) eka_nil)) (by decide))) (eka_cons0 hbp ge_stb (ek_ge (ek_tup hbp (eka_cons0 hbp gd_stb (ek_c fun _ => gd_int _) (eka_cons0 hbp gd_stb (ek_c fun _ => gd_str (by decide +kernel)) eka_nil)) (by decide))) (eka_cons0 hbp ge_stb (ek_ge (ek_tup hbp (eka_cons0 hbp gd_stb (ek_c fun _ => gd_str (by decide +kernel)) (eka_cons0 hbp gd_stb (ek_c fun _ => gd_str (by decide +kernel)) eka_nil)) (by decide))) (eka_cons0 hbp ge_stb (ek_ge (ek_tup hbp (eka_cons0 hbp gd_stb (ek_c fun _ => gd_str (by decide +kernel)) (eka_cons0 hbp gd_stb (ek_c fun _ => gd_str (by decide +kernel)) eka_nil)) (by decide))) (eka_cons0 hbp ge_stb ek_dnew eka_nil))))) (by decide)) (by decide)) (by decide) M7 H7 (by omega) (Keep.refl b H7) g7 _ fun x H8 M8 l8 k8 g8 ⟨o, hxo⟩ => ?_
  have k58 : Keep b H5 H8 := k6.trans (k7.trans k8)
  have hp8 := k58 _ _ npb hp5
  refine ⟨_, rfl, _, rfl, p, _, rfl, DPut.k (k := .inr z) hp8 (Evl.sz_lt (by omega)), ?_⟩
  have kup : ∀ a u, a ≠ p → H8 a = some u → (upd H8 p (.dK (putK ekvs (.inr z) x))) a = some u := fun a u n h => by rw [upd_ne n]; exact h
  have hnew : (upd H8 p (.dK (putK ekvs (.inr z) x))) p = some (.dK (putK ekvs (.inr z) x)) := upd_same
  have bb' : BagC (upd H8 p (.dK (putK ekvs (.inr z) x))) b M8 := by
    obtain ⟨d, y, n, e, r⟩ := g8.bag
    exact ⟨d, y, n, kup _ _ npb.symm e, r⟩
  have hWx : Ex (wo [b, p] H8) (wo [b] (upd H8 p (.dK (putK ekvs (.inr z) x)))) := fun a u h => by
    obtain ⟨na, h⟩ := wo_get h
    simp only [List.mem_cons, List.not_mem_nil, or_false, not_or] at na
    exact wo_put (by simpa using na.1) (kup _ _ na.2 h)
  generalize upd H8 p (.dK (putK ekvs (.inr z) x)) = H9 at *
  have k09 : Keep b H H9 := fun a u na h => by
    have h1 := k1 _ _ na h
    exact kup _ _ (fun z => by rw [z, hpH] at h1; cases h1) (k58 _ _ na (x15 _ _ h1))
  have hW9 : Ex (wo [b] H) (wo [b] H9) := wo_keep hb1 k09
  have wp : ∀ {a : Addr} {u : HO}, a ≠ b → H9 a = some u → wo [b] H9 a = some u := fun n h => wo_put (by simpa using n) h
  have apart : ∀ {p' : Addr} {l : List (Key × V)}, p' ≠ b → H1 p' = none → RowP m (wo [b] H) l → ∀ kv ∈ l, kv.2 ≠ .ref p' := fun {p' l} n hn hr kv hkv zr => by
    obtain ⟨_, o, _, _, h3⟩ := hr.2.2 kv hkv
    rw [zr] at h3
    obtain ⟨u, hu⟩ := El.ref_in h3
    obtain ⟨_, hu⟩ := wo_get hu
    rw [k1 _ _ n hu] at hn; cases hn
  refine fin rfl (by omega) k09 bb' (kup _ _ npf.symm (k58 _ _ nfb hf5)) ⟨htab5.1, Nat.le_succ_of_le htab5.2.1, fun kv hkv => ⟨(htab5.2.2 kv hkv).1, Or.inr ?_⟩⟩ nef (Dq.same hW9 _ _ hhd)
  obtain ⟨p', ekvs', ep', npf', npb', hpH', hp5', hprow'⟩ := hrowf kv hkv
  rw [ep']
  by_cases hpp : p' = p
  · subst hpp
    rw [hp5] at hp5'
    cases hp5'
    refine ⟨p', _, rfl, wp npb hnew, (hprow.same hW9).put hz (El.same hxo hWx), fun kv2 hkv2 => ?_⟩
    rcases mem_put hkv2 with e1 | h1
    · rw [e1]
      intro zx
      have zx : x = .ref p' := zx
      rw [zx] at hxo
      obtain ⟨u, hu⟩ := El.ref_in hxo
      exact absurd (wo_get hu).1 (by simp)
    · exact apart npb hpH hprow kv2 h1
  · exact ⟨p', ekvs', rfl, wp npb' (kup _ _ hpp (k58 _ _ npb' hp5')), (hprow'.same hW9).more (Nat.le_succ m), apart npb' hpH' hprow'⟩
end
end KD

set_option Elab.async false
set_option linter.all false
set_option maxRecDepth 100000
set_option maxHeartbeats 8000000
namespace KD
open PySem PySem.Spec PyProof.Rows L2 LF
open Evl (Ev EvL EvU EvT EvA EvO Ex sq_of st_of)
open PySem.W (EachIs)
section
variable {X : Cx}
open PySem.W in
theorem ne_dictsT {prog : Program} {w : World} {A : Around} {E : Value → Shared → Prop} {s : Shared} {K : Type} [DecidableEq K] {knd : KeyKind prog w K} {n : Nat} {a b : Addr} {ka kb : List (K × Value)} {e : K → Bool} {Q : Value → Shared → Prop} (ha : (a == sysModules) = false) (hb : (b == sysModules) = false)
    (da : s.heap.DictOf knd a ka) (db : s.heap.DictOf knd b kb) (t : ∀ k v y, (k, v) ∈ ka → valueAt kb k = some y → PySem.W.EqTree prog w s n v y (e k)) (hu : A.units + (n + 1) < cLine)
    (h : Q (.bool (!(ka.length == kb.length && ka.all fun p => (valueAt kb p.1).isSome && e p.1))) s) : wpAny (model prog w) A (compareOp .NotEq (.ref a) (.ref b)) Q E s := by
  have hits := KeqHitsIn.of (prog := prog) (w := w) (A := A.in1) (s := s) (kb := kb) (e := e) ka fun k v y hm hv => (t k v y hm hv).at A.in1 (by show A.units + 1 + _ < cLine; omega)
  refine wpAny_richCompare_same_room (op := .NotEq) da.typeIs db.typeIs PySem.F.slot_dict_ne (wpAny_call_entry PySem.F.slot_dict_ne da.typeIs PySem.F.entry_dict_ne ?_ (PySem.F.args_dict_ne_2 _ _)) (by omega)
  show wpAny _ _ (Builtin.Dict.dictSlotArgs "__ne__" ⟨[.ref a, .ref b], []⟩ >>= _) _ _ s
  refine wpAny_bind ?_
  unfold Builtin.Dict.dictSlotArgs
  refine wpAny_bind (wpAny_notOrdered_dict da.typeIs ?_)
  show wpAny _ _ (pure (Value.ref a, Value.ref b)) _ _ s
  refine wpAny_pure ?_
  refine wpAny_bind (wpAny_isInstance (T := "dict") db.typeIs PySem.F.sub_dict_dict ?_)
  simp only [Bool.not_true, Bool.false_eq_true, if_false]
  refine wpAny_bind (wpAny_pure (wpAny_bind (wpAny_pure ?_)))
  refine wpAny_bind (keq_samePairsIn ha hb da db (fun _ => hits) ?_)
  refine wpAny_pure ⟨_, rfl, ?_, ?_⟩
  · exact fun x => nomatch x
  · simpa using h
/-- a dict != {} -/
def rNeE : R2 := fun x y H Q => ∃ a b kvs, x = .ref a ∧ y = .ref b ∧ H a = some (.dK kvs) ∧ H b = some (.dK []) ∧ Q (.bl (!kvs.isEmpty)) H
theorem op_neE (hu : X.A.units + 64 < cLine) : OpR X (compareOp .NotEq) rNeE := by
  intro pins s σ H x y v u Q I rx ry h
  obtain ⟨a1, a2, kvs, rfl, rfl, h1, h2, q⟩ := h
  obtain rfl : v = Value.ref a1 := rx
  obtain rfl : u = Value.ref a2 := ry
  obtain ⟨_, ya, va, ra, da⟩ := (show ObjOk X.prog X.w H s.heap a1 (.dK kvs) from I.hok a1 _ h1)
  obtain ⟨_, yb, vb, rb, db⟩ := (show ObjOk X.prog X.w H s.heap a2 (.dK []) from I.hok a2 _ h2)
  have hvb : vb = [] := by
    cases rb
    rfl
  subst hvb
  have hl : va.length = kvs.length := (Paired.length ra).symm
  refine ne_dictsT (n := 4) (e := fun _ => true) ya yb da db (fun k v y _ hy => by cases hy) (by omega) ⟨.bl (!kvs.isEmpty), H, I, ?_, q⟩
  show Value.bool _ = Value.bool _
  congr 1
  cases kvs with
  | nil =>
    cases va with
    | nil => rfl
    | cons _ _ => simp at hl
  | cons _ _ =>
    cases va with
    | nil => simp at hl
    | cons _ _ => rfl
end
theorem exm_self {K : PySem.W.Frag} {S : Addr} (h1 : PySem.W.subIn K (.ref S) (.type "BaseException") = some true) (h2 : PySem.W.isClsIn K S = true) (h3 : PySem.W.typeIn K (.ref S) = some (.type "type")) (h4 : PySem.W.subIn K (.ref S) (.ref S) = some true) :
    PySem.W.exmOne K (.ref S) (.ref S) = some true := by
  have e1 : (PySem.W.subIn K (.ref S) (.type "BaseException") == some true) = true := by rw [h1] <;> rfl
  have e2 : ((PySem.W.clsIn K S).isSome && PySem.W.typeIn K (.ref S) == some (.type "type")) = true := by
    have h2' : (PySem.W.clsIn K S).isSome = true := h2
    rw [h2', h3] <;> rfl
  show (if (PySem.W.subIn K (.ref S) (.type "BaseException") == some true) = true then (if ((PySem.W.clsIn K S).isSome && PySem.W.typeIn K (.ref S) == some (.type "type")) = true then PySem.W.subIn K (.ref S) (.ref S) else none) else none) = some true
  rw [if_pos e1, if_pos e2]
  exact h4
/-- data whose repr is told -/
structure Rok (d : PyData) : Prop where
  sh : d.showable = true
  nd : d.hasDict = false
  dp : d.depth ≤ 60
  ln : d.shown.length ≤ sizeLine
  lay : d.canLay0 = true
theorem Rok.of {d : PyData} (h1 : d.canLay0 = true) (h2 : d.depth ≤ 60) (h3 : d.weight ≤ 2 ^ 20) (h4 : d.intsShort 13 = true) (h5 : d.showable = true) : Rok d := by
  refine ⟨h5, PyData.hasDict_of_canLay d h1, h2, ?_, h1⟩
  have hl : PyData.layable0 d = true := by
    unfold PyData.layable0
    rw [h1, decide_eq_true (by omega : d.depth ≤ 64), decide_eq_true h3]; rfl
  exact Nat.le_trans (shown_le13 hl h4) (by decide)
def jP : Option Int → PyData
  | none => .none
  | some i => .int i
def nP : Option Str → PyData
  | none => .none
  | some z => .str z
def vdP : Vd → PyData
  | none => .none
  | some (j, n) => .tuple [jP j, nP n]
def Sm (d : PyData) : Prop := d.canLay0 = true ∧ d.depth = 0 ∧ d.weight ≤ 2000 ∧ d.intsShort 13 = true ∧ d.showable = true
theorem sm_non : Sm .none := by
  unfold Sm
  simp [PyData.canLay0, PyData.depth, PyData.weight, PyData.intsShort, PyData.showable]
theorem sm_int {i : Int} (h : -1000 < i ∧ i < 1000) : Sm (.int i) := by
  have h3 : i.natAbs < 10 ^ 12 := by omega
  have h5 := PyData.shown_int_le h3
  have h7 : i.natAbs.log2 < 44 := by
    by_cases h0 : i.natAbs = 0
    · rw [h0]; decide
    · exact (Nat.log2_lt (n := i.natAbs) (k := 44) h0).mpr (by omega)
  have h6 : i.natAbs.log2 < 1920 := by omega
  have h8 : (if i = 0 then 0 else i.natAbs.log2 + 1) ≤ 2000 := by split <;> omega
  unfold Sm
  simp [h8, PyData.canLay0, PyData.depth, PyData.weight, PyData.intsShort, PyData.showable, h5, h6]
theorem sm_str {z : Str} (h : okT z) : Sm (.str z) := by
  have h5 : z.cps.size ≤ 1000 := h.1
  unfold Sm
  refine ⟨?_, ?_, ?_, ?_, ?_⟩
  · rw [PyData.canLay0]; exact h.2
  · rw [PyData.depth]
  · rw [PyData.weight]; omega
  · rw [PyData.intsShort]
  · rw [PyData.showable]
theorem rok_two {a b : PyData} (ha : Sm a) (hb : Sm b) : Rok (.tuple [a, b]) := by
  obtain ⟨a1, a2, a3, a4, a5⟩ := ha
  obtain ⟨b1, b2, b3, b4, b5⟩ := hb
  refine Rok.of ?_ ?_ ?_ ?_ ?_
  · rw [PyData.canLay0, PyData.canLayAll0, PyData.canLayAll0, PyData.canLayAll0, a1, b1]; rfl
  · rw [PyData.depth, PyData.depthAll, PyData.depthAll, PyData.depthAll, a2, b2]; decide
  · rw [PyData.weight, PyData.weightAll, PyData.weightAll, PyData.weightAll]
    have : (2 : Nat) ^ 20 = 1048576 := by decide
    omega
  · rw [PyData.intsShort, PyData.intsShortAll, PyData.intsShortAll, PyData.intsShortAll, a4, b4]; rfl
  · rw [PyData.showable, PyData.showableAll, PyData.showableAll, PyData.showableAll, a5, b5]; rfl
theorem rok_non : Rok .none := Rok.of (by simp [PyData.canLay0]) (by simp [PyData.depth]) (by simp [PyData.weight]) (by simp [PyData.intsShort]) (by simp [PyData.showable])
theorem due_rok {hd : PyData} {o : Option TabX} {r : Vd} (h : Due hd o r) (hw : ∀ l, o = some l → TabW' l) : Rok (vdP r) := by
  rcases h with ⟨_, rfl⟩ | ⟨_, l, rfl, ⟨rfl, _⟩ | ⟨j, row, n, hm, rfl, hd, _⟩⟩
  · exact rok_two sm_non sm_non
  · exact rok_non
  · obtain ⟨_, _, hok, hrows⟩ := hw l rfl
    refine rok_two (sm_int (hok _ hm)) ?_
    cases row with
    | none =>
      rw [show n = none from hd]; exact sm_non
    | some r =>
      rcases hd with ⟨_, rfl⟩ | ⟨_, z, rfl, ⟨y, hy, rfl, _⟩, _⟩
      · exact sm_non
      · exact sm_str ((hrows _ hm r rfl).2.2 y hy)
theorem vd_dp {K : PySem.W.Frag} {H : Hp} {v : V} {r : Vd} (h : VdV H v r) : Dp K H v (vdP r) := by
  cases r with
  | none =>
    rw [show v = .non from h]; exact .non
  | some p =>
    obtain ⟨j, n⟩ := p
    obtain ⟨q, rfl, hq⟩ := h
    refine .tup (SqT.of hq) (.cons ?_ (.cons ?_ .nil))
    · cases j with
      | none => exact .non
      | some i => exact .int i
    · cases n with
      | none => exact .non
      | some i => exact .str i
theorem VdV.same {H H' : Hp} {v : V} {r : Vd} (h : VdV H v r) (e : Ex H H') : VdV H' v r := by
  cases r with
  | none => exact h
  | some p =>
    obtain ⟨q, rfl, hq⟩ := h
    exact ⟨q, rfl, e _ _ hq⟩
/-! what is drawn -/
def tgO : Tg → PyData
  | .inl i => .int i
  | .inr p => .tuple [.str p.1, .str p.2]
def rowO (r : List (Str × Tg)) : RowX := r.map fun y => (y.1, some (tgO y.2))
def tabO (t : List (Int × List (Str × Tg))) : TabX := t.map fun x => (Sum.inl x.1, some (rowO x.2))
theorem each_mapRR {α β γ : Type} {R : α → β → Prop} {S : α → γ → Prop} {g : β → γ} : ∀ {xs : List α} {bs : List β}, EachIs R xs bs → (∀ a ∈ xs, ∀ b ∈ bs, R a b → S a (g b)) → EachIs S xs (bs.map g)
  | _, _, .nil, _ => .nil
  | _, _, .cons r t, h => .cons (h _ List.mem_cons_self _ List.mem_cons_self r) (each_mapRR t fun a ha b hb => h a (List.mem_cons_of_mem _ ha) b (List.mem_cons_of_mem _ hb))
theorem nm_okT {z : Str} (h : isNm z = true) : okT z := ⟨by have := (isNm_len h).2; omega, strOk_nm h⟩
theorem tg_dq {b : Addr} {W : Hp} {v : V} {x : Tg} {js : List Int} (h : TgA b W v x) (ho : TgOk js x) : Dq W v (tgO x) := by
  cases x with
  | inl i => rw [show v = .int i from h]; exact .int i
  | inr p =>
    obtain ⟨q, rfl, _, hq⟩ := h
    have l1 := (isNm_len ho.1).2
    have l2 := ho.2.len
    exact .tup hq (.cons (.str _ (by omega) (strOk_nm ho.1)) (.cons (.str _ (by omega) ho.2.strOk) .nil)) (by show 2 ≤ 1000; decide)
theorem tg_ne {b e : Addr} {W : Hp} {v : V} {x : Tg} {u : List (Key × V)} (h : TgA b W v x) (he : W e = some (.dK u)) : v ≠ .ref e := fun z => by
  cases x with
  | inl i => rw [show v = .int i from h] at z; cases z
  | inr p =>
    obtain ⟨q, e1, _, hq⟩ := h
    rw [e1] at z
    rw [V.ref.inj z, he] at hq; cases hq
theorem tgw {b : Addr} {H : Hp} {v : V} {x : Tg} (h : TgA b H v x) : TgA b (wo [b] H) v x := by
  cases x with
  | inl i => exact h
  | inr p =>
    obtain ⟨q, e, n, hq⟩ := h
    exact ⟨q, e, n, wo_put (by simpa using n) hq⟩
theorem drawn_tb {b t : Addr} {H : Hp} {tabs : List (Int × List (Str × Tg))} (h : TabA b H t tabs) (ho : TabOk tabs) : TbX H (.ref t) (some (tabO tabs)) ∧ ∃ kvs, t ≠ b ∧ H t = some (.dK kvs) ∧ kvs.map (·.1) = (tabs.map (·.1)).map Sum.inl ∧ ∀ kv ∈ kvs, RowV 10 (wo [b] H) kv.2 := by
  obtain ⟨kvs, ntb, ht, heach, _⟩ := h
  have hk : kvs.map (·.1) = (tabs.map (·.1)).map Sum.inl := by
    rw [List.map_map]
    exact each_map (fun a c h => h.1) heach
  refine ⟨⟨t, kvs, rfl, ht, each_mapRR heach fun kv hkv x hx ⟨e1, e, h4, h5, ekvs, neb, he, hrow⟩ => ⟨e1, ⟨e, ekvs, h4, he, each_mapRR hrow fun kv2 _ y hy ⟨q1, q2⟩ => ⟨q1, tg_dq q2 ((ho.2.2.2 x hx).2.2.2 y hy).2, tg_ne q2 he⟩⟩, fun z => h5 (V.ref.inj (h4.symm.trans z))⟩⟩, kvs, ntb, ht, hk, fun kv hkv => ?_⟩
  obtain ⟨x, hx, e1, e, h4, h5, ekvs, neb, he, hrow⟩ := each_mem heach kv hkv
  have hek : ekvs.map (·.1) = (x.2.map (·.1)).map Sum.inr := by
    rw [List.map_map]
    exact each_map (fun a c h => h.1) hrow
  have hro := (ho.2.2.2 x hx).2
  refine ⟨e, ekvs, h4, wo_put (by simpa using neb) he, ⟨by rw [hek]; exact nodup_map_inr hro.1, by rw [hrow.length]; exact hro.2.1, fun kv2 h2 => ?_⟩, fun kv2 h2 => ?_⟩
  · obtain ⟨y, hy, q1, q2⟩ := each_mem hrow kv2 h2
    exact ⟨y.1, some (tgO y.2), q1, nm_okT (hro.2.2 y hy).1, tg_dq (tgw q2) (hro.2.2 y hy).2⟩
  · obtain ⟨y, hy, q1, q2⟩ := each_mem hrow kv2 h2
    exact tg_ne q2 he
theorem drawn_w {tabs : List (Int × List (Str × Tg))} (ho : TabOk tabs) : TabW' (tabO tabs) := by
  have hk : (tabO tabs).map (·.1) = (tabs.map (·.1)).map Sum.inl := by unfold tabO; rw [List.map_map, List.map_map]; rfl
  refine ⟨by rw [hk]; exact nodup_map_inl ho.1, by unfold tabO; rw [List.length_map]; have := ho.2.2.1; omega, fun x hx => ?_, fun x hx r hr => ?_⟩
  · obtain ⟨y, hy, rfl⟩ := List.mem_map.mp (show x ∈ tabs.map _ from hx)
    have := (ho.2.2.2 y hy).1
    exact ⟨by show -1000 < y.1; omega, by show y.1 < 1000; omega⟩
  · obtain ⟨y, hy, rfl⟩ := List.mem_map.mp (show x ∈ tabs.map _ from hx)
    cases hr
    have hro := (ho.2.2.2 y hy).2
    refine ⟨by unfold rowO; rw [List.map_map]; exact hro.1, by unfold rowO; rw [List.length_map]; have := hro.2.1; omega, fun z hz => ?_⟩
    obtain ⟨z', hz', rfl⟩ := List.mem_map.mp (show z ∈ y.2.map _ from hz)
    exact nm_okT (hro.2.2 z' hz').1
theorem drawn_due {tabs : List (Int × List (Str × Tg))} {head : Int} (ho : TabOk tabs) (hh : head ∈ tabs.map (·.1)) : Due (.int head) (some (tabO tabs)) none := by
  have hk : (tabO tabs).map (·.1) = (tabs.map (·.1)).map Sum.inl := by unfold tabO; rw [List.map_map, List.map_map]; rfl
  have jt : ∀ {j : Int}, 0 ≤ j → jtD (.int j) = true := fun h => by
    unfold jtD intD isNum isBol num
    simp [h]
  have hj0 : ∀ j ∈ tabs.map (·.1), (0 : Int) ≤ j := fun j hj => by
    obtain ⟨x, hx', rfl⟩ := List.mem_map.mp hj
    exact (ho.2.2.2 x hx').1.1
  have has : ∀ j ∈ tabs.map (·.1), hasK ((tabO tabs).map (·.1)) j = true := fun j hj => by
    rw [hk]; exact hasK_mem.mpr (List.mem_map.mpr ⟨j, hj, rfl⟩)
  refine Or.inr ⟨?_, _, rfl, Or.inl ⟨rfl, fun x hx => ?_⟩⟩
  · show (!(List.all _ _) || !(_ && _)) = false
    have h1 : ((tabO tabs).all fun x => keyJ x.1) = true := by
      rw [List.all_eq_true]
      intro x hx
      obtain ⟨y, hy, rfl⟩ := List.mem_map.mp (show x ∈ tabs.map _ from hx)
      exact decide_eq_true (ho.2.2.2 y hy).1.1
    rw [h1, jt (hj0 head hh), show hasK ((tabO tabs).map (·.1)) (num (.int head)) = true from has head hh]; rfl
  · obtain ⟨y, hy, rfl⟩ := List.mem_map.mp (show x ∈ tabs.map _ from hx)
    have hro := (ho.2.2.2 y hy).2
    show (_ && _) = true
    rw [Bool.and_eq_true]
    refine ⟨?_, ?_⟩
    · unfold nmX
      rw [List.all_eq_true]
      intro z hz
      obtain ⟨z', hz', rfl⟩ := List.mem_map.mp (show z ∈ y.2.map _ from hz)
      exact (hro.2.2 z' hz').1
    · rw [List.all_eq_true]
      intro z hz
      obtain ⟨z', hz', rfl⟩ := List.mem_map.mp (show z ∈ y.2.map _ from hz)
      have h2 := (hro.2.2 z' hz').2
      show tgX _ (some (tgO z'.2)) = true
      cases hz2 : z'.2 with
      | inl i =>
        rw [hz2] at h2
        show (plD (.int i) || (jtD (.int i) && hasK ((tabO tabs).map (·.1)) (num (.int i)))) = true
        rw [jt (hj0 i h2), show hasK ((tabO tabs).map (·.1)) (num (.int i)) = true from has i h2, Bool.true_and, Bool.or_true]
      | inr p =>
        rw [hz2] at h2
        have c1 : plD (.tuple [.str p.1, .str p.2]) = true := by
          have h1 := h2.1
          have h3 := h2.2.pt
          simp [plD, isTup, items, at', nmD, ptD, isStr, txt, h1, h3]
        show (plD (.tuple [.str p.1, .str p.2]) || _) = true
        rw [c1, Bool.true_or]
/-- whatever is asked -/
theorem ResV.x {n m : Nat} {W : Hp} {v : V} (h : ResV n m W v) (hn : n ≤ 14) (hm : m ≤ 14) : ∃ o, TbX W v o ∧ (∀ l, o = some l → TabW' l) ∧ ∀ l, o = some l → ∃ t kvs, v = .ref t ∧ W t = some (.dK kvs) ∧ TabP n m W kvs ∧ (∀ kv ∈ kvs, kv.2 ≠ .ref t) ∧ l.map (·.1) = kvs.map (·.1) := by
  rcases h with h | ⟨t, kvs, rfl, h1, h2, h3⟩
  · exact ⟨none, h, ⟨fun l e => (by cases e), fun l e => (by cases e)⟩⟩
  · obtain ⟨l, a1, a2, a3, _⟩ := TabV.x h1 (h2.more hn hm) h3
    exact ⟨some l, a1, fun l' e => by cases e; exact a2, fun l' e => by cases e; exact ⟨t, kvs, rfl, h1, h2, h3, a3⟩⟩
end KD

set_option Elab.async false
set_option linter.all false
set_option maxRecDepth 100000
set_option maxHeartbeats 32000000
namespace KD
open PySem PySem.Spec PyProof.Rows L2 LF
open Evl (Ev EvL EvU EvT EvA EvO Ex sq_of st_of)
open PySem.W (EachIs)
abbrev s_law : Stmt := topS 33
abbrev N_law : List Str := ["_law_script", "_law_at", "_law_bag_here", "_law_turn", "_law_words_here", "_law_tables", "_law_head", "_law_due_here", "_law_some", "_law_joint"]
theorem sc_law : FnScope ["_law_script", "_law_at", "_law_bag_here", "_law_turn", "_law_words_here", "_law_tables", "_law_head", "_law_due_here", "_law_some", "_law_joint"] ["_law_script"] (defScope s_law) := ⟨rfl, rfl, rfl, by decide +kernel, rfl, by decide +kernel, by decide +kernel⟩
def spLaw (K : PySem.W.Frag) : Sp := fun vs H Q _ => ∃ (a : Addr) (ns : List Int), vs = [.ref a] ∧ SqL K H a (ns.map V.int) ∧ ns.length ≤ 63 ∧ ∀ H', Q (.bl true) H'
theorem seq_keep_new {K : PySem.W.Frag} {H H' : Hp} {a b : Addr} {xs : List V} (h : SqL K H a xs) (hb : H b = none) (k : Keep b H H') : SqL K H' a xs := by
  rcases h with (h | ⟨o, h⟩) | h
  · exact Or.inl (Or.inl (k _ _ (ne_of_none h hb) h))
  · exact Or.inl (Or.inr ⟨o, k _ _ (ne_of_none h hb) h⟩)
  · exact Or.inr h
theorem BagC.not_tup {b : Addr} {N : Nat} {H : Hp} (h : BagC H b N) : ∀ xs, H b ≠ some (.tup xs) := fun xs z => by
  obtain ⟨_, _, _, e, _⟩ := h
  rw [e] at z; cases z
theorem VdV.keep {b : Addr} {H H' : Hp} {v : V} {r : Vd} (h : VdV H v r) (nb : ∀ xs, H b ≠ some (.tup xs)) (k : Keep b H H') : VdV H' v r := by
  cases r with
  | none => exact h
  | some p =>
    obtain ⟨q, rfl, hq⟩ := h
    exact ⟨q, rfl, k _ _ (fun z => by rw [z] at hq; exact nb _ hq) hq⟩
theorem NotD.but {W H' : Hp} {v : V} (h : NotD W v) (kl : ∀ a xs, W a = some (.lst xs) → H' a = some (.lst xs)) (kt : ∀ a xs, W a = some (.tup xs) → H' a = some (.tup xs)) : NotD H' v := by
  rcases h with ⟨d, h⟩ | ⟨a, xs, e, h⟩
  · exact Or.inl ⟨d, Dq.lt kl kt _ _ h⟩
  · exact Or.inr ⟨a, xs, e, kl _ _ h⟩
section
variable {P : Program} {w : World} {K : PySem.W.Frag} {mg : Str → Option Value} {base : Heap} {tk1 tk2 : Tok}
theorem ok_law {f f1 f2 f3 f4 f5 f6 f7 f8 : Addr} {fd fd1 fd2 fd3 fd4 fd5 fd6 fd7 fd8 : FuncData} (F : Fun K "law" "law" s_law f fd) (T : Txt K mg tk1 tk2)
    (d_bag : DefAt P w K mg base "_law_bag" 1 f1 fd1 ["_law_script", "_law_at"] (spBagC K)) (d_words : DefAt P w K mg base "_law_words" 3 f2 fd2 ["_law_bag_here"] spWords)
    (d_farm : DefAt P w K mg base "_law_farm" 4 f3 fd3 ["_law_bag_here", "_law_words_here", "_law_most", "_law_has_references"] spFarm) (d_take : DefAt P w K mg base "_law_take" 1 f4 fd4 ["_law_bag_here", "_law_many"] spTakeC)
    (d_drawn : DefAt P w K mg base "_law_drawn" 3 f5 fd5 ["_law_bag_here", "_law_farm_here", "_law_words_here", "_law_most"] spDrawn)
    (d_told : DefAt P w K mg base "_law_told" 8 f6 fd6 ["_law_tables", "_law_head"] spTold) (d_due : DefAt P w K mg base "_law_due" 3 f7 fd7 ["_law_tables", "_law_head"] spTold) (d_spoilt : DefAt P w K mg base "_law_spoilt" 4 f8 fd8 ["_law_bag_here", "_law_tables", "_law_head"] spSpoilt) :
    FnG P w K mg base CX0 10 f fd ["_law_script"] (spLaw K) := by
  refine fnG_of F sc_law (fun vs H Q E h => ?_) (fun cdv A outer st H vs Q E gd hr h => ?_)
  · obtain ⟨a, ns, rfl, _⟩ := h
    rfl
  have hu := hr.units
  have hu1 := hu_of hr
  have hu2 : (A.deeper (envOfC "law" (defScope s_law) st.heap.objs.size f cdv)).units + 65 < cLine := by have := hr.un; omega
  refine ⟨_, (pss_cons (ps_for (passes_of rfl) rfl (pi_range1 (by rfl) T.n_range (pa_cons (pe_callB (call_max2 rfl) (by rfl) T.n_max (by decide +kernel) (pa_cons pe_int (pa_cons (pe_callB (call_min2 rfl) (by rfl) T.n_min (by decide +kernel) (pa_cons pe_int (pa_cons (pe_callB call_len_seq (by rfl) T.n_len (by decide +kernel) (pa_cons (pv 0) pa_nil)) pa_nil))) pa_nil))) pa_nil)) (pg_name (i := 1) sc_law.nd rfl (Or.inl rfl)) (pss_cons (ps_set (i := 2) sc_law.nd rfl (Or.inl rfl) (pe_callD d_bag (hr.mono (by decide)) (pa_cons (pv 0) (pa_cons (pv 1) pa_nil))))
    (pss_one (ps_for (passes_of rfl) rfl (pi_range1 (by rfl) T.n_range (pa_cons pe_int pa_nil)) (pg_name (i := 3) sc_law.nd rfl (Or.inl rfl)) (pss_cons (ps_set (i := 4) sc_law.nd rfl (Or.inl rfl) (pe_callD d_words (hr.mono (by decide)) (pa_cons (pv 2) pa_nil)))
    (pss_cons (ps_asg (pe_callD d_drawn (hr.mono (by decide)) (pa_cons (pv 2) (pa_cons (pe_callD d_farm (hr.mono (by decide)) (pa_cons (pv 2) (pa_cons (pv 4) (pa_cons pe_int (pa_cons pe_bl pa_nil))))) (pa_cons (pv 4) (pa_cons pe_int pa_nil))))) (pg_tup (by rfl) (pgs_cons (pg_name (i := 5) sc_law.nd rfl (Or.inr rfl)) (pgs_cons (pg_name (i := 6) sc_law.nd rfl (Or.inl rfl)) pgs_nil))))
    (pss_cons (ps_if (pt_cmpR op_notN (pe_callD d_told (hr.mono (by decide)) (pa_cons (pv 5) (pa_cons (pv 6) pa_nil))) pe_non (nomark _)) (pss_one (ps_ret pe_bl)) pss_nil)
    (pss_cons (ps_asg (pe_callD d_spoilt (hr.mono (by decide)) (pa_cons (pv 2) (pa_cons (pv 5) (pa_cons (pv 6) pa_nil)))) (pg_tup (by rfl) (pgs_cons (pg_name (i := 5) sc_law.nd rfl (Or.inr rfl)) (pgs_cons (pg_name (i := 6) sc_law.nd rfl (Or.inl rfl)) pgs_nil))))
    (pss_cons (ps_set (i := 7) sc_law.nd rfl (Or.inl rfl) (pe_callD d_due (hr.mono (by decide)) (pa_cons (pv 5) (pa_cons (pv 6) pa_nil))))
    (pss_cons (ps_if (PW.pt (pw_and (pt_cmpR op_eq (pe_callD d_take (hr.mono (by decide)) (pa_cons (pv 2) (pa_cons pe_int pa_nil))) pe_int (nomark _)) (pw_and1 (pt_cmpR (show OpR _ (compareOp .NotIn) (rNotInD K) from op_notInD hu2) (pv 7) (pe_lst (pa_cons pe_non (pa_cons (pe_tup (pa_cons pe_non (pa_cons pe_non pa_nil))) pa_nil))) (by rfl))))) (pss_cons (ps_set (i := 8) sc_law.nd rfl (Or.inl rfl) (pe_callTy (call_dictP rfl) (by rfl) T.n_dict (by decide +kernel) (pa_cons (pe_lock (pe_lc (own := [("_law_joint", 9)]) rfl sc_law.nd (pi_keys (pv 5)) (blkOk_by (N := N_law) (sc := defScope s_law) (by decide +kernel)) (fun _ _ _ _ _ => pg_name (i := 9) sc_law.nd rfl (Or.inl rfl)) (fun _ _ _ _ _ => (pts_one (pt_val (pe_callB (show CallR _ (.builtin "isinstance") (rIsi K) from call_isi) (by rfl) T.n_isinstance (by decide +kernel) (pa_cons (pe_dget hu1 (pv 5) (pv 9) (fun _ _ => rfl)) (pa_cons (pe_bltn (v := .ty "dict") (by rfl) T.n_dict (by decide +kernel) rfl) pa_nil)))))) (fun _ _ _ _ _ => (pe_tup (pa_cons (pv 9) (pa_cons (pe_dget hu1 (pv 5) (pv 9) (fun _ _ => rfl)) pa_nil)))))) pa_nil)))
    (pss_one (ps_set (i := 5) sc_law.nd rfl (Or.inr rfl) (pe_ifExp (pt_cmpR (op_neE hu) (pv 8) pe_dnewK (nomark _)) (pe_ix ix_tup (pe_callD d_spoilt (hr.mono (by decide)) (pa_cons (pv 2) (pa_cons (pv 8) (pa_cons (pv 6) pa_nil)))) pe_int (fun _ _ => rfl)) (pv 5))))) pss_nil)
    (pss_one (ps_if (pt_cmpR op_ne (pe_callB (call_reprD gd hu) (by rfl) T.n_repr (by decide +kernel) (pa_cons (pe_callD d_told (hr.mono (by decide)) (pa_cons (pv 5) (pa_cons (pv 6) pa_nil))) pa_nil)) (pe_callB (call_reprD gd hu) (by rfl) T.n_repr (by decide +kernel) (pa_cons (pe_callD d_due (hr.mono (by decide)) (pa_cons (pv 5) (pa_cons (pv 6) pa_nil))) pa_nil)) (nomark _)) (pss_one (ps_ret pe_bl)) pss_nil))))))))))))
    (pss_cons (ps_if (PW.pt (pw_or (pt_cmpR (op_neD hu) (pe_callD d_told (hr.mono (by decide)) (pa_cons pe_dnewK (pa_cons pe_int pa_nil))) (pe_tup (pa_cons pe_non (pa_cons pe_non pa_nil))) (nomark _)) (pw_or1 (pt_cmpR (op_neD hu) (pe_callD d_told (hr.mono (by decide)) (pa_cons (pe_disp (pps_cons pe_int pe_dnewK pps_nil) rfl rfl (by simp) (by decide)) (pa_cons pe_int pa_nil))) (pe_tup (pa_cons pe_non (pa_cons pe_non pa_nil))) (nomark _))))) (pss_one (ps_ret pe_bl)) pss_nil)
    (pss_one (ps_ret (pe_cmpR op_isN (pe_callD d_told (hr.mono (by decide)) (pa_cons (pe_disp (pps_cons pe_int (pe_disp (pps_cons pe_str pe_int pps_nil) rfl rfl (by simp) (by decide)) pps_nil) rfl rfl (by simp) (by decide)) (pa_cons pe_int pa_nil))) pe_non (nomark _)))))), ?_⟩
  obtain ⟨a, ns, rfl, hS, hlen, hq⟩ := h
  refine ⟨_, rfl, a, _, rfl, Or.inl hS, _, _, rfl, _, _, rfl, ?_⟩
  rw [List.length_map]
  have hm : ∃ m : Int, (if (if (ns.length : Int) < 6 then (ns.length : Int) else 6) > 2 then (if (ns.length : Int) < 6 then (ns.length : Int) else 6) else 2) = m ∧ 0 ≤ m ∧ m ≤ 6 := by
    refine ⟨_, rfl, ?_⟩
    split <;> split <;> omega
  obtain ⟨m, em, m0, m5⟩ := hm
  refine ⟨m, by rw [← em], by omega, by omega, for_range (lo := 0) (fun i σ H' => ∃ v1 v2 v3 v4 v5 v6 v7 v8 v9, σ = [some (.ref a), v1, v2, v3, v4, v5, v6, v7, v8, v9] ∧ SqL K H' a (ns.map V.int)) ⟨_, _, _, _, _, _, _, _, _, rfl, hS⟩ ?_ ?_⟩
  · rintro i σ H1 hi ⟨v1, v2, v3, v4, v5, v6, v7, v8, v9, rfl, hS1⟩
    refine ⟨_, rfl, _, rfl, a, _, ns, rfl, hS1, by omega, by omega, fun H2 b s2 hbn hb => ?_⟩
    refine ⟨8, rfl, by decide, by decide, for_range (lo := 0) (fun j σ H' => ∃ M v3 v4 v5 v6 v7 v8 v9, M ≤ 1000 * j ∧ σ = [some (.ref a), some (.int (0 + (i : Int))), some (.ref b), v3, v4, v5, v6, v7, v8, v9] ∧ Keep b H2 H' ∧ BagC H' b M) ⟨0, _, _, _, _, _, _, _, by omega, rfl, Keep.refl b H2, hb⟩ ?_ ?_⟩
    · rintro j σ H6 hj ⟨M, v3, v4, v5, v6, v7, v8, v9, lM, rfl, k6, b6⟩
      have lj : j < 8 := hj
      have hbm : b ∈ [b] := List.mem_singleton.mpr rfl
      refine ⟨_, rfl, b, M, rfl, b6, by omega, fun H7 p M7 l7 k7 b7 hw => ?_⟩
      refine ⟨_, rfl, _, rfl, _, rfl, b, p, 5, true, M7, rfl, b7, by omega, hw, by decide, by decide, fun H8 g M8 l8 k8 b8 hf => ?_⟩
      have hw8 := hw.stb (kb hbm k8)
      refine ⟨_, rfl, b, g, p, 4, M8, rfl, b8, by omega, hf, hw8, by decide, by decide, fun H9 q t tabs head M9 l9 k9 b9 nq hq9 hta hok hhead => ?_⟩
      refine ⟨q, _, rfl, SqT.of hq9, rfl, _, _, rfl, _, _, rfl, rfl, ?_⟩
      obtain ⟨htb, kvs, ntb, ht, hks, hrows⟩ := drawn_tb hta hok
      have hwt := drawn_w hok
      have hdn := drawn_due hok hhead
      refine ⟨_, rfl, _, rfl, _, _, some (tabO tabs), .int head, rfl, htb, (fun l e => by cases e; exact hwt), .int head, fun r v H10 hdue e10 hv => ?_⟩
      obtain rfl : r = none := due_one (fun l e => by cases e; exact hwt.1) hdue hdn
      obtain rfl : v = .non := hv
      refine ⟨rfl, _, rfl, ?_⟩
      refine ifN (fun _ => ?_) (fun h => absurd rfl h)
      have hW10 : Ex (wo [b] H9) (wo [b] H10) := wo_keep hbm (Same.keep e10)
      have b10 := b9.same e10
      refine ⟨_, rfl, _, rfl, _, rfl, b, t, .int head, M9, 6, 10, kvs, tabs.map (·.1), .int head, rfl, b10, by omega, ntb, e10 _ _ ht, hks, hok.1, (fun j hj => by
        obtain ⟨x, hx, rfl⟩ := List.mem_map.mp hj
        have := (hok.2.2.2 x hx).1
        exact ⟨this.1, by omega⟩), by rw [List.length_map]; exact hok.2.1, by rw [List.length_map]; exact hok.2.2.1, by decide, by decide, fun kv hkv => (hrows kv hkv).same hW10, .int head, fun H11 q2 M11 fv hv2 hd2 l11 k11 b11 nq2 hq2 hres hdq => ?_⟩
      refine ⟨q2, _, rfl, SqT.of hq2, rfl, _, _, rfl, _, _, rfl, rfl, ?_⟩
      have k2_11 : Keep b H2 H11 := (((k6.trans k7).trans k8).trans k9).trans ((Same.keep e10).trans k11)
      -- both are asked at the end
      have fin : ∀ {H' : Hp} {M' n m : Nat} {tv : V} {v3 v4 v7 v8 v9 : Option V} {D' : Ends}, (∀ H'', Ex H' H'' → D'.nx [some (.ref a), some (.int (0 + (i : Int))), some (.ref b), v3, v4, some tv, some hv2, v7, v8, v9] H'') → ResV n m (wo [b] H') tv → n ≤ 14 → m ≤ 14 → Dq (wo [b] H') hv2 hd2 →
          tIfS (tTest (tOp rNe (tCB (rRepr K) (tCons (tCall spTold [] E0 (tCons (tVar 5) (tCons (tVar 6) tNil))) tNil)) (tCB (rRepr K) (tCons (tCall spTold [] E0 (tCons (tVar 5) (tCons (tVar 6) tNil))) tNil)))) (tRet (tC (.bl false))) tNext D' [some (.ref a), some (.int (0 + (i : Int))), some (.ref b), v3, v4, some tv, some hv2, v7, v8, v9] H' := by
        intro H' M' n m tv v3 v4 v7 v8 v9 D' hnx hr hn hm hd'
        obtain ⟨o', htb', hw', _⟩ := hr.x hn hm
        refine ⟨_, rfl, _, rfl, tv, hv2, o', hd2, rfl, htb'.same wo_ex, hw', Dq.same wo_ex _ _ hd', fun r1 w1 Ha hdue1 ea hv1 => ?_⟩
        have rk1 := due_rok hdue1 hw'
        refine ⟨w1, vdP r1, rfl, vd_dp hv1, rk1.sh, rk1.nd, rk1.dp, rk1.ln, ?_⟩
        refine ⟨_, rfl, _, rfl, tv, hv2, o', hd2, rfl, (htb'.same wo_ex).same ea, hw', Dq.same ea _ _ (Dq.same wo_ex _ _ hd'), fun r2 w2 Hb hdue2 eb hv2' => ?_⟩
        obtain rfl : r2 = r1 := due_one (fun l e => (hw' l e).1) hdue2 hdue1
        refine ⟨w2, vdP r2, rfl, vd_dp hv2', rk1.sh, rk1.nd, rk1.dp, rk1.ln, ?_⟩
        refine ⟨rfl, _, rfl, ?_⟩
        refine ifN (fun _ => ?_) (fun h => absurd rfl h)
        exact hnx Hb (ea.trans eb)
      obtain ⟨o, htb2, hw2, hlk⟩ := hres.x (by decide) (by decide)
      refine ⟨_, rfl, _, rfl, fv, hv2, o, hd2, rfl, htb2.same wo_ex, hw2, Dq.same wo_ex _ _ hdq, fun r v H12 hdue e12 hv => ?_⟩
      have rk := due_rok hdue hw2
      have b12 := b11.same e12
      refine ek_take (B := [b]) (H := H12) (c := 3) rfl (by decide) M11 H12 (by omega) (Keep.refl b H12) (bgAt1 b12) _ fun x13 H13 M13 l13 k13 g13 ⟨tk, etk, _⟩ => ?_
      subst etk
      have hW13 : Ex (wo [b] H11) (wo [b] H13) := (wo_keep hbm (Same.keep e12)).trans (wo_keep hbm k13)
      have k2_13 : Keep b H2 H13 := (k2_11.trans (Same.keep e12)).trans k13
      have hv13 : VdV H12 v r := hv
      refine ⟨rfl, _, rfl, ?_⟩
      refine ev_ifZ (fun h0 => ?_) (fun h0 => ?_)
      rotate_left
      · exact fin (M' := M13) (fun H'' e => ⟨M13, _, _, _, _, _, _, _, by omega, rfl, k2_13.trans (Same.keep e), g13.bag.same e⟩) (hres.same hW13) (by decide) (by decide) (Dq.same hW13 _ _ hdq)
      -- is it a fault of a row
      refine ⟨_, rfl, by show 2 ≤ sizeLine; decide, fun q3 hq3 => ?_⟩
      have y14 : Ex H13 (upd H13 q3 (.tup [.non, .non])) := Ex.new hq3
      have hq314 : (upd H13 q3 (.tup [.non, .non])) q3 = some (.tup [.non, .non]) := upd_same
      generalize upd H13 q3 (.tup [.non, .non]) = H14 at *
      refine ⟨by show 2 ≤ sizeLine; decide, fun l3 hl3 => ?_⟩
      have y15 : Ex H14 (upd H14 l3 (.lst [.non, .ref q3])) := Ex.new hl3
      have hl315 : (upd H14 l3 (.lst [.non, .ref q3])) l3 = some (.lst [.non, .ref q3]) := upd_same
      generalize upd H14 l3 (.lst [.non, .ref q3]) = H15 at *
      have x1315 : Ex H13 H15 := y14.trans y15
      have vd15 : Dp K H15 v (vdP r) := by
        refine vd_dp (VdV.keep hv13 (BagC.not_tup b12) (k13.trans (Same.keep x1315)))
      have sh1 : SeqAt.shaped (vdP r) = true := by
        unfold SeqAt.shaped
        rw [rk.lay, Bool.true_and]
        exact decide_eq_true (by have := rk.dp; omega)
      refine ⟨vdP r, [.none, .tuple [.none, .none]], vd15, .lst (SqL.of hl315) (.cons .non (.cons (.tup (SqT.of (y15 _ _ hq314)) (.cons .non (.cons .non .nil))) .nil)), sh1, by decide +kernel, _, rfl, ?_⟩
      have hW15 : Ex (wo [b] H11) (wo [b] H15) := hW13.trans (wo_keep hbm (Same.keep x1315))
      have b15 := g13.bag.same x1315
      have k2_15 : Keep b H2 H15 := k2_13.trans (Same.keep x1315)
      refine ev_ifZ (fun hc => ?_) (fun hc => ?_)
      rotate_left
      · exact fin (M' := M13) (fun H'' e => ⟨M13, _, _, _, _, _, _, _, by omega, rfl, k2_15.trans (Same.keep e), b15.same e⟩) (hres.same hW15) (by decide) (by decide) (Dq.same hW15 _ _ hdq)
      have hdue' := hdue
      rcases hdue' with ⟨_, rfl⟩ | ⟨hbad, l, rfl, ⟨rfl, _⟩ | ⟨jj, row, nn, hjm, rfl, _⟩⟩
      · exact absurd hc (by decide +kernel)
      · exact absurd hc (by decide +kernel)
      obtain ⟨t', kvs', rfl, ht', htp, hne, hlk'⟩ := hlk l rfl
      obtain ⟨ntb', ht'⟩ := wo_get ht'
      have ntb' : t' ≠ b := fun z => ntb' (by rw [z]; exact hbm)
      have ht15 : H15 t' = some (.dK kvs') := x1315 _ _ (k13 _ _ ntb' (e12 _ _ ht'))
      have hj : (l.all fun x => keyJ x.1) = true := by
        have : (_ || _) = false := hbad
        rw [Bool.or_eq_false_iff] at this
        simpa using this.1
      have hkj : ∀ kv ∈ kvs', keyJ kv.1 = true := fun kv hkv => by
        have h1 : (kvs'.map (·.1)).all keyJ = true := by rw [← hlk', List.all_map]; exact hj
        rw [List.all_eq_true] at h1
        exact h1 _ (List.mem_map.mpr ⟨kv, hkv, rfl⟩)
      have htp15 := htp.same hW15
      -- the rows that are dicts
      refine ⟨t', .dK kvs', ht15, trivial, fun od => ?_⟩
      have htL : (upd H15 t' (.frz od (.dK kvs'))) t' = some (.frz od (.dK kvs')) := upd_same
      have oldL : ∀ a o, a ≠ t' → H15 a = some o → (upd H15 t' (.frz od (.dK kvs'))) a = some o := fun a o n h => by rw [upd_ne n]; exact h
      have unl : ∀ {H'}, Ex (upd H15 t' (.frz od (.dK kvs'))) H' → Ex H15 (upd H' t' (.dK kvs')) := fun e => ex_unlock ht15 e
      generalize upd H15 t' (.frz od (.dK kvs')) = L at *
      refine ⟨_, rfl, t', od, rfl, Or.inl ⟨kvs', htL, fun D hD => ?_⟩⟩
      have nDt : D ≠ t' := fun z => by rw [z, htL] at hD; cases hD
      refine lc_it walk_keys (fun n H' => Ex L H' ∧ ∃ Ms : List (Addr × (Key × V)), H' D = some (.lst ((Ms.map (·.1)).map V.ref)) ∧ (Ms.map (·.2)).Sublist (kvs'.take n) ∧ ∀ x ∈ Ms, H' x.1 = some (.tup [kV x.2.1, x.2.2]) ∧ RowV 11 (wo [b] H15) x.2.2)
        ⟨Ex.new hD, [], upd_same, List.nil_sublist _, fun _ h => nomatch h⟩ (fun n H' _ h => h.1 _ _ htL) ?_ ?_
      · rintro n x H3' H3 hn ⟨e3, Ms, hd3, hsub, hMs⟩ ⟨rfl, kk, vv, hkv, rfl⟩
        have hkm := List.mem_of_getElem? hkv
        have hvv : valV kvs' kk = some vv := val_of htp.1 hkm
        have dg : ∀ {H' : Hp}, Ex H3 H' → DGet H' t' (kV kk) (some vv) := fun ex => by
          have : DGet _ t' (kV kk) (valV kvs' kk) := Or.inl ⟨kvs', kk, Or.inr ⟨od, ex _ _ (e3 _ _ htL)⟩, rfl, rfl⟩
          rw [hvv] at this; exact this
        have hnv := hne _ hkm
        refine ⟨wipe_set, ?_⟩
        have htk : kvs'.take (n + 1) = kvs'.take n ++ [(kk, vv)] := by rw [List.take_add_one, hkv]; rfl
        rcases (htp15.2.2 _ hkm).2 with hno | hrow
        · have hno3 : NotD H3 vv := by
            refine NotD.but hno (fun a u h => ?_) (fun a u h => ?_)
            · obtain ⟨_, h⟩ := wo_get h
              exact e3 _ _ (oldL _ _ (fun z => by rw [z, ht15] at h; cases h) h)
            · obtain ⟨_, h⟩ := wo_get h
              exact e3 _ _ (oldL _ _ (fun z => by rw [z, ht15] at h; cases h) h)
          obtain ⟨ty, hty, hk⟩ := NotD.ty (K := K) hno3
          refine ⟨_, rfl, _, rfl, t', vv, rfl, dg (Ex.refl _), vv, .ty "dict", _, _, false, rfl, .ty _, hty, hk, _, rfl, ?_⟩
          refine iteF ⟨e3, Ms, hd3, by rw [htk]; exact hsub.trans (List.sublist_append_left _ _), hMs⟩
        · obtain ⟨e, ekvs, rfl, he, hrp, hre⟩ := id hrow
          obtain ⟨_, he⟩ := wo_get he
          have het : e ≠ t' := fun z => hnv (by rw [z])
          have he3 := e3 _ _ (oldL _ _ het he)
          refine ⟨_, rfl, _, rfl, t', _, rfl, dg (Ex.refl _), .ref e, .ty "dict", _, _, true, rfl, .ty _, .base (.dK he3), kit_ty (by decide +kernel), _, rfl, ?_⟩
          refine iteT ?_
          refine ⟨_, rfl, _, rfl, _, rfl, t', _, rfl, dg (Ex.refl _), by show 2 ≤ sizeLine; decide, fun q hq' => ?_⟩
          have x5 : Ex H3 (upd H3 q (.tup [kV kk, .ref e])) := Ex.new hq'
          have hq5 : (upd H3 q (.tup [kV kk, .ref e])) q = some (.tup [kV kk, .ref e]) := upd_same
          generalize upd H3 q (.tup [kV kk, .ref e]) = H5 at *
          have hd5 := x5 _ _ hd3
          have hMl : Ms.length ≤ 14 := by
            have h1 := hsub.length_le
            rw [List.length_map, List.length_take] at h1
            have := htp.2.1; omega
          have tD : ∀ a xs, H5 a = some (.tup xs) → (upd H5 D (.lst ((Ms.map (·.1)).map V.ref ++ [V.ref q]))) a = some (.tup xs) := fun a xs h => by rw [upd_ne (fun z => by rw [z, hd5] at h; cases h)]; exact h
          refine ⟨_, hd5, Evl.sz_lt (by rw [List.length_map, List.length_map]; omega), Ex.mut (e3.trans x5) hD, Ms ++ [(q, (kk, .ref e))], ?_, ?_, fun x hx => ?_⟩
          · rw [upd_same, List.map_append, List.map_append]; rfl
          · rw [List.map_append, htk]; exact hsub.append (List.Sublist.refl _)
          · rcases List.mem_append.mp hx with hx | hx
            · obtain ⟨a1, a2⟩ := hMs x hx
              exact ⟨tD _ _ (x5 _ _ a1), a2⟩
            · rw [List.mem_singleton.mp hx]
              exact ⟨tD _ _ hq5, hrow⟩
      rintro H3 ⟨e3, Ms, hd3, hsub, hMs⟩
      rw [List.take_length] at hsub
      have htL3 := e3 _ _ htL
      refine ⟨htL3, ?_⟩
      have x16 : Ex H15 (upd H3 t' (.dK kvs')) := unl e3
      have hd16 : (upd H3 t' (.dK kvs')) D = some (.lst ((Ms.map (·.1)).map V.ref)) := by rw [upd_ne nDt]; exact hd3
      have hM16 : ∀ x ∈ Ms, (upd H3 t' (.dK kvs')) x.1 = some (.tup [kV x.2.1, x.2.2]) ∧ RowV 11 (wo [b] H15) x.2.2 := fun x hx => by
        obtain ⟨a1, a2⟩ := hMs x hx
        exact ⟨by rw [upd_ne (fun z => by rw [z, htL3] at a1; cases a1)]; exact a1, a2⟩
      generalize upd H3 t' (.dK kvs') = H16 at *
      have hsn : ((Ms.map (·.2)).map (·.1)).Nodup := (hsub.map (·.1)).nodup htp.1
      refine ⟨D, Ms.map (·.1), Ms.map (·.2), rfl, SqL.of hd16, paired_map fun x hx => SqT.of (hM16 x hx).1, fun s hs => ?_⟩
      rw [merge_app hsn (fun _ _ => rfl), List.nil_append]
      have x17 : Ex H16 (upd H16 s (.dK (Ms.map (·.2)))) := Ex.new hs
      have hs17 : (upd H16 s (.dK (Ms.map (·.2)))) s = some (.dK (Ms.map (·.2))) := upd_same
      generalize upd H16 s (.dK (Ms.map (·.2))) = H17 at *
      have x1517 : Ex H15 H17 := x16.trans x17
      have b17 := b15.same x1517
      have nsb : s ≠ b := BagC.ne (b15.same x16) hs
      have hkm2 : ∀ kv ∈ Ms.map (·.2), kv ∈ kvs' := fun kv h => hsub.subset h
      have hrow2 : ∀ kv ∈ Ms.map (·.2), RowV 11 (wo [b] H15) kv.2 := fun kv h => by
        obtain ⟨x, hx, rfl⟩ := List.mem_map.mp h
        exact (hM16 x hx).2
      generalize Ms.map (·.2) = skv at *
      refine ⟨_, rfl, fun e he => ?_⟩
      have x18 : Ex H17 (upd H17 e (.dK [])) := Ex.new he
      have he18 : (upd H17 e (.dK [])) e = some (.dK []) := upd_same
      generalize upd H17 e (.dK []) = H18 at *
      have x1518 := x1517.trans x18
      have hW18 : Ex (wo [b] H11) (wo [b] H18) := hW15.trans (wo_keep hbm (Same.keep x1518))
      have b18 := b15.same x1518
      have k2_18 : Keep b H2 H18 := k2_15.trans (Same.keep x1518)
      refine ⟨s, e, skv, rfl, rfl, x18 _ _ hs17, he18, _, rfl, ?_⟩
      refine ev_ifZ (fun hc2 => ?_) (fun hc2 => ?_)
      rotate_left
      · exact ⟨_, rfl, fin (M' := M13) (fun H'' e => ⟨M13, _, _, _, _, _, _, _, by omega, rfl, k2_18.trans (Same.keep e), b18.same e⟩) (hres.same hW18) (by decide) (by decide) (Dq.same hW18 _ _ hdq)⟩
      obtain ⟨js, hjs⟩ := keys_int (ks := skv.map (·.1)) (by
        rw [List.all_eq_true]
        intro k hk
        obtain ⟨kv, hkv, rfl⟩ := List.mem_map.mp hk
        exact hkj kv (hkm2 kv hkv))
      have hjl : js.length = skv.length := by
        have := congrArg List.length hjs
        rw [List.length_map, List.length_map] at this; exact this.symm
      have hjn : js.Nodup := by
        rw [hjs] at hsn
        exact nodup_of_map hsn
      refine ⟨_, rfl, _, rfl, _, rfl, b, s, hv2, M13, 7, 11, skv, js, hd2, rfl, b18, by omega, nsb, x18 _ _ hs17, hjs, hjn, (fun j hj => ?_), ?_, ?_, by decide, by decide, (fun kv hkv => (hrow2 kv hkv).same (wo_keep hbm (Same.keep x1518))), Dq.same hW18 _ _ hdq, fun H19 q4 M19 fv4 hv4 hd4 l19 k19 b19 nq4 hq4 hres4 hdq4 => ?_⟩
      · have : (Sum.inl j : Key) ∈ skv.map (·.1) := by rw [hjs]; exact List.mem_map.mpr ⟨j, hj, rfl⟩
        obtain ⟨kv, hkv, ek⟩ := List.mem_map.mp this
        have h1 := hkj kv (hkm2 kv hkv)
        have h2 := (htp.2.2 kv (hkm2 kv hkv)).1
        rw [ek] at h1 h2
        exact ⟨of_decide_eq_true h1, h2.2⟩
      · rw [hjl]
        cases skv with
        | nil => cases hc2
        | cons _ _ => simp
      · rw [hjl]
        exact Nat.le_trans hsub.length_le htp.2.1
      refine ⟨q4, _, _, _, rfl, rfl, SqT.of hq4, rfl, ?_⟩
      have hW19 : Ex (wo [b] H18) (wo [b] H19) := wo_keep hbm k19
      exact fin (M' := M19) (fun H'' e => ⟨M19, _, _, _, _, _, _, _, by omega, rfl, (k2_18.trans k19).trans (Same.keep e), b19.same e⟩) hres4 (by decide) (by decide) (Dq.same (hW18.trans hW19) _ _ hdq)
    · rintro σ H6 ⟨M, v3, v4, v5, v6, v7, v8, v9, lM, rfl, k6, b7⟩
      refine ⟨_, _, _, _, _, _, _, _, _, rfl, ?_⟩
      exact seq_keep_new hS1 hbn ((Same.keep s2).trans k6)
  · rintro σ H1 ⟨v1, v2, v3, v4, v5, v6, v7, v8, v9, rfl, _⟩
    have nn : SeqAt.shaped (.tuple [.none, .none]) = true ∧ PyData.eqv (.tuple [.none, .none]) (.tuple [.none, .none]) = true := ⟨by decide +kernel, by decide +kernel⟩
    refine fun e1 he1 => ?_
    have x2 : Ex H1 (upd H1 e1 (.dK [])) := Ex.new he1
    have he2 : (upd H1 e1 (.dK [])) e1 = some (.dK []) := upd_same
    generalize upd H1 e1 (.dK []) = H2 at *
    have w1 : ∀ l, some ([] : TabX) = some l → TabW' l := fun l e => by
      cases e
      exact ⟨.nil, Nat.zero_le _, (fun x h => by cases h), (fun x h => by cases h)⟩
    refine ⟨_, .int 0, some [], .int 0, rfl, ⟨e1, [], rfl, he2, .nil⟩, w1, .int 0, fun r v H3 hdue e3 hv => ?_⟩
    obtain rfl : r = some (none, none) := due_one (fun l e => (w1 l e).1) hdue (Or.inl ⟨rfl, rfl⟩)
    refine ⟨by show 2 ≤ sizeLine; decide, fun q4 hq4 => ?_⟩
    have x4 : Ex H3 (upd H3 q4 (.tup [.non, .non])) := Ex.new hq4
    refine ⟨_, _, vd_dp (hv.same x4), .tup (SqT.of upd_same) (.cons .non (.cons .non .nil)), nn.1, nn.1, _, rfl, ?_⟩
    rw [show PyData.eqv (vdP (some (none, none))) (.tuple [.none, .none]) = true from nn.2]
    refine iteF ?_
    generalize upd H3 q4 (.tup [.non, .non]) = H4 at *
    refine fun p5 hp5 e5 he5 => ?_
    have nep : e5 ≠ p5 := fun z => by rw [z, upd_same] at he5; cases he5
    refine ⟨by rw [upd_ne nep.symm]; exact upd_same, [(.inl 1, .ref e5)], rfl, by show 1 ≤ 15; decide, ?_⟩
    rw [show mergeK [] [((Sum.inl 1 : Key), V.ref e5)] = [((Sum.inl 1 : Key), V.ref e5)] from rfl]
    have hp6 : (upd (upd (upd H4 p5 (.dK [])) e5 (.dK [])) p5 (.dK [((Sum.inl 1 : Key), V.ref e5)])) p5 = some (.dK [((Sum.inl 1 : Key), V.ref e5)]) := upd_same
    have he6 : (upd (upd (upd H4 p5 (.dK [])) e5 (.dK [])) p5 (.dK [((Sum.inl 1 : Key), V.ref e5)])) e5 = some (.dK []) := by rw [upd_ne nep]; exact upd_same
    generalize upd (upd (upd H4 p5 (.dK [])) e5 (.dK [])) p5 (.dK [((Sum.inl 1 : Key), V.ref e5)]) = H6 at *
    have w2 : ∀ l, some ([(Sum.inl 1, some [])] : TabX) = some l → TabW' l := fun l e => by
      cases e
      refine ⟨by simp, by show 1 ≤ 14; decide, fun x hx => ?_, fun x hx r hr => ?_⟩
      · rw [List.mem_singleton.mp hx]; exact ⟨by decide, by decide⟩
      · rw [List.mem_singleton.mp hx] at hr
        cases hr
        exact ⟨.nil, Nat.zero_le _, fun _ h => nomatch h⟩
    refine ⟨_, .int 0, some [(.inl 1, some [])], .int 0, rfl, ⟨p5, _, rfl, hp6, .cons ⟨rfl, ⟨e5, [], rfl, he6, .nil⟩, fun z => nep (V.ref.inj z)⟩ .nil⟩, w2, .int 0, fun r v H7 hdue e7 hv => ?_⟩
    obtain rfl : r = some (none, none) := due_one (fun l e => (w2 l e).1) hdue (Or.inl ⟨by decide +kernel, rfl⟩)
    refine ⟨by show 2 ≤ sizeLine; decide, fun q8 hq8 => ?_⟩
    have x8 : Ex H7 (upd H7 q8 (.tup [.non, .non])) := Ex.new hq8
    refine ⟨_, _, vd_dp (hv.same x8), .tup (SqT.of upd_same) (.cons .non (.cons .non .nil)), nn.1, nn.1, _, rfl, ?_⟩
    rw [show PyData.eqv (vdP (some (none, none))) (.tuple [.none, .none]) = true from nn.2]
    refine iteF ?_
    generalize upd H7 q8 (.tup [.non, .non]) = H8 at *
    refine fun p9 hp9 e9 he9 => ?_
    have nep9 : e9 ≠ p9 := fun z => by rw [z, upd_same] at he9; cases he9
    refine ⟨upd_same, [(.inr "a", .int 0)], rfl, by show 1 ≤ 15; decide, ?_⟩
    rw [show mergeK [] [((Sum.inr "a" : Key), V.int 0)] = [((Sum.inr "a" : Key), V.int 0)] from rfl]
    refine ⟨by rw [upd_ne nep9.symm, upd_ne nep9.symm]; exact upd_same, [(.inl 0, .ref e9)], rfl, by show 1 ≤ 15; decide, ?_⟩
    rw [show mergeK [] [((Sum.inl 0 : Key), V.ref e9)] = [((Sum.inl 0 : Key), V.ref e9)] from rfl]
    have hpA : (upd (upd (upd (upd H8 p9 (.dK [])) e9 (.dK [])) e9 (.dK [((Sum.inr "a" : Key), V.int 0)])) p9 (.dK [((Sum.inl 0 : Key), V.ref e9)])) p9 = some (.dK [((Sum.inl 0 : Key), V.ref e9)]) := upd_same
    have heA : (upd (upd (upd (upd H8 p9 (.dK [])) e9 (.dK [])) e9 (.dK [((Sum.inr "a" : Key), V.int 0)])) p9 (.dK [((Sum.inl 0 : Key), V.ref e9)])) e9 = some (.dK [((Sum.inr "a" : Key), V.int 0)]) := by rw [upd_ne nep9]; exact upd_same
    generalize upd (upd (upd (upd H8 p9 (.dK [])) e9 (.dK [])) e9 (.dK [((Sum.inr "a" : Key), V.int 0)])) p9 (.dK [((Sum.inl 0 : Key), V.ref e9)]) = HA at *
    have w3 : ∀ l, some ([(Sum.inl 0, some [("a", some (.int 0))])] : TabX) = some l → TabW' l := fun l e => by
      cases e
      refine ⟨by simp, by show 1 ≤ 14; decide, fun x hx => ?_, fun x hx r hr => ?_⟩
      · rw [List.mem_singleton.mp hx]; exact ⟨by decide, by decide⟩
      · rw [List.mem_singleton.mp hx] at hr
        cases hr
        exact ⟨by simp, by show 1 ≤ 14; decide, fun y hy => by rw [List.mem_singleton.mp hy]; exact nm_okT (by decide +kernel)⟩
    refine ⟨_, .int 0, some [(.inl 0, some [("a", some (.int 0))])], .int 0, rfl, ⟨p9, _, rfl, hpA, .cons ⟨rfl, ⟨e9, _, rfl, heA, .cons ⟨rfl, .int 0, fun z => nomatch z⟩ .nil⟩, fun z => nep9 (V.ref.inj z)⟩ .nil⟩, w3, .int 0, fun r v H7 hdue e7 hv => ?_⟩
    obtain rfl : r = none := due_one (fun l e => (w3 l e).1) hdue (Or.inr ⟨by decide +kernel, _, rfl, Or.inl ⟨rfl, fun x hx => by rw [List.mem_singleton.mp hx]; decide +kernel⟩⟩)
    obtain rfl : v = .non := hv
    exact ⟨rfl, hq _⟩
end
end KD

set_option Elab.async false
set_option linter.all false
set_option maxRecDepth 100000
set_option maxHeartbeats 4000000
namespace LF
open PySem PySem.Spec PyProof.Rows L2
/-- the heap at the law's entry: what a promise that is asked where no repr is under way gives -/
theorem lawG_call {P : Program} {w : World} {K : PySem.W.Frag} {mg mb : Str → Option Value} {k : Nat} {fa a : Addr} {fd : FuncData} {x : Str} {sp : Sp} {s1 : Shared} {us : List Value} {ns : List Int}
    (KX : K.In s1.heap) (hns : s1.heap.Ns mainGlobals mg) (hbn : s1.heap.Ns builtinsNs mb) (hbb : ∀ y : Str, y ≠ "__name__" → mb y = bootBuiltins y) (hlim : s1.heap.NoLimit) (hgens : s1.gens = #[])
    (ha : s1.heap.get? a = some { cls := .type "list", data := .seq us.toArray }) (hi : IntsAre us ns) (hl : ns.length ≤ sizeLine) (hr : Room k callerA)
    (F : ∀ base : Heap, K.In base → base.Ns mainGlobals mg → FnG P w K mg base CX0 k fa fd [x] sp)
    (hbind : ∀ (s : Shared) (u : Value), BindsTo s fd ⟨[u], []⟩ [(x, u)])
    (hsp : ∀ H : Hp, SqL K H a (ns.map V.int) → sp [.ref a] H (fun v _ => v = .bl true) (fun _ _ _ => False)) :
    codeAny (model P w) callerA (.call (.ref fa) ⟨[.ref a], []⟩)
      (fun r s' => r = .ok (.ret (.bool true)) ∧ OldK s1.heap s'.heap ∧ s'.os = s1.os ∧ AllBare s'.gens) s1 := by
  have hlv := hi.length
  -- from any abstract heap that tracks at most the script
  have main : ∀ H : Hp, (∀ b, H b = none ∨ ∃ o xs, H b = some (.frz o (.lst xs))) → SqL K H a (ns.map V.int) → HOk P w H s1.heap → (∀ b, H b ≠ none → b = a) → (H a ≠ none → K.lookup a = none) →
      codeAny (model P w) callerA (.call (.ref fa) ⟨[.ref a], []⟩)
        (fun r s' => r = .ok (.ret (.bool true)) ∧ OldK s1.heap s'.heap ∧ s'.os = s1.os ∧ AllBare s'.gens) s1 := by
    intro H only hS hok onlyA notK
    have dictFree : ∀ {b : Addr} {o : Obj} {es : Array DictEntry} {ep : Nat}, s1.heap.get? b = some o → o.data = .dict es ep → H b = none := by
      intro b o es ep e d
      cases q : H b with
      | none => rfl
      | some u =>
        have hb := onlyA b (by rw [q]; simp)
        rw [hb, ha] at e
        have e' := Option.some.inj e
        rw [← e'] at d
        cases d
    have nsH : ∀ {b : Addr} {m : Str → Option Value}, s1.heap.Ns b m → (hidT s1.heap H).Ns b m := by
      rintro b m ⟨o, es, ep, e, d, rest⟩
      exact ⟨o, es, ep, hidT_get e (dictFree e d), d, rest⟩
    have KH : K.In (hidT s1.heap H) := by
      intro b o e
      refine hidT_get (KX b o e) ?_
      cases q : H b with
      | none => rfl
      | some u =>
        have hb := onlyA b (by rw [q]; simp)
        subst hb
        have := notK (by rw [q]; simp)
        rw [this] at e
        cases e
    have lim2 : (hidT s1.heap H).NoLimit := by
      obtain ⟨mc, h1, h2⟩ := hlim
      exact ⟨mc, nsH h1, h2⟩
    have hM : Mod K mg (hidT s1.heap H) := ⟨KH, nsH hns, ⟨mb, nsH hbn, hbb⟩, lim2⟩
    have nof : ∀ b : Addr, b ∈ frs ([] : List Env) → False := fun b hb => nomatch (show b ∈ ([] : List Addr) from hb)
    have e0 : Env0 P w K mg (hidT s1.heap H) callerA [] s1 H :=
      ⟨rfl, hM, fun b o e => of_hidT e, Nat.le_of_eq (hidT_size _ _), trivial, fun b hb => (nof b hb).elim, hok, .of_eq hgens⟩
    have run := (F _ KH (nsH hns)).go callerA [] s1 H ⟨[.ref a], []⟩ [.ref a] [.ref a] _ _ rfl hr e0 (hbind s1 (.ref a)) (.cons rfl .nil) (hsp H hS)
    refine codeAny_mono run ?_
    intro r s' h
    cases r with
    | error e => exact h.elim
    | ok fl =>
      cases fl with
      | next => exact h.elim
      | brk => exact h.elim
      | cont => exact h.elim
      | ret u =>
        obtain ⟨v, H', hos, hbare, un, hok', hv, hq⟩ := h
        have hq' : v = V.bl true := hq
        subst hq'
        have hu : u = Value.bool true := hv
        subst hu
        refine ⟨rfl, OldK.of_keep ?_, hos, hbare⟩
        intro b o e
        rcases only b with q | ⟨ob, xs, q⟩
        · exact un.keep b o e q (fun z => nof b z) (fun z => nomatch z)
        · have g1 := (hok b _ q).1
          have g2 := (hok' b _ (un.frzs b ob _ q)).1
          rw [e] at g1
          rw [Option.some.inj g1]
          exact g2
  have rv := vals_ints hi
  cases hk : K.lookup a with
  | some o =>
    have e := KX a o hk
    rw [ha] at e
    have e' := Option.some.inj e
    subst e'
    refine main (fun _ => none) (fun _ => Or.inl rfl) (Or.inr ⟨_, us.toArray, _, hk, rfl, rfl, rfl, ?_, ?_⟩) (fun b u z => nomatch (show (none : Option HO) = some u from z)) (fun b z => absurd rfl z) (fun z => absurd rfl z)
    · rw [List.size_toArray, hlv]; exact hl
    · simpa using rv
  | none =>
    let O : Obj := { cls := .type "list", data := .seq us.toArray }
    have at1 : ∀ b : Addr, b = a → (fun c : Addr => if c = a then some (HO.frz O (.lst (ns.map V.int))) else none) b = some (HO.frz O (.lst (ns.map V.int))) := fun b hb => if_pos hb
    have at0 : ∀ b : Addr, b ≠ a → (fun c : Addr => if c = a then some (HO.frz O (.lst (ns.map V.int))) else none) b = none := fun b hb => if_neg hb
    refine main (fun c => if c = a then some (HO.frz O (.lst (ns.map V.int))) else none) ?_ (Or.inl (Or.inr ⟨O, at1 a rfl⟩)) ?_ ?_ (fun _ => hk)
    · intro b
      by_cases hb : b = a
      · exact Or.inr ⟨O, _, at1 b hb⟩
      · exact Or.inl (at0 b hb)
    · intro b u z
      by_cases hb : b = a
      · have z' := (at1 b hb).symm.trans z
        have z2 := Option.some.inj z'
        subst z2
        subst hb
        exact ⟨ha, by rw [List.length_map]; exact hl, us, _, rv, ha⟩
      · have z' := (at0 b hb).symm.trans z
        cases z'
    · intro b z
      by_cases hb : b = a
      · exact hb
      · exact absurd (at0 b hb) z
theorem walkG {l : PySem.W.OpenLaw} {n k : Nat} {q : Program} {loose : List Str} {XP : (Str → Option Value) → Heap → Prop} {YP : World → Heap → Prop} {d : DefRec} {K : Params → PySem.W.Frag} {sp : PySem.W.Frag → Sp} {x : Str}
    (hn : l.most = some n) (hn2 : n ≤ sizeLine) (hdf : d.params.defaults = []) (hr : Room k callerA) (hY : ∀ (w : World) (h : Heap), YP w h → (K w.params).In h)
    (F : ∀ (w : World) (mg : Str → Option Value) (fa : Addr) (h : Heap), (K w.params).In h → h.Ns mainGlobals mg → mg d.name = some (.ref fa) →
      ∃ fd : FuncData, (∀ (s : Shared) (u : Value), BindsTo s fd ⟨[u], []⟩ [(x, u)]) ∧
        ∀ base : Heap, (K w.params).In base → base.Ns mainGlobals mg → FnG l.prog w (K w.params) mg base CX0 k fa fd [x] (sp (K w.params)))
    (hsp : ∀ (K : PySem.W.Frag) (H : Hp) (a : Addr) (ns : List Int), ns.length ≤ n → SqL K H a (ns.map V.int) → sp K [.ref a] H (fun v _ => v = .bl true) (fun _ _ _ => False)) :
    PySem.W.WalkO q loose XP YP l.row.toRowW d [] (fun f vs => PySem.call f vs) := by
  refine Att.attach_call hn hdf ?_
  intro w s₀ s₁ mg mb fa o pm cd doc a us ns G Y ho hd hcd hmg hobj hints hlen hgens
  have KX := hY w _ Y
  obtain ⟨fd, hb, hF⟩ := F w mg fa _ KX G.T.g hmg
  exact lawG_call KX G.T.g G.T.b G.T.builtins G.T.nolimit hgens hobj hints (Nat.le_trans hlen hn2) hr hF hb (fun H hS => hsp _ H a ns hlen hS)
end LF

set_option Elab.async false
set_option linter.all false
set_option maxRecDepth 100000
set_option maxHeartbeats 4000000
namespace KD
open PySem PySem.Spec PyProof.Rows L2 LF
theorem all_mk {P : Program} {w : World} {K : PySem.W.Frag} {h : Heap} {mg : Str → Option Value} {fa f1 f2 f3 f4 f5 f6 f7 f8 f9 f10 f11 f12 f13 f14 f15 f16 f17 f18 f19 f20 f21 f22 f23 f24 f25 : Addr} (X : K.In h) (G : h.Ns mainGlobals mg) (hfa : mg "law" = some (.ref fa))
    {tk2 : Tok} {od1 an1 od2 an2 od3 an3 od4 an4 od5 an5 od6 an6 od7 an7 od8 an8 od9 an9 od10 an10 od11 an11 od12 an12 od13 an13 od14 an14 od15 an15 od16 an16 od17 an17 od18 an18 od19 an19 od20 an20 od21 an21 od22 an22 od23 an23 od24 an24 od25 an25 : Option Addr} {sl1 sl2 sl3 sl4 sl5 sl6 sl7 sl8 sl9 sl10 sl11 sl12 sl13 sl14 sl15 sl16 sl17 sl18 sl19 sl20 sl21 sl22 sl23 sl24 sl25 : Array (Option Value)} {oc1 kV1 dc1 pm1 cd1 ct1 oc2 kV2 dc2 pm2 cd2 ct2 oc3 kV3 dc3 pm3 cd3 ct3 oc4 kV4 dc4 pm4 cd4 ct4 oc5 kV5 dc5 pm5 cd5 ct5 oc6 kV6 dc6 pm6 cd6 ct6 oc7 kV7 dc7 pm7 cd7 ct7 oc8 kV8 dc8 pm8 cd8 ct8 oc9 kV9 dc9 pm9 cd9 ct9 oc10 kV10 dc10 pm10 cd10 ct10 oc11 kV11 dc11 pm11 cd11 ct11 oc12 kV12 dc12 pm12 cd12 ct12 oc13 kV13 dc13 pm13 cd13 ct13 oc14 kV14 dc14 pm14 cd14 ct14 oc15 kV15 dc15 pm15 cd15 ct15 oc16 kV16 dc16 pm16 cd16 ct16 oc17 kV17 dc17 pm17 cd17 ct17 oc18 kV18 dc18 pm18 cd18 ct18 oc19 kV19 dc19 pm19 cd19 ct19 oc20 kV20 dc20 pm20 cd20 ct20 oc21 kV21 dc21 pm21 cd21 ct21 oc22 kV22 dc22 pm22 cd22 ct22 oc23 kV23 dc23 pm23 cd23 ct23 oc24 kV24 dc24 pm24 cd24 ct24 oc25 kV25 dc25 pm25 cd25 ct25 : Value} {C fI KDD CB fB : Addr} {tkd : Tok} {odI anI odB anB : Option Addr} {slI slB : Array (Option Value)} {ocI dcI pmI cdI ctI ocB kVB dcB pmB cdB ctB : Value} {nm q : Str} {N : Addr} {bs : List Value} {sn : List Str} {sub : List Value} {ab : Bool} {col : Option Bool} {dd : Option Addr} {m0 m1 m2 m3 m5 : Option Value}
    (zI0 : PySem.W.nsIn K mainGlobals "LONGEST_NAME" = some (some (.int 8 tk2)))
    (z_isinstance : PySem.W.nsIn K mainGlobals "isinstance" = some none)
    (z_str : PySem.W.nsIn K mainGlobals "str" = some none)
    (z_len : PySem.W.nsIn K mainGlobals "len" = some none)
    (z_all : PySem.W.nsIn K mainGlobals "all" = some none)
    (z_any : PySem.W.nsIn K mainGlobals "any" = some none)
    (z_tuple : PySem.W.nsIn K mainGlobals "tuple" = some none)
    (z_list : PySem.W.nsIn K mainGlobals "list" = some none)
    (z_dict : PySem.W.nsIn K mainGlobals "dict" = some none)
    (z_sorted : PySem.W.nsIn K mainGlobals "sorted" = some none)
    (z_range : PySem.W.nsIn K mainGlobals "range" = some none)
    (z_zip : PySem.W.nsIn K mainGlobals "zip" = some none)
    (z_enumerate : PySem.W.nsIn K mainGlobals "enumerate" = some none)
    (z_set : PySem.W.nsIn K mainGlobals "set" = some none)
    (z_abs : PySem.W.nsIn K mainGlobals "abs" = some none)
    (z_int : PySem.W.nsIn K mainGlobals "int" = some none)
    (z_bool : PySem.W.nsIn K mainGlobals "bool" = some none)
    (z_repr : PySem.W.nsIn K mainGlobals "repr" = some none)
    (z_max : PySem.W.nsIn K mainGlobals "max" = some none)
    (z_min : PySem.W.nsIn K mainGlobals "min" = some none)
    (z_ValueError : PySem.W.nsIn K mainGlobals "ValueError" = some none)
    (a1 : PySem.W.nsIn K mainGlobals "is_name" = some (some (.ref f1)))
    (l1 : K.lookup f1 = some ⟨oc1, od1, .func (PySem.W.fnOf "is_name" "is_name" (defArgs s_is_name) (defBody s_is_name) (defScope s_is_name) .none kV1 dc1 pm1 an1 cd1 ct1), sl1⟩)
    (c1 : PySem.W.codeIn K cd1 "is_name" = true)
    (k1 : PySem.W.keepIn K (.ref f1) = true)
    (a2 : PySem.W.nsIn K mainGlobals "is_path" = some (some (.ref f2)))
    (l2 : K.lookup f2 = some ⟨oc2, od2, .func (PySem.W.fnOf "is_path" "is_path" (defArgs s_is_path) (defBody s_is_path) (defScope s_is_path) .none kV2 dc2 pm2 an2 cd2 ct2), sl2⟩)
    (c2 : PySem.W.codeIn K cd2 "is_path" = true)
    (k2 : PySem.W.keepIn K (.ref f2) = true)
    (a3 : PySem.W.nsIn K mainGlobals "is_integer" = some (some (.ref f3)))
    (l3 : K.lookup f3 = some ⟨oc3, od3, .func (PySem.W.fnOf "is_integer" "is_integer" (defArgs s_is_integer) (defBody s_is_integer) (defScope s_is_integer) .none kV3 dc3 pm3 an3 cd3 ct3), sl3⟩)
    (c3 : PySem.W.codeIn K cd3 "is_integer" = true)
    (k3 : PySem.W.keepIn K (.ref f3) = true)
    (a4 : PySem.W.nsIn K mainGlobals "is_joint" = some (some (.ref f4)))
    (l4 : K.lookup f4 = some ⟨oc4, od4, .func (PySem.W.fnOf "is_joint" "is_joint" (defArgs s_is_joint) (defBody s_is_joint) (defScope s_is_joint) .none kV4 dc4 pm4 an4 cd4 ct4), sl4⟩)
    (c4 : PySem.W.codeIn K cd4 "is_joint" = true)
    (k4 : PySem.W.keepIn K (.ref f4) = true)
    (a5 : PySem.W.nsIn K mainGlobals "is_place_in_package" = some (some (.ref f5)))
    (l5 : K.lookup f5 = some ⟨oc5, od5, .func (PySem.W.fnOf "is_place_in_package" "is_place_in_package" (defArgs s_is_place_in_package) (defBody s_is_place_in_package) (defScope s_is_place_in_package) .none kV5 dc5 pm5 an5 cd5 ct5), sl5⟩)
    (c5 : PySem.W.codeIn K cd5 "is_place_in_package" = true)
    (k5 : PySem.W.keepIn K (.ref f5) = true)
    (a6 : PySem.W.nsIn K mainGlobals "check_tables" = some (some (.ref f6)))
    (l6 : K.lookup f6 = some ⟨oc6, od6, .func (PySem.W.fnOf "check_tables" "check_tables" (defArgs s_check_tables) (defBody s_check_tables) (defScope s_check_tables) .none kV6 dc6 pm6 an6 cd6 ct6), sl6⟩)
    (c6 : PySem.W.codeIn K cd6 "check_tables" = true)
    (k6 : PySem.W.keepIn K (.ref f6) = true)
    (a7 : PySem.W.nsIn K mainGlobals "is_target_in" = some (some (.ref f7)))
    (l7 : K.lookup f7 = some ⟨oc7, od7, .func (PySem.W.fnOf "is_target_in" "is_target_in" (defArgs s_is_target_in) (defBody s_is_target_in) (defScope s_is_target_in) .none kV7 dc7 pm7 an7 cd7 ct7), sl7⟩)
    (c7 : PySem.W.codeIn K cd7 "is_target_in" = true)
    (k7 : PySem.W.keepIn K (.ref f7) = true)
    (a8 : PySem.W.nsIn K mainGlobals "sorted_row" = some (some (.ref f8)))
    (l8 : K.lookup f8 = some ⟨oc8, od8, .func (PySem.W.fnOf "sorted_row" "sorted_row" (defArgs s_sorted_row) (defBody s_sorted_row) (defScope s_sorted_row) .none kV8 dc8 pm8 an8 cd8 ct8), sl8⟩)
    (c8 : PySem.W.codeIn K cd8 "sorted_row" = true)
    (k8 : PySem.W.keepIn K (.ref f8) = true)
    (a9 : PySem.W.nsIn K mainGlobals "_law_bag" = some (some (.ref f9)))
    (l9 : K.lookup f9 = some ⟨oc9, od9, .func (PySem.W.fnOf "_law_bag" "_law_bag" (defArgs s__law_bag) (defBody s__law_bag) (defScope s__law_bag) .none kV9 dc9 pm9 an9 cd9 ct9), sl9⟩)
    (c9 : PySem.W.codeIn K cd9 "_law_bag" = true)
    (k9 : PySem.W.keepIn K (.ref f9) = true)
    (a10 : PySem.W.nsIn K mainGlobals "_law_take" = some (some (.ref f10)))
    (l10 : K.lookup f10 = some ⟨oc10, od10, .func (PySem.W.fnOf "_law_take" "_law_take" (defArgs s__law_take) (defBody s__law_take) (defScope s__law_take) .none kV10 dc10 pm10 an10 cd10 ct10), sl10⟩)
    (c10 : PySem.W.codeIn K cd10 "_law_take" = true)
    (k10 : PySem.W.keepIn K (.ref f10) = true)
    (a11 : PySem.W.nsIn K mainGlobals "_law_pick" = some (some (.ref f11)))
    (l11 : K.lookup f11 = some ⟨oc11, od11, .func (PySem.W.fnOf "_law_pick" "_law_pick" (defArgs s__law_pick) (defBody s__law_pick) (defScope s__law_pick) .none kV11 dc11 pm11 an11 cd11 ct11), sl11⟩)
    (c11 : PySem.W.codeIn K cd11 "_law_pick" = true)
    (k11 : PySem.W.keepIn K (.ref f11) = true)
    (a12 : PySem.W.nsIn K mainGlobals "_law_words" = some (some (.ref f12)))
    (l12 : K.lookup f12 = some ⟨oc12, od12, .func (PySem.W.fnOf "_law_words" "_law_words" (defArgs s__law_words) (defBody s__law_words) (defScope s__law_words) .none kV12 dc12 pm12 an12 cd12 ct12), sl12⟩)
    (c12 : PySem.W.codeIn K cd12 "_law_words" = true)
    (k12 : PySem.W.keepIn K (.ref f12) = true)
    (a13 : PySem.W.nsIn K mainGlobals "_law_joined" = some (some (.ref f13)))
    (l13 : K.lookup f13 = some ⟨oc13, od13, .func (PySem.W.fnOf "_law_joined" "_law_joined" (defArgs s__law_joined) (defBody s__law_joined) (defScope s__law_joined) .none kV13 dc13 pm13 an13 cd13 ct13), sl13⟩)
    (c13 : PySem.W.codeIn K cd13 "_law_joined" = true)
    (k13 : PySem.W.keepIn K (.ref f13) = true)
    (a14 : PySem.W.nsIn K mainGlobals "_law_entries" = some (some (.ref f14)))
    (l14 : K.lookup f14 = some ⟨oc14, od14, .func (PySem.W.fnOf "_law_entries" "_law_entries" (defArgs s__law_entries) (defBody s__law_entries) (defScope s__law_entries) .none kV14 dc14 pm14 an14 cd14 ct14), sl14⟩)
    (c14 : PySem.W.codeIn K cd14 "_law_entries" = true)
    (k14 : PySem.W.keepIn K (.ref f14) = true)
    (a15 : PySem.W.nsIn K mainGlobals "_law_farm" = some (some (.ref f15)))
    (l15 : K.lookup f15 = some ⟨oc15, od15, .func (PySem.W.fnOf "_law_farm" "_law_farm" (defArgs s__law_farm) (defBody s__law_farm) (defScope s__law_farm) .none kV15 dc15 pm15 an15 cd15 ct15), sl15⟩)
    (c15 : PySem.W.codeIn K cd15 "_law_farm" = true)
    (k15 : PySem.W.keepIn K (.ref f15) = true)
    (a16 : PySem.W.nsIn K mainGlobals "_law_is_plain" = some (some (.ref f16)))
    (l16 : K.lookup f16 = some ⟨oc16, od16, .func (PySem.W.fnOf "_law_is_plain" "_law_is_plain" (defArgs s__law_is_plain) (defBody s__law_is_plain) (defScope s__law_is_plain) .none kV16 dc16 pm16 an16 cd16 ct16), sl16⟩)
    (c16 : PySem.W.codeIn K cd16 "_law_is_plain" = true)
    (k16 : PySem.W.keepIn K (.ref f16) = true)
    (a17 : PySem.W.nsIn K mainGlobals "_law_places" = some (some (.ref f17)))
    (l17 : K.lookup f17 = some ⟨oc17, od17, .func (PySem.W.fnOf "_law_places" "_law_places" (defArgs s__law_places) (defBody s__law_places) (defScope s__law_places) .none kV17 dc17 pm17 an17 cd17 ct17), sl17⟩)
    (c17 : PySem.W.codeIn K cd17 "_law_places" = true)
    (k17 : PySem.W.keepIn K (.ref f17) = true)
    (a18 : PySem.W.nsIn K mainGlobals "_law_drawn" = some (some (.ref f18)))
    (l18 : K.lookup f18 = some ⟨oc18, od18, .func (PySem.W.fnOf "_law_drawn" "_law_drawn" (defArgs s__law_drawn) (defBody s__law_drawn) (defScope s__law_drawn) .none kV18 dc18 pm18 an18 cd18 ct18), sl18⟩)
    (c18 : PySem.W.codeIn K cd18 "_law_drawn" = true)
    (k18 : PySem.W.keepIn K (.ref f18) = true)
    (a19 : PySem.W.nsIn K mainGlobals "_law_is_joint" = some (some (.ref f19)))
    (l19 : K.lookup f19 = some ⟨oc19, od19, .func (PySem.W.fnOf "_law_is_joint" "_law_is_joint" (defArgs s__law_is_joint) (defBody s__law_is_joint) (defScope s__law_is_joint) .none kV19 dc19 pm19 an19 cd19 ct19), sl19⟩)
    (c19 : PySem.W.codeIn K cd19 "_law_is_joint" = true)
    (k19 : PySem.W.keepIn K (.ref f19) = true)
    (a20 : PySem.W.nsIn K mainGlobals "_law_is_name" = some (some (.ref f20)))
    (l20 : K.lookup f20 = some ⟨oc20, od20, .func (PySem.W.fnOf "_law_is_name" "_law_is_name" (defArgs s__law_is_name) (defBody s__law_is_name) (defScope s__law_is_name) .none kV20 dc20 pm20 an20 cd20 ct20), sl20⟩)
    (c20 : PySem.W.codeIn K cd20 "_law_is_name" = true)
    (k20 : PySem.W.keepIn K (.ref f20) = true)
    (a21 : PySem.W.nsIn K mainGlobals "_law_is_place" = some (some (.ref f21)))
    (l21 : K.lookup f21 = some ⟨oc21, od21, .func (PySem.W.fnOf "_law_is_place" "_law_is_place" (defArgs s__law_is_place) (defBody s__law_is_place) (defScope s__law_is_place) .none kV21 dc21 pm21 an21 cd21 ct21), sl21⟩)
    (c21 : PySem.W.codeIn K cd21 "_law_is_place" = true)
    (k21 : PySem.W.keepIn K (.ref f21) = true)
    (a22 : PySem.W.nsIn K mainGlobals "_law_due" = some (some (.ref f22)))
    (l22 : K.lookup f22 = some ⟨oc22, od22, .func (PySem.W.fnOf "_law_due" "_law_due" (defArgs s__law_due) (defBody s__law_due) (defScope s__law_due) .none kV22 dc22 pm22 an22 cd22 ct22), sl22⟩)
    (c22 : PySem.W.codeIn K cd22 "_law_due" = true)
    (k22 : PySem.W.keepIn K (.ref f22) = true)
    (a23 : PySem.W.nsIn K mainGlobals "_law_told" = some (some (.ref f23)))
    (l23 : K.lookup f23 = some ⟨oc23, od23, .func (PySem.W.fnOf "_law_told" "_law_told" (defArgs s__law_told) (defBody s__law_told) (defScope s__law_told) .none kV23 dc23 pm23 an23 cd23 ct23), sl23⟩)
    (c23 : PySem.W.codeIn K cd23 "_law_told" = true)
    (k23 : PySem.W.keepIn K (.ref f23) = true)
    (a24 : PySem.W.nsIn K mainGlobals "_law_spoilt" = some (some (.ref f24)))
    (l24 : K.lookup f24 = some ⟨oc24, od24, .func (PySem.W.fnOf "_law_spoilt" "_law_spoilt" (defArgs s__law_spoilt) (defBody s__law_spoilt) (defScope s__law_spoilt) .none kV24 dc24 pm24 an24 cd24 ct24), sl24⟩)
    (c24 : PySem.W.codeIn K cd24 "_law_spoilt" = true)
    (k24 : PySem.W.keepIn K (.ref f24) = true)
    (a25 : PySem.W.nsIn K mainGlobals "law" = some (some (.ref f25)))
    (l25 : K.lookup f25 = some ⟨oc25, od25, .func (PySem.W.fnOf "law" "law" (defArgs s_law) (defBody s_law) (defScope s_law) .none kV25 dc25 pm25 an25 cd25 ct25), sl25⟩)
    (c25 : PySem.W.codeIn K cd25 "law" = true)
    (k25 : PySem.W.keepIn K (.ref f25) = true)
    (aC : PySem.W.nsIn K mainGlobals "Layout" = some (some (.ref C)))
    (pg : PySem.W.plainGet K C Str.empty = true)
    (hdC : PySem.W.hasDictIn K C = true)
    (po : PySem.W.plainOver K C = true)
    (saC : PySem.W.findIn K (.ref C) "__setattr__" = some (some (.builtin "object.__setattr__")))
    (mkC : PySem.W.makesIn K C = true)
    (kcC : PySem.W.keepIn K (.ref C) = true)
    (nR : PySem.W.findIn K (.ref C) "rows" = some none)
    (nP : PySem.W.findIn K (.ref C) "peak" = some none)
    (aI : PySem.W.findIn K (.ref C) "__init__" = some (some (.ref fI)))
    (iI : PySem.W.isFn K (.ref fI) = true)
    (lI : K.lookup fI = some ⟨ocI, odI, .func (PySem.W.fnOf "__init__" "Layout.__init__" (defArgs s_init) (defBody s_init) (defScope s_init) .none (.ref KDD) dcI pmI anI cdI ctI), slI⟩)
    (cI : PySem.W.codeIn K cdI "Layout.__init__" = true)
    (kI : PySem.W.keepIn K (.ref fI) = true)
    (zKD : PySem.W.nsIn K KDD "top" = some (some (.int 0 tkd)))
    (aB : PySem.W.nsIn K mainGlobals "BadLayout" = some (some (.ref CB)))
    (xB : K.lookup CB = some (excClassObj nm q CB N bs [.type "ValueError", .type "Exception", .type "BaseException", .type "object"] true sn sub ab col dd m0 m1 m2 m3 m5 "ValueError.__new__"))
    (saB : PySem.W.findIn K (.ref CB) "__setattr__" = some (some (.builtin "object.__setattr__")))
    (gaB : PySem.W.findIn K (.ref CB) "__getattribute__" = some (some (.builtin "BaseException.__getattribute__")))
    (ggB : PySem.W.findIn K (.ref CB) "__getattr__" = some none)
    (n1B : PySem.W.findIn K (.ref CB) "joint" = some none)
    (n2B : PySem.W.findIn K (.ref CB) "name" = some none)
    (iB : PySem.W.findIn K (.ref CB) "__init__" = some (some (.ref fB)))
    (tB : PySem.W.typeIn K (.ref fB) = some (.type "function"))
    (lB : K.lookup fB = some ⟨ocB, odB, .func (PySem.W.fnOf "__init__" "BadLayout.__init__" (defArgs s_binit) (defBody s_binit) (defScope s_binit) .none kVB dcB pmB anB cdB ctB), slB⟩)
    (cB : PySem.W.codeIn K cdB "BadLayout.__init__" = true)
    (kB : PySem.W.keepIn K (.ref fB) = true)
    (kcB : PySem.W.keepIn K (.ref CB) = true)
    (exB : PySem.W.subIn K (.ref CB) (.type "BaseException") = some true)
    (tyB : PySem.W.typeIn K (.ref CB) = some (.type "type"))
    (hdB : PySem.W.hasDictIn K CB = true)
    (isB : PySem.W.isClsIn K CB = true)
    (ssB : PySem.W.subIn K (.ref CB) (.ref CB) = some true)
    (haB : PySem.W.findIn K (.ref CB) "__class__" = some (some (.builtin "object.__class__")))
    (hnB : PySem.W.specialIn K (.builtin "object.__class__") "__get__" = some (some (.builtin "getset_descriptor.__get__")))
    (htB : PySem.W.takesIn K (.builtin "object.__class__") = some true)
    (hmB : PySem.W.mroIn K CB (.type "object") = some true)
    (kVB1 : PySem.W.kitOne K (.ref CB) (.type "ValueError") = some true) :
    ∃ fd : FuncData, (∀ (s : Shared) (u : Value), BindsTo s fd ⟨[u], []⟩ [("_law_script", u)]) ∧ ∀ base : Heap, K.In base → base.Ns mainGlobals mg → FnG P w K mg base CX0 10 fa fd ["_law_script"] (spLaw K) := by
  have e := hfa.symm.trans (PySem.W.mg_of X G a25)
  cases e
  have F1 := fun_mk (st := s_is_name) l1 c1 k1
  have b1 := F1.binds (ps := ["thing"]) fun _ _ _ _ _ _ us hl => match us, hl with | [_], _ => rfl
  have F2 := fun_mk (st := s_is_path) l2 c2 k2
  have b2 := F2.binds (ps := ["thing"]) fun _ _ _ _ _ _ us hl => match us, hl with | [_], _ => rfl
  have F3 := fun_mk (st := s_is_integer) l3 c3 k3
  have b3 := F3.binds (ps := ["thing"]) fun _ _ _ _ _ _ us hl => match us, hl with | [_], _ => rfl
  have F4 := fun_mk (st := s_is_joint) l4 c4 k4
  have b4 := F4.binds (ps := ["thing"]) fun _ _ _ _ _ _ us hl => match us, hl with | [_], _ => rfl
  have F5 := fun_mk (st := s_is_place_in_package) l5 c5 k5
  have b5 := F5.binds (ps := ["thing"]) fun _ _ _ _ _ _ us hl => match us, hl with | [_], _ => rfl
  have F6 := fun_mk (st := s_check_tables) l6 c6 k6
  have b6 := F6.binds (ps := ["tables", "top"]) fun _ _ _ _ _ _ us hl => match us, hl with | [_, _], _ => rfl
  have F7 := fun_mk (st := s_is_target_in) l7 c7 k7
  have b7 := F7.binds (ps := ["rows", "thing"]) fun _ _ _ _ _ _ us hl => match us, hl with | [_, _], _ => rfl
  have F8 := fun_mk (st := s_sorted_row) l8 c8 k8
  have b8 := F8.binds (ps := ["table"]) fun _ _ _ _ _ _ us hl => match us, hl with | [_], _ => rfl
  have F9 := fun_mk (st := s__law_bag) l9 c9 k9
  have b9 := F9.binds (ps := ["_law_script", "_law_at"]) fun _ _ _ _ _ _ us hl => match us, hl with | [_, _], _ => rfl
  have F10 := fun_mk (st := s__law_take) l10 c10 k10
  have b10 := F10.binds (ps := ["_law_bag_here", "_law_many"]) fun _ _ _ _ _ _ us hl => match us, hl with | [_, _], _ => rfl
  have F11 := fun_mk (st := s__law_pick) l11 c11 k11
  have b11 := F11.binds (ps := ["_law_bag_here", "_law_items"]) fun _ _ _ _ _ _ us hl => match us, hl with | [_, _], _ => rfl
  have F12 := fun_mk (st := s__law_words) l12 c12 k12
  have b12 := F12.binds (ps := ["_law_bag_here"]) fun _ _ _ _ _ _ us hl => match us, hl with | [_], _ => rfl
  have F13 := fun_mk (st := s__law_joined) l13 c13 k13
  have b13 := F13.binds (ps := ["_law_path", "_law_name"]) fun _ _ _ _ _ _ us hl => match us, hl with | [_, _], _ => rfl
  have F14 := fun_mk (st := s__law_entries) l14 c14 k14
  have b14 := F14.binds (ps := ["_law_bag_here", "_law_words_here", "_law_most", "_law_has_references"]) fun _ _ _ _ _ _ us hl => match us, hl with | [_, _, _, _], _ => rfl
  have F15 := fun_mk (st := s__law_farm) l15 c15 k15
  have b15 := F15.binds (ps := ["_law_bag_here", "_law_words_here", "_law_most", "_law_has_references"]) fun _ _ _ _ _ _ us hl => match us, hl with | [_, _, _, _], _ => rfl
  have F16 := fun_mk (st := s__law_is_plain) l16 c16 k16
  have b16 := F16.binds (ps := ["_law_entries_here", "_law_path"]) fun _ _ _ _ _ _ us hl => match us, hl with | [_, _], _ => rfl
  have F17 := fun_mk (st := s__law_places) l17 c17 k17
  have b17 := F17.binds (ps := ["_law_farm_here"]) fun _ _ _ _ _ _ us hl => match us, hl with | [_], _ => rfl
  have F18 := fun_mk (st := s__law_drawn) l18 c18 k18
  have b18 := F18.binds (ps := ["_law_bag_here", "_law_farm_here", "_law_words_here", "_law_most"]) fun _ _ _ _ _ _ us hl => match us, hl with | [_, _, _, _], _ => rfl
  have F19 := fun_mk (st := s__law_is_joint) l19 c19 k19
  have b19 := F19.binds (ps := ["_law_thing"]) fun _ _ _ _ _ _ us hl => match us, hl with | [_], _ => rfl
  have F20 := fun_mk (st := s__law_is_name) l20 c20 k20
  have b20 := F20.binds (ps := ["_law_thing"]) fun _ _ _ _ _ _ us hl => match us, hl with | [_], _ => rfl
  have F21 := fun_mk (st := s__law_is_place) l21 c21 k21
  have b21 := F21.binds (ps := ["_law_thing"]) fun _ _ _ _ _ _ us hl => match us, hl with | [_], _ => rfl
  have F22 := fun_mk (st := s__law_due) l22 c22 k22
  have b22 := F22.binds (ps := ["_law_tables", "_law_head"]) fun _ _ _ _ _ _ us hl => match us, hl with | [_, _], _ => rfl
  have F23 := fun_mk (st := s__law_told) l23 c23 k23
  have b23 := F23.binds (ps := ["_law_tables", "_law_head"]) fun _ _ _ _ _ _ us hl => match us, hl with | [_, _], _ => rfl
  have F24 := fun_mk (st := s__law_spoilt) l24 c24 k24
  have b24 := F24.binds (ps := ["_law_bag_here", "_law_tables", "_law_head"]) fun _ _ _ _ _ _ us hl => match us, hl with | [_, _, _], _ => rfl
  have F25 := fun_mk (st := s_law) l25 c25 k25
  have b25 := F25.binds (ps := ["_law_script"]) fun _ _ _ _ _ _ us hl => match us, hl with | [_], _ => rfl
  refine ⟨_, fun s u => .of_eq (fd := PySem.W.fnOf "law" "law" (defArgs s_law) (defBody s_law) (defScope s_law) .none kV25 dc25 pm25 an25 cd25 ct25) rfl, fun base _ _ => ?_⟩
  have T : Txt K mg tk2 tk2 := ⟨PySem.W.mg_of X G zI0, PySem.W.mg_none_of X G z_isinstance, PySem.W.mg_none_of X G z_str, PySem.W.mg_none_of X G z_len, PySem.W.mg_none_of X G z_all, PySem.W.mg_none_of X G z_any, PySem.W.mg_none_of X G z_tuple, PySem.W.mg_none_of X G z_list, PySem.W.mg_none_of X G z_dict, PySem.W.mg_none_of X G z_sorted, PySem.W.mg_none_of X G z_range, PySem.W.mg_none_of X G z_zip, PySem.W.mg_none_of X G z_enumerate, PySem.W.mg_none_of X G z_set, PySem.W.mg_none_of X G z_abs, PySem.W.mg_none_of X G z_int, PySem.W.mg_none_of X G z_bool, PySem.W.mg_none_of X G z_repr, PySem.W.mg_none_of X G z_max, PySem.W.mg_none_of X G z_min, PySem.W.mg_none_of X G z_ValueError⟩
  have R : LayTxt K mg C := ⟨⟨pg, hdC, po, saC⟩, nR, nP, PySem.W.mg_of X G aC⟩
  have FI : FunD K "__init__" "Layout.__init__" (defArgs s_init) (defBody s_init) (defScope s_init) [] [("top", .int 0)] fI _ :=
    ⟨⟨_, _, _, _, _, _, _, _, _, _, rfl, lI, cI, Or.inl ⟨rfl, rfl⟩, Or.inr ⟨KDD, rfl, fun q hq => by rw [List.mem_singleton.mp hq]; exact ⟨_, zKD, ⟨_, rfl⟩⟩⟩⟩, kI⟩
  obtain ⟨mv, kbn⟩ := FI.kbinds0 (ps := ["self", "tables", "top"]) 2 ["top"] [] (fun us _ ws => us ++ ws) (by simp) (fun _ h => nomatch h) (fun r1 _ r3 => r1.append r3) (fun D doc pm an cdv ct us mv ws h1 h2 h3 => match us, mv, ws, h1, h2, h3 with | [_, _], [], [_], _, _, _ => rfl)
  have OX : OexC K CB := ⟨⟨nm, q, N, bs, _, sn, sub, ab, col, dd, m0, m1, m2, m3, m5, xB, by decide +kernel⟩, saB, exB, tyB, kcB⟩
  have FMB := fun_mk (st := s_binit) lB cB kB
  have bMB := FMB.binds (ps := ["self", "joint", "name"]) fun _ _ _ _ _ _ us hl => match us, hl with | [_, _, _], _ => rfl
  have BT : BlTxt P w K mg base CB fB _ := ⟨OX, iB, tB, ok_binit (P := P) (w := w) (mg := mg) (base := base) FMB OX n1B n2B, bMB, PySem.W.mg_of X G aB⟩
  have ER : ErTxt K CB := ⟨⟨gaB, ggB, exB, hdB, haB, hnB, htB, hmB⟩, ⟨gaB, ggB, exB, hdB⟩, n1B, n2B, kVB1, exm_self exB isB tyB ssB⟩
  have dnm : DefAt P w K mg base "is_name" _ f1 _ _ _ := ⟨ok_is_name F1 T, PySem.W.mg_of X G a1, k1, b1⟩
  have d1 : DefAt P w K mg base "is_name" _ f1 _ _ _ := ⟨ok_is_nameD F1 T, PySem.W.mg_of X G a1, k1, b1⟩
  have d2 : DefAt P w K mg base "is_path" _ f2 _ _ _ := ⟨ok_is_path F2 T dnm, PySem.W.mg_of X G a2, k2, b2⟩
  have diD : DefAt P w K mg base "is_integer" _ f3 _ _ _ := ⟨ok_is_integer F3 T, PySem.W.mg_of X G a3, k3, b3⟩
  have djD : DefAt P w K mg base "is_joint" _ f4 _ _ _ := ⟨ok_is_joint F4 T diD, PySem.W.mg_of X G a4, k4, b4⟩
  have d3 : DefAt P w K mg base "is_integer" _ f3 _ _ _ := ⟨ok_integerE F3 T, PySem.W.mg_of X G a3, k3, b3⟩
  have d4 : DefAt P w K mg base "is_joint" _ f4 _ _ _ := ⟨ok_jointE F4 T d3, PySem.W.mg_of X G a4, k4, b4⟩
  have d5 : DefAt P w K mg base "is_place_in_package" _ f5 _ _ _ := ⟨ok_placeE F5 T d1 d2, PySem.W.mg_of X G a5, k5, b5⟩
  have d7 : DefAt P w K mg base "is_target_in" _ f7 _ _ _ := ⟨ok_targetX F7 d5 d4, PySem.W.mg_of X G a7, k7, b7⟩
  have FC := ok_checkX (P := P) (w := w) (mg := mg) (base := base) F6 T BT djD d1 d7
  have d8 : DefAt P w K mg base "sorted_row" _ f8 _ _ _ := ⟨ok_sorted_rowX F8 T, PySem.W.mg_of X G a8, k8, b8⟩
  have OI := ok_initX (P := P) (w := w) (mg := mg) (base := base) FI T R FC (PySem.W.mg_of X G a6) k6 b6 d8
  have MI : Mk K C fI := ⟨mkC, aI, iI, kcC⟩
  have d10 : DefAt P w K mg base "_law_take" _ f10 _ _ _ := ⟨ok_take F10 T, PySem.W.mg_of X G a10, k10, b10⟩
  have d11 : DefAt P w K mg base "_law_pick" _ f11 _ _ _ := ⟨ok_pick F11 T d10, PySem.W.mg_of X G a11, k11, b11⟩
  have d9 : DefAt P w K mg base "_law_bag" _ f9 _ _ _ := ⟨ok_bag F9 T, PySem.W.mg_of X G a9, k9, b9⟩
  have d12 : DefAt P w K mg base "_law_words" _ f12 _ _ _ := ⟨ok_words F12 T d10 d11, PySem.W.mg_of X G a12, k12, b12⟩
  have d13 : DefAt P w K mg base "_law_joined" _ f13 _ _ _ := ⟨ok_joined F13, PySem.W.mg_of X G a13, k13, b13⟩
  have d14 : DefAt P w K mg base "_law_entries" _ f14 _ _ _ := ⟨ok_entries F14 T d10 d11 d13, PySem.W.mg_of X G a14, k14, b14⟩
  have d15 : DefAt P w K mg base "_law_farm" _ f15 _ _ _ := ⟨ok_farm F15 T d10 d14, PySem.W.mg_of X G a15, k15, b15⟩
  have d16 : DefAt P w K mg base "_law_is_plain" _ f16 _ _ _ := ⟨ok_plain F16 T, PySem.W.mg_of X G a16, k16, b16⟩
  have d17 : DefAt P w K mg base "_law_places" _ f17 _ _ _ := ⟨ok_places F17 T d16, PySem.W.mg_of X G a17, k17, b17⟩
  have d18 : DefAt P w K mg base "_law_drawn" _ f18 _ _ _ := ⟨ok_drawn F18 T d10 d11 d17, PySem.W.mg_of X G a18, k18, b18⟩
  have d19 : DefAt P w K mg base "_law_is_joint" _ f19 _ _ _ := ⟨ok_ljoint F19 T, PySem.W.mg_of X G a19, k19, b19⟩
  have d20 : DefAt P w K mg base "_law_is_name" _ f20 _ _ _ := ⟨ok_lname F20 T, PySem.W.mg_of X G a20, k20, b20⟩
  have d21 : DefAt P w K mg base "_law_is_place" _ f21 _ _ _ := ⟨ok_lplace F21 T d20, PySem.W.mg_of X G a21, k21, b21⟩
  have d22 : DefAt P w K mg base "_law_due" _ f22 _ _ _ := ⟨ok_due F22 T d19 d20 d21, PySem.W.mg_of X G a22, k22, b22⟩
  have d23 : DefAt P w K mg base "_law_told" _ f23 _ _ _ := ⟨ok_told F23 T R ER (PySem.W.mg_of X G aB) MI OI kbn, PySem.W.mg_of X G a23, k23, b23⟩
  have d24 : DefAt P w K mg base "_law_spoilt" _ f24 _ _ _ := ⟨ok_spoilt F24 T d10 d11, PySem.W.mg_of X G a24, k24, b24⟩
  exact ok_law F25 T d9 d12 d15 d10 d18 d23 d22 d24
theorem walk {l : PySem.W.OpenLaw} {q : Program} {loose : List Str} {XP : (Str → Option Value) → Heap → Prop} {YP : World → Heap → Prop} {d : DefRec} {K : Params → PySem.W.Frag} (hn : l.most = some 63) (hdf : d.params.defaults = [])
    (hY : ∀ (w : World) (h : Heap), YP w h → (K w.params).In h)
    (F : ∀ (w : World) (mg : Str → Option Value) (fa : Addr) (h : Heap), (K w.params).In h → h.Ns mainGlobals mg → mg d.name = some (.ref fa) →
      ∃ fd : FuncData, (∀ (s : Shared) (u : Value), BindsTo s fd ⟨[u], []⟩ [("_law_script", u)]) ∧ ∀ base : Heap, (K w.params).In base → base.Ns mainGlobals mg → FnG l.prog w (K w.params) mg base CX0 10 fa fd ["_law_script"] (spLaw (K w.params))) :
    PySem.W.WalkO q loose XP YP l.row.toRowW d [] (fun f vs => PySem.call f vs) :=
  walkG (n := 63) (k := 10) (x := "_law_script") (sp := spLaw) hn (by decide) hdf ⟨rfl, by decide, by decide⟩ hY F (fun K H a ns hl hS => ⟨a, ns, rfl, hS, hl, fun _ => rfl⟩)
end KD

open PySem PySem.W PyProof.Rows in
set_option maxRecDepth 100000 in
set_option maxHeartbeats 0 in
theorem PySem.Challenge.cw_linkfarms_k41_layouts_refused_holds : PySem.Challenge.rw_linkfarms_k41_layouts_refused.Holds := by
  w_on; o_law; k_head; (case hw => w_witness2)
  k_fill
  refine KD.walk (l := PySem.Challenge.rw_linkfarms_k41_layouts_refused) rfl rfl (fun w h Y => PySem.W.kIn_of Y) ?F
  case F =>
    intro w mg fa h KX G hmg
    refine' KD.all_mk KX G hmg ?zI0 ?z_isinstance ?z_str ?z_len ?z_all ?z_any ?z_tuple ?z_list ?z_dict ?z_sorted ?z_range ?z_zip ?z_enumerate ?z_set ?z_abs ?z_int ?z_bool ?z_repr ?z_max ?z_min ?z_ValueError ?a1 ?l1 ?c1 ?k1 ?a2 ?l2 ?c2 ?k2 ?a3 ?l3 ?c3 ?k3 ?a4 ?l4 ?c4 ?k4 ?a5 ?l5 ?c5 ?k5 ?a6 ?l6 ?c6 ?k6 ?a7 ?l7 ?c7 ?k7 ?a8 ?l8 ?c8 ?k8 ?a9 ?l9 ?c9 ?k9 ?a10 ?l10 ?c10 ?k10 ?a11 ?l11 ?c11 ?k11 ?a12 ?l12 ?c12 ?k12 ?a13 ?l13 ?c13 ?k13 ?a14 ?l14 ?c14 ?k14 ?a15 ?l15 ?c15 ?k15 ?a16 ?l16 ?c16 ?k16 ?a17 ?l17 ?c17 ?k17 ?a18 ?l18 ?c18 ?k18 ?a19 ?l19 ?c19 ?k19 ?a20 ?l20 ?c20 ?k20 ?a21 ?l21 ?c21 ?k21 ?a22 ?l22 ?c22 ?k22 ?a23 ?l23 ?c23 ?k23 ?a24 ?l24 ?c24 ?k24 ?a25 ?l25 ?c25 ?k25 ?aC ?pg ?hdC ?po ?saC ?mkC ?kcC ?nR ?nP ?aI ?iI ?lI ?cI ?kI ?zKD ?aB ?xB ?saB ?gaB ?ggB ?n1B ?n2B ?iB ?tB ?lB ?cB ?kB ?kcB ?exB ?tyB ?hdB ?isB ?ssB ?haB ?hnB ?htB ?hmB ?kVB1
    (case zI0 => k_is)
    (case z_isinstance => k_is)
    (case z_str => k_is)
    (case z_len => k_is)
    (case z_all => k_is)
    (case z_any => k_is)
    (case z_tuple => k_is)
    (case z_list => k_is)
    (case z_dict => k_is)
    (case z_sorted => k_is)
    (case z_range => k_is)
    (case z_zip => k_is)
    (case z_enumerate => k_is)
    (case z_set => k_is)
    (case z_abs => k_is)
    (case z_int => k_is)
    (case z_bool => k_is)
    (case z_repr => k_is)
    (case z_max => k_is)
    (case z_min => k_is)
    (case z_ValueError => k_is)
    (case a1 => k_is)
    (case l1 => k_is)
    (case c1 => k_is)
    (case k1 => k_is)
    (case a2 => k_is)
    (case l2 => k_is)
    (case c2 => k_is)
    (case k2 => k_is)
    (case a3 => k_is)
    (case l3 => k_is)
    (case c3 => k_is)
    (case k3 => k_is)
    (case a4 => k_is)
    (case l4 => k_is)
    (case c4 => k_is)
    (case k4 => k_is)
    (case a5 => k_is)
    (case l5 => k_is)
    (case c5 => k_is)
    (case k5 => k_is)
    (case a6 => k_is)
    (case l6 => k_is)
    (case c6 => k_is)
    (case k6 => k_is)
    (case a7 => k_is)
    (case l7 => k_is)
    (case c7 => k_is)
    (case k7 => k_is)
    (case a8 => k_is)
    (case l8 => k_is)
    (case c8 => k_is)
    (case k8 => k_is)
    (case a9 => k_is)
    (case l9 => k_is)
    (case c9 => k_is)
    (case k9 => k_is)
    (case a10 => k_is)
    (case l10 => k_is)
    (case c10 => k_is)
    (case k10 => k_is)
    (case a11 => k_is)
    (case l11 => k_is)
    (case c11 => k_is)
    (case k11 => k_is)
    (case a12 => k_is)
    (case l12 => k_is)
    (case c12 => k_is)
    (case k12 => k_is)
    (case a13 => k_is)
    (case l13 => k_is)
    (case c13 => k_is)
    (case k13 => k_is)
    (case a14 => k_is)
    (case l14 => k_is)
    (case c14 => k_is)
    (case k14 => k_is)
    (case a15 => k_is)
    (case l15 => k_is)
    (case c15 => k_is)
    (case k15 => k_is)
    (case a16 => k_is)
    (case l16 => k_is)
    (case c16 => k_is)
    (case k16 => k_is)
    (case a17 => k_is)
    (case l17 => k_is)
    (case c17 => k_is)
    (case k17 => k_is)
    (case a18 => k_is)
    (case l18 => k_is)
    (case c18 => k_is)
    (case k18 => k_is)
    (case a19 => k_is)
    (case l19 => k_is)
    (case c19 => k_is)
    (case k19 => k_is)
    (case a20 => k_is)
    (case l20 => k_is)
    (case c20 => k_is)
    (case k20 => k_is)
    (case a21 => k_is)
    (case l21 => k_is)
    (case c21 => k_is)
    (case k21 => k_is)
    (case a22 => k_is)
    (case l22 => k_is)
    (case c22 => k_is)
    (case k22 => k_is)
    (case a23 => k_is)
    (case l23 => k_is)
    (case c23 => k_is)
    (case k23 => k_is)
    (case a24 => k_is)
    (case l24 => k_is)
    (case c24 => k_is)
    (case k24 => k_is)
    (case a25 => k_is)
    (case l25 => k_is)
    (case c25 => k_is)
    (case k25 => k_is)
    (case aC => k_is)
    (case pg => k_is)
    (case hdC => k_is)
    (case po => k_is)
    (case saC => k_is)
    (case mkC => k_is)
    (case kcC => k_is)
    (case nR => k_is)
    (case nP => k_is)
    (case aI => k_is)
    (case iI => k_is)
    (case lI => k_is)
    (case cI => k_is)
    (case kI => k_is)
    (case zKD => k_is)
    (case aB => k_is)
    (case xB => k_is)
    (case saB => k_is)
    (case gaB => k_is)
    (case ggB => k_is)
    (case n1B => k_is)
    (case n2B => k_is)
    (case iB => k_is)
    (case tB => k_is)
    (case lB => k_is)
    (case cB => k_is)
    (case kB => k_is)
    (case kcB => k_is)
    (case exB => k_is)
    (case tyB => k_is)
    (case hdB => k_is)
    (case isB => k_is)
    (case ssB => first | rfl | k_is)
    (case haB => k_is)
    (case hnB => k_is)
    (case htB => k_is)
    (case hmB => k_is)
    (case kVB1 => first | rfl | k_is)
#print axioms PySem.Challenge.cw_linkfarms_k41_layouts_refused_holds

