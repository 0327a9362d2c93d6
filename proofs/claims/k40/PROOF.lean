import PyProof.Rows.All
import Wide.All
import OpenK.AllK
import Wide.FinOn
import HandS.ForMost
import HandS.ForExc
import HandS.Star
import HandS.Deep
import HandS.IsInst
import HandS.SortKw
import KE.SortKeyHeap
import HandS.ExcIs
import HandS.Walk
import HandS.StrMore
import HandS.Evl
import HandS.CallLocal
import HandS.Zip
import HandS.WordsExc
import HandS.Style
import HandS.SetFor
import HandS.SetKeys
import KE.SortData
import PyProof.Rows.SetFrom
import HandS.TupSets
import HandS.TupAny
import HandS.DictComp
import HandS.More
import HandS.Keys
import HandS.Defaults
import KE.KEqNest
import HandS.Property
import HandS.WordsDict
import HandS.FStr
import HandS.ClsMeth
import PyProof.InstSpecial
import PyProof.CallStr
import PyProof.Rows.Range3
import PyProof.InstNe
import HandS.OwnEq
import HandS.GenList
import HandS.ForDict
import PyProof.StrHeap
import HandS.MakeKwOnly
import HandS.Small
import HandS.Finally
import HandS.AnyAll
import PySem.Challenge.RW_linkfarms_k40_layouts_made
set_option Elab.async false
set_option linter.all false
set_option maxRecDepth 100000
set_option maxHeartbeats 4000000
namespace LF
open PySem PySem.Spec PyProof.Rows L2

/-- a promise that is asked only where no repr is under way -/
structure FnG (P : Program) (w : World) (K : PySem.W.Frag) (mg : Str → Option Value) (base : Heap) (CX : CXT)
    (k : Nat) (f : Addr) (fd : FuncData) (ps : List Str) (sp : Sp) : Prop where
  len : ∀ vs H Q E, sp vs H Q E → vs.length = ps.length
  go : ∀ (A : Around) (fr : List Env) (st : Shared) (H : Hp) (ar : Args) (us : List Value) (vs : List V) (Q : VK) (E : XK),
    A.guards = some [] → Room k A → Env0 P w K mg base A fr st H → BindsTo st fd ar (ps.zip us) → Vals vs us →
    sp vs H Q E → codeAny (model P w) A (.call (.ref f) ar) (CR CX fr P w H st Q E) st

theorem body_end {CX : CXT} {P : Program} {w : World} {K : PySem.W.Frag} {mg : Str → Option Value} {base : Heap} {N : List Str}
    {q : String} {sc : Scope} {f : Addr} {cd : Value} {A : Around} {fr : List Env} {st : Shared} {H : Hp} {E : XK} {Q : VK}
    {v : V} {u : Value} {σ : L2.St} {H' : Hp} {s' : Shared}
    (J : Inv (cxOf CX P w K mg base N q sc f cd A fr st H E) [] σ H' s') (rv : RelV v u) (hq : Q v H') :
    CE fr P w H st Q u s' :=
  ⟨v, H', J.os, J.bare, J.base, J.hok, rv, hq⟩

theorem fnG_of {CX : CXT} {P : Program} {w : World} {K : PySem.W.Frag} {mg : Str → Option Value} {base : Heap} {k : Nat} {f : Addr}
    {x q : String} {st : Stmt} {fd : FuncData} {N ps : List Str} {sp : Sp} (F : Fun K x q st f fd) (S : FnScope N ps (defScope st))
    (len : ∀ vs H Q E, sp vs H Q E → vs.length = ps.length)
    (hb : ∀ (cdv : Value) (A : Around) (fr : List Env) (s : Shared) (H : Hp) (vs : List V) (Q : VK) (E : XK), A.guards = some [] →
      Room k (A.deeper (envOfC q (defScope st) s.heap.objs.size f cdv)) → sp vs H Q E →
      ∃ t, PSs (cxOf CX P w K mg base N q (defScope st) f cdv A fr s H E) (defBody st) t ∧
        t { nx := fun _ H' => Q .non H', rt := Q } (start N vs) H) : FnG P w K mg base CX (k + 1) f fd ps sp := by
  obtain ⟨oc, od, kV, doc, pm, an, cdv, ct, osl, rfl, lk, hcd⟩ := F.ex
  refine ⟨len, ?_⟩
  intro A fr s H ar us vs Q E hgd hr e0 hbi r hsp
  have hl := len _ _ _ _ hsp
  have KX : K.In s.heap := e0.mod.kin.keeps (fun b o e => (e0.bs b o e).1)
  have lim : s.heap.NoLimit := e0.mod.nolimit.keeps (fun b o e => (e0.bs b o e).1)
  have hkd : ∀ y ∈ ps.zip us, (defScope st).names.lookup y.1 = some .local ∨
      ((defScope st).names.lookup y.1 = some .cell ∧ ((cellsFrom (s.heap.objs.size + 1) (defScope st).names []).lookup y.1).isSome = true) := by
    rintro ⟨n, v⟩ hy
    rcases S.par n (List.of_mem_zip hy).1 with z | z
    · exact Or.inl z
    · exact Or.inr ⟨z, PySem.W.cellsFrom_some _ _ _ (Or.inl z)⟩
  refine codeAny_call_function hr.depth (KX _ _ lk) rfl S.co S.gen rfl (PySem.W.codeRec_of KX hcd) (hbi _ _ _ _ ?_)
  refine wpAny_newFunctionEnv_cells S.kind hkd ?_
  intro env he s1 xx
  subst he
  refine ⟨lim.keeps xx.toInCall.keep, codeAny_func ?_⟩
  obtain ⟨t, ht, hq⟩ := hb cdv A fr s H vs Q E hgd (hr.deeper _) hsp
  have I := inv_start (CX := CX) (cd := cdv) (E := E) S hr.hd e0 hl r xx
  refine wpAny_mono (ht.run [] s1 (start N vs) H _ I hq) ?_ (fun e s' hs => hs)
  intro fl s' hs
  cases fl with
  | ret u =>
    obtain ⟨v, σ', H', J, rv, z⟩ := hs
    exact body_end J rv z
  | next =>
    obtain ⟨σ', H', J, z⟩ := hs
    exact body_end (v := V.non) (u := Value.none) J rfl z
  | brk => exact (hs.choose_spec.choose_spec.2).elim
  | cont => exact (hs.choose_spec.choose_spec.2).elim

section
variable {X : Cx} {CX : CXT} {k : Nat} {f : Addr} {fd : FuncData} {ps : List Str} {sp : Sp} {dvs : List V} {ds : List Value} {E : XK}
  {x : Str} {p pos : Pos} {e : Expr} {es : List Expr} {t : TA}

theorem runG {pins : List (Addr × Obj)} {σ : L2.St} {H : Hp} {s : Shared} {Q : VK} {us : List Value} {vs : List V}
    (F : FnG X.prog X.w X.K X.mg X.base CX k f fd ps sp) (gd : X.A.guards = some []) (hr : Room k X.A) (hb : Binds X.K fd ps [])
    (hx : Passes CX X E) (I : Inv X pins σ H s) (r : Vals vs us) (h : sp vs H Q E) :
    wpAny (model X.prog X.w) X.A (call (.ref f) us) (EP X pins σ Q) X.xe s := by
  have hl : us.length = ps.length := by rw [← r.length]; exact F.len _ _ _ _ h
  have hb' := hb s us I.kIn (by rw [List.append_nil]; exact hl)
  rw [List.append_nil] at hb'
  refine wpAny_call (codeAny_mono (F.go X.A X.stack s H ⟨us, []⟩ us vs Q E gd hr I.env0 hb' r h) ?_)
  intro rr s' hq
  cases rr with
  | error e => exact hx pins σ H s e s' I hq
  | ok fl =>
    cases fl with
    | ret u => exact I.after hq
    | next => exact hq.elim
    | brk => exact hq.elim
    | cont => exact hq.elim

theorem pe_callG (F : FnG X.prog X.w X.K X.mg X.base CX k f fd ps sp) (gd : X.A.guards = some []) (hr : Room k X.A) (hg : Gl X x)
    (hm : X.mg x = some (.ref f)) (hk : PySem.W.keepIn X.K (.ref f) = true) (hb : Binds X.K fd ps []) (hx : Passes CX X E)
    (ha : PA X (e :: es) t) (hdb : (x == ("__debug__" : Str)) = false := by decide)
    (he : starEach (e :: es) X.env = (false, eval e X.env) :: starEach es X.env := by rfl)
    (hpl : (backTo pos (starEach es X.env)).any (·.1) = false := by rfl) :
    PE X (.Call (.Name x p) (e :: es) [] pos) (fun σ H Q => t σ H fun vs H1 => sp vs H1 Q E) := by
  constructor
  intro pins s σ H Q I h
  refine wpAny_Call_Name_kw (ld_glob I hg hm ?_ hdb)
  refine PySem.W.callWith_K (h₀ := X.base) I.ok.mod.kin hk (thn (ha.run pos pins s σ H _ I h) ?_) he hpl
  rintro us s1 ⟨vs, H1, I1, r, z⟩
  exact ⟨I1.kIn, runG F gd hr hb hx I1 r z⟩
end

/-- repr of data of any depth, where no repr is under way -/
def rRepr (K : PySem.W.Frag) : List V → Hp → VK → Prop := fun xs H Q =>
  ∃ x d, xs = [x] ∧ Dp K H x d ∧ d.showable = true ∧ d.hasDict = false ∧ d.depth ≤ 60 ∧ d.shown.length ≤ sizeLine ∧ Q (.str d.shown) H
theorem call_reprD {X : Cx} (gd : X.A.guards = some []) (hu : X.A.units + 64 < cLine) : CallR X (.builtin "repr") (rRepr X.K) := by
  intro pins s σ H xs us Q I r h
  obtain ⟨x, d, rfl, hd, hs, hn, hp, hz, q⟩ := h
  obtain ⟨u, rfl, ru⟩ := vals1 r
  obtain ⟨as, rd⟩ := Dp.reads I d x u hd ru
  cases hd with
  | non => cases ru; exact PySem.P.repr_of_none ⟨.str _, H, I.tok _, ⟨_, rfl⟩, q⟩
  | bl b => cases ru; exact PySem.P.repr_of_bool ⟨.str _, H, I.tok _, ⟨_, rfl⟩, q⟩
  | int i =>
    obtain ⟨t, rfl⟩ := ru
    exact PySem.P.repr_of_int (by simpa [PyData.showable] using hs) ⟨.str _, H, I.tok _, ⟨_, rfl⟩, q⟩
  | str z =>
    obtain ⟨t, rfl⟩ := ru
    exact PySem.P.repr_of_str ⟨.str _, H, I.tok _, ⟨_, rfl⟩, q⟩ hz
  | lst a b =>
    cases ru
    exact repr_of_reads' rd hs (PyData.noDict_hsm hn) gd (by omega) (fun _ _ e => e)
      (fun h' u tk hk => ⟨.str _, H, I.kept (t' := tk) hk, ⟨_, rfl⟩, q⟩) hz
  | tup a b =>
    cases ru
    exact repr_of_reads' rd hs (PyData.noDict_hsm hn) gd (by omega) (fun _ _ e => e)
      (fun h' u tk hk => ⟨.str _, H, I.kept (t' := tk) hk, ⟨_, rfl⟩, q⟩) hz
end LF

set_option Elab.async false
set_option linter.all false
set_option maxRecDepth 100000
set_option maxHeartbeats 4000000
namespace LF
open PySem PySem.Spec PyProof.Rows L2
open PySem.W (EachIs dataLe AllAlike Sortable KeepsBut KeyedOut)

theorem sqL_same {K : PySem.W.Frag} {H H' : Hp} {a : Addr} {xs : List V} (e : Same H H') (h : SqL K H a xs) : SqL K H' a xs := e.seq h
theorem sqT_same {K : PySem.W.Frag} {H H' : Hp} {a : Addr} {xs : List V} (e : Same H H') (h : SqT K H a xs) : SqT K H' a xs := by
  rcases h with (h | ⟨o, h⟩) | h
  · exact Or.inl (Or.inl (e _ _ h))
  · exact Or.inl (Or.inr ⟨o, e _ _ h⟩)
  · exact Or.inr h
mutual
theorem dp_same {K : PySem.W.Frag} {H H' : Hp} (e : Same H H') : ∀ (d : PyData) (v : V), Dp K H v d → Dp K H' v d
  | .none, _, h => by cases h; exact .non
  | .bool b, _, h => by cases h; exact .bl b
  | .int i, _, h => by cases h; exact .int i
  | .str x, _, h => by cases h; exact .str x
  | .list ds, _, h => by cases h with | lst a b => exact .lst (sqL_same e a) (dpAll_same e ds _ b)
  | .tuple ds, _, h => by cases h with | tup a b => exact .tup (sqT_same e a) (dpAll_same e ds _ b)
  | .dict _, _, h => by cases h
theorem dpAll_same {K : PySem.W.Frag} {H H' : Hp} (e : Same H H') : ∀ (ds : List PyData) (vs : List V), DpAll K H vs ds → DpAll K H' vs ds
  | [], _, h => by cases h; exact .nil
  | d :: ds, _, h => by cases h with | cons a b => exact .cons (dp_same e d _ a) (dpAll_same e ds _ b)
end

/-- sorted(xs, key=f), xs texts, f a def that hands back data and leaves what is tracked -/
def rSortF (K : PySem.W.Frag) (f : Addr) (kd : Str → PyData) (sp : Sp) : List V → List V → Hp → VK → Prop := fun xs zs H Q =>
  ∃ (a : Addr) (ws : List Str), xs = [.ref a] ∧ zs = [.ref f] ∧ SqL K H a (ws.map V.str) ∧ AllAlike (ws.map kd) ∧ Sortable (ws.map kd) ∧
    (∀ d ∈ ws.map kd, d.depth ≤ 60) ∧
    (∀ x ∈ ws, ∀ H1, Same H H1 → ∀ Q1 : VK, (∀ v H2, Same H1 H2 → Dp K H2 v (kd x) → Q1 v H2) → sp [.str x] H1 Q1 E0) ∧
    ∀ H1 p, Same H H1 → H1 p = none → Q (.ref p) (upd H1 p (.lst ((ws.mergeSort (dataLe false kd)).map V.str)))

theorem each_vals_str : ∀ {ws : List Str} {us : List Value}, Vals (ws.map V.str) us → EachIs (fun (v : Value) (x : Str) => ∃ t, v = Value.str x t) us ws
  | [], _, h => by cases h; exact .nil
  | x :: ws, _, h => by cases h with | cons a b => exact .cons a (each_vals_str b)
theorem vals_each_str : ∀ {ws : List Str} {us : List Value}, EachIs (fun (v : Value) (x : Str) => ∃ t, v = Value.str x t) us ws → Vals (ws.map V.str) us
  | [], _, h => by cases h; exact .nil
  | x :: ws, _, h => by cases h with | cons a b => exact .cons a (vals_each_str b)
theorem each_get {α β : Type} {R : α → β → Prop} : ∀ {as : List α} {bs : List β} {i : Nat} {x : α}, EachIs R as bs → as[i]? = some x → ∃ y, bs[i]? = some y ∧ R x y
  | _, _, 0, x, .cons h _, e => by simp at e; subst e; exact ⟨_, rfl, h⟩
  | _, _, i + 1, x, .cons _ t, e => by simpa using each_get (i := i) t (by simpa using e)
theorem each_reads {X : Cx} {pins : List (Addr × Obj)} {σ : L2.St} {H : Hp} {s : Shared} {kd : Str → PyData} (I : Inv X pins σ H s) :
    ∀ {us : List Value} {ws : List Str}, EachIs (fun v x => ∃ y, RelV y v ∧ Dp X.K H y (kd x)) us ws →
      EachIs (fun v k => ∃ as, Reads s.heap v k as) us (ws.map kd)
  | _, _, .nil => .nil
  | _, _, .cons ⟨y, r, d⟩ t => .cons (Dp.reads I _ _ _ d r) (each_reads I t)

section
variable {X : Cx} {kf : Nat} {f : Addr} {fd : FuncData} {px : Str} {sp : Sp} {kd : Str → PyData}

theorem pin_new {pins : List (Addr × Obj)} {σ : L2.St} {H : Hp} {s : Shared} (I : Inv X pins σ H s) {b : Addr} (hb : s.heap.objs.size ≤ b) :
    H b = none ∧ b ≠ X.env.locals ∧ b ∉ X.fs ∧ (∀ x c, X.env.cells.lookup x = some c → c ≠ b) ∧ ∀ p ∈ X.pn ++ pins, p.1 ≠ b := by
  refine ⟨I.hok.fresh hb, ?_, I.nofs hb, ?_, ?_⟩
  · exact Ne.symm (Nat.ne_of_lt (Nat.lt_of_lt_of_le I.lt hb))
  · intro x c hc
    obtain ⟨v, o, ho, _⟩ := I.cell x c hc
    exact Nat.ne_of_lt (Nat.lt_of_lt_of_le (Heap.lt_size ho) hb)
  · intro p hp
    exact Nat.ne_of_lt (Nat.lt_of_lt_of_le (Heap.lt_size (I.pin p hp).1) hb)

theorem call_sortedF (F : FnOk X.prog X.w X.K X.mg X.base CX0 kf f fd [px] sp) (hr : Room (kf + 2) X.A) (hb : Binds X.K fd [px] []) :
    CallRK X (.builtin "sorted") [Str.ofString "key"] (rSortF X.K f kd sp) := by
  intro pins s σ H xs zs us vz Q I r rz h
  obtain ⟨a, ws, rfl, rfl, hs, hal, hsk, hdep, hkey, hq⟩ := h
  obtain ⟨its, rv, hl, hz⟩ := I.list hs
  rw [Vals.ref1 r]
  rw [Vals.ref1 rz]
  have hwl : ws.length = its.length := by rw [← rv.length, List.length_map]
  have hZ : its.length ≤ sizeLine := by rw [← rv.length]; exact hz
  have hE := each_vals_str rv
  show wpAny _ _ (call (.builtin "sorted") [.ref a] [(Str.ofString "key", .ref f)]) _ _ _
  refine PySem.W.sorted_of_sort (vs := its) hl.isList hZ (ksk_s1 _ _) (fun x => ksk_l1 _ _) ?_
  intro E'
  rw [ksk_t1]
  obtain ⟨hp, g, dr, tk, os⟩ := s
  -- the copy, at D
  generalize hD : hp.objs.size + 1 = D
  have hcp : (PySem.W.copyHeap hp its).get? D = some (seqObj "list" its.toArray 0) := by rw [← hD]; exact PySem.W.copyHeap_at hp its
  have hold : ∀ b o, hp.get? b = some o → (PySem.W.copyHeap hp its).get? b = some o := fun b o e => PySem.W.copyHeap_old e
  have hDsz : D < (PySem.W.copyHeap hp its).objs.size := Heap.lt_size hcp
  have hDnew : hp.objs.size ≤ D := by omega
  obtain ⟨e1, he1⟩ : ∃ e1, ((PySem.W.copyHeap hp its).update D (Obj.mapSeq fun _ => (#[] : Array Value))).get? D = some (seqObj "list" #[] e1) := ⟨_, get?_update_seq hcp fun _ => #[]⟩
  have hS1 : ((PySem.W.copyHeap hp its).update D (Obj.mapSeq fun _ => (#[] : Array Value))).objs.size = (PySem.W.copyHeap hp its).objs.size := by rw [Heap.size_update]
  unfold ksk_tree
  refine wpAny_bind (listItems_at hcp rfl ?_)
  refine wpAny_bind (listUpdate_at hcp rfl ?_ (by rw [List.size_toArray]; exact hZ) (Nat.zero_le _))
  refine wpAny_bind (seqEpoch_at he1 rfl ?_)
  refine wpAny_bind (wpAny_newTuple ?_ (by show its.length ≤ _; exact hZ))
  refine wpAny_bind (wpAny_newList ?_ (Nat.zero_le _))
  refine wpAny_holding ?_
  generalize hT : (((PySem.W.copyHeap hp its).update D (Obj.mapSeq fun _ => (#[] : Array Value))).push ({ cls := .type "tuple", data := .seq its.toArray } : Obj)) = h1
  have hkS : h1.objs.size = (PySem.W.copyHeap hp its).objs.size + 1 := by rw [← hT, size_push', hS1]
  generalize hkk : h1.objs.size = kS
  have hDk : kS ≠ D := by omega
  have hkSnew : hp.objs.size ≤ kS := by omega
  have k1 : ∀ b o, b ≠ D → (PySem.W.copyHeap hp its).get? b = some o → h1.get? b = some o := fun b o hb e => by
    rw [← hT]
    exact Heap.get?_push_of_some _ ((Heap.get?_update_ne _ _ _ _ hb).trans e)
  have k2 : ∀ b o, hp.get? b = some o → (h1.push (seqObj "list" #[] 0)).get? b = some o := fun b o e =>
    Heap.get?_push_of_some _ (k1 b o (Nat.ne_of_lt (Nat.lt_of_lt_of_le (Heap.lt_size e) hDnew)) (hold b o e))
  have g1 : (h1.push (seqObj "list" #[] 0)).get? D = some (seqObj "list" #[] e1) := Heap.get?_push_of_some _ (by rw [← hT]; exact Heap.get?_push_of_some _ he1)
  have g2 : (h1.push (seqObj "list" #[] 0)).get? kS = some (seqObj "list" #[] 0) := by rw [← hkk]; exact Heap.get?_push_size _ rfl
  have nD := pin_new I (b := D) hDnew
  have nK := pin_new I (b := kS) hkSnew
  have I2 : Inv X pins σ H ⟨h1.push (seqObj "list" #[] 0), g, dr, tk, os⟩ := I.kept (t' := tk) k2
  have seqne : ∀ (c : String) (xs : Array Value) (n : Nat) (v : Option Value), (seqObj c xs n).data ≠ .cell v := fun c xs n v z => by cases z
  have I3 : Inv X ((kS, seqObj "list" #[] 0) :: (D, seqObj "list" #[] e1) :: pins) σ H ⟨h1.push (seqObj "list" #[] 0), g, dr, tk, os⟩ := I2.pins_of (by
    intro p hp'
    rcases List.mem_cons.mp hp' with rfl | hp'
    · exact ⟨g2, nK.1, nK.2.1, nK.2.2.1, seqne _ _ _⟩
    rcases List.mem_cons.mp hp' with rfl | hp'
    · exact ⟨g1, nD.1, nD.2.1, nD.2.2.1, seqne _ _ _⟩
    · exact I2.pin p (List.mem_append_right _ hp'))
  show wpAny _ _ (ksk_rest D (.ref f) false its.toArray e1 (.ref kS)) _ _ ⟨h1.push (seqObj "list" #[] 0), g, dr, tk, os⟩
  unfold ksk_rest
  refine wpAny_bind (wpAny_rule ?_)
  rw [List.forIn_toArray]
  refine wpAny_bind (ksk_fold (fun i s' => ∃ kA e H', Same H H' ∧ Inv X ((kS, seqObj "list" kA e) :: (D, seqObj "list" #[] e1) :: pins) σ H' s' ∧
      EachIs (fun v x => ∃ y, RelV y v ∧ Dp X.K H' y (kd x)) kA.toList (ws.take i)) its 0 _
    ⟨#[], 0, H, Same.refl H, I3, by rw [List.take_zero]; exact .nil⟩ ?step ?done)
  case step =>
    rintro j u s' hu ⟨kA, e, H', sm, J, hk⟩
    simp only [Nat.zero_add] at hk ⊢
    obtain ⟨x, hx, t, rfl⟩ := each_get hE hu
    have hxm : x ∈ ws := List.mem_of_getElem? hx
    have hj : j < ws.length := (List.getElem?_eq_some_iff.mp hx).1
    have hklen : kA.size ≤ ws.length := by
      have := hk.length
      rw [Array.length_toList, List.length_take] at this
      omega
    have hsp := hkey x hxm H' sm (fun v H2 => Same H' H2 ∧ Dp X.K H2 v (kd x)) (fun v H2 s2 d2 => ⟨s2, d2⟩)
    have hb' := hb s' [.str x t] J.kIn rfl
    rw [List.append_nil] at hb'
    have run := F.run X.A.in1.in1 X.stack s' H' ⟨[.str x t], []⟩ [.str x t] [.str x] _ E0 (hr.in1.in1) (J.env0.in1.in1) hb' (.cons ⟨t, rfl⟩ .nil) hsp
    have call1 : wpAny (model X.prog X.w) X.A.in1.in1 (call (.ref f) [.str x t]) (CE X.stack X.prog X.w H' s' (fun v H2 => Same H' H2 ∧ Dp X.K H2 v (kd x))) (fun _ _ => False) s' := by
      refine wpAny_call (codeAny_mono run ?_)
      intro rr s2 hq2
      cases rr with
      | error e => exact hq2
      | ok fl =>
        cases fl with
        | ret u => exact hq2
        | next => exact hq2
        | brk => exact hq2
        | cont => exact hq2
    refine wpAny_bind (wpAny_attempt (wpAny_mono call1 ?_ (fun _ _ z => z.elim)))
    intro u s2 hu2
    obtain ⟨y, H2, J2, ry, sm2, dp2⟩ := J.after hu2
    obtain ⟨pk, pnK, pLK, pfK, _⟩ := J2.pin (kS, seqObj "list" kA e) (List.mem_append_right _ List.mem_cons_self)
    obtain ⟨pd, pnD, pLD, pfD, _⟩ := J2.pin (D, seqObj "list" #[] e1) (List.mem_append_right _ (List.mem_cons_of_mem _ List.mem_cons_self))
    have J3 : Inv X ((D, seqObj "list" #[] e1) :: pins) σ H2 s2 := J2.pins_of (by
      intro p hp'
      exact J2.pin p (List.mem_append_right _ (List.mem_cons_of_mem _ hp')))
    obtain ⟨hp2, g2', dr2, tk2, os2⟩ := s2
    refine wpAny_bind (listUpdate_at pk rfl ?_ (Nat.le_trans hklen (by rw [hwl]; exact hZ)) (by rw [Array.size_push]; exact Nat.succ_le_succ (Nat.le_trans hklen (by rw [hwl]; exact hZ))))
    have sb := Heap.SameBut.update hp2 kS (Obj.mapSeq (·.push u))
    obtain ⟨c2, hc2⟩ : ∃ c2, (hp2.update kS (Obj.mapSeq (·.push u))).get? kS = some (seqObj "list" (kA.push u) c2) := ⟨_, get?_update_seq pk (·.push u)⟩
    have pne : ∀ p ∈ X.pn ++ ((D, seqObj "list" #[] e1) :: pins), p.1 ≠ kS := by
      intro p hp'
      rcases List.mem_append.mp hp' with q | q
      · exact nK.2.2.2.2 p (List.mem_append_left _ q)
      rcases List.mem_cons.mp q with rfl | q
      · exact Ne.symm hDk
      · exact nK.2.2.2.2 p (List.mem_append_right _ q)
    have s0k : X.s_0.heap.objs.size ≤ kS := Nat.le_trans I.sz hkSnew
    have J4 := J3.turned (t' := tk2) (it := kS) (h' := hp2.update kS (Obj.mapSeq (·.push u))) (fun b o hb e => (sb.2 b hb).trans e) pnK pLK (Or.inr s0k) nK.2.2.2.1 pne
    have J5 : Inv X ((kS, seqObj "list" (kA.push u) c2) :: (D, seqObj "list" #[] e1) :: pins) σ H2 ⟨hp2.update kS (Obj.mapSeq (·.push u)), g2', dr2, tk2, os2⟩ := J4.pins_of (by
      intro p hp'
      rcases List.mem_cons.mp hp' with rfl | hp'
      · exact ⟨hc2, pnK, pLK, pfK, seqne _ _ _⟩
      · exact J4.pin p (List.mem_append_right _ hp'))
    refine wpAny_pure ⟨rfl, kA.push u, c2, H2, sm.trans sm2, J5, ?_⟩
    have ek : ws.take (j + 1) = ws.take j ++ [x] := by rw [List.take_add_one, hx]; rfl
    rw [ek, Array.toList_push]
    exact PySem.W.each_snoc ⟨y, ry, dp2⟩ (hk.mono fun v z ⟨y', r', d'⟩ => ⟨y', r', dp_same sm2 _ _ d'⟩)
  case done =>
    rintro s' ⟨kA, e, H', sm, J, hk⟩
    rw [List.take_of_length_le (by omega)] at hk
    obtain ⟨pk, pnK, pLK, pfK, _⟩ := J.pin (kS, seqObj "list" kA e) (List.mem_append_right _ List.mem_cons_self)
    obtain ⟨pd, pnD, pLD, pfD, _⟩ := J.pin (D, seqObj "list" #[] e1) (List.mem_append_right _ (List.mem_cons_of_mem _ List.mem_cons_self))
    have J1 : Inv X pins σ H' s' := J.pins_of (by
      intro p hp'
      exact J.pin p (List.mem_append_right _ (List.mem_cons_of_mem _ (List.mem_cons_of_mem _ hp'))))
    have hr' := each_reads J hk
    have hksz : kA.size = its.length := by
      have := hk.length
      rw [Array.length_toList] at this
      omega
    refine wpAny_bind (listItems_at pk rfl ?_)
    have kb : KeepsBut D (PySem.W.hideAll s'.heap [kS]) s'.heap := fun b o hb e => PySem.W.of_hideAll [kS] e
    have hu : ∀ d ∈ ws.map kd, X.A.in1.in1.units + d.depth < cLine := by
      intro d hd
      have h1 := hdep d hd
      have h2 := hr.un
      show X.A.units + 1 + 1 + d.depth < cLine
      omega
    refine PySem.W.keyH_end (κ := PySem.W.dataKind s'.heap (ws.map kd)) kb (PySem.W.hideAll_none [kS] List.mem_cons_self) pk pd hDk (PySem.W.SortsAt.data (s := s') hr' hal hsk hu) hksz hZ ?_
    intro h' tk' c kp hD'
    refine ⟨rfl, ?_⟩
    have hout : EachIs (fun (v : Value) (x : Str) => ∃ t, v = Value.str x t) (PySem.W.sortVals (PySem.W.dataKind s'.heap (ws.map kd)) false kA.toList its) (ws.mergeSort (dataLe false kd)) :=
      PySem.W.keyedOut_each (rev := false) kd ⟨s'.heap, kA.toList, hal, rfl, hr'⟩ hE
    have hv := vals_each_str hout
    have keep : ∀ b o, b ≠ D → b ≠ kS → s'.heap.get? b = some o → h'.get? b = some o := fun b o n1 n2 e =>
      kp b o n1 (PySem.W.hideAll_get [kS] e (by simpa using n2))
    have hn : H' D = none := pnD
    have hlen : ((ws.mergeSort (dataLe false kd)).map V.str).length ≤ sizeLine := by
      rw [List.length_map, List.length_mergeSort, hwl]; exact hZ
    refine ⟨.ref D, upd H' D (.lst ((ws.mergeSort (dataLe false kd)).map V.str)), ?_, rfl, hq H' D sm hn⟩
    have hne : ∀ b u, H' b = some u → b ≠ D ∧ b ≠ kS := fun b u q => ⟨ne_of_none q hn, ne_of_none q pnK⟩
    refine J1.step (ch := [D, kS]) (g' := s'.gens) (d' := s'.drawn) (t' := tk') ?_ ?_ ?_ ?_ ?_ ?_ ?_ ?_ ?_ ?_ J1.bare
    · intro b hb
      rcases List.mem_cons.mp hb with rfl | hb
      · exact ⟨Or.inr (Nat.le_trans I.sz hDnew), pLD, nD.2.2.2.1, nD.2.2.2.2⟩
      · rw [List.mem_singleton.mp hb]
        exact ⟨Or.inr (Nat.le_trans I.sz hkSnew), pLK, nK.2.2.2.1, nK.2.2.2.2⟩
    · intro b o _ _ hc e _
      exact keep b o (fun z => hc (by simp [z])) (fun z => hc (by simp [z])) e
    · intro b o _ _ hc e _
      exact ⟨o.slots, keep b o (fun z => hc (by simp [z])) (fun z => hc (by simp [z])) e⟩
    · intro b o hc e n
      rw [upd_ne (fun z => hc (by simp [z]))]
      exact n
    · intro b o hc e
      exact ⟨o, keep b o (fun z => hc (by simp [z])) (fun z => hc (by simp [z])) e⟩
    · intro b xs e
      rw [upd_ne (hne b _ e).1]; exact e
    · intro b o u e
      rw [upd_ne (hne b _ e).1]; exact e
    · intro b ps e
      exact ⟨#[], by rw [upd_ne (hne b _ e).1, e]; simp⟩
    · rintro m ⟨o, es, ep, ho, rest⟩
      exact ⟨o, es, ep, keep _ o (Ne.symm pLD) (Ne.symm pLK) ho, rest⟩
    · intro b u e
      by_cases hb : b = D
      · subst hb
        rw [upd_same] at e
        cases e
        exact ⟨hlen, _, c, hv, hD'⟩
      · rw [upd_ne hb] at e
        refine (J1.hok b u e).stay (fun z w' hz q => keep z w' ?_ ?_ q) (fun z q => ?_) (fun z xs q => ?_)
        · rcases hz with rfl | hz
          · exact hb
          · exact (hne z _ hz).1
        · rcases hz with rfl | hz
          · exact (hne z _ e).2
          · exact (hne z _ hz).2
        · rw [upd_ne (hne z _ q).1]; exact q
        · rw [upd_ne (hne z _ q).1]; exact q
end
end LF

set_option Elab.async false
set_option linter.all false
set_option maxRecDepth 100000
set_option maxHeartbeats 4000000
namespace LF
open PySem PySem.Spec PySem.Calls PyProof.Rows
open PySem.W (Looks InstAt findIn specialIn takesIn subIn mroIn hasDictIn clsIn findObj looks_findIn looks_find looks_subIn any_some)

section
variable {prog : Program} {w : World} {A : Around} {E : Value → Shared → Prop} {s : Shared} {K : PySem.W.Frag} {x D : Addr} {ox : Obj} {od : Option Obj}

/-- an error's class asked of the error itself, whether it has a dict or none -/
theorem errClass (C : L2.ExcC K D) {Q : Option Value → Shared → Prop} (X : K.In s.heap) (I : InstAt s.heap x ox D od)
    (h : Q (some (.ref D)) { s with toks := s.toks + 1 }) : wpAny (model prog w) A (getAttr? (.ref x) "__class__") Q E s := by
  have hf : findObj K D od "__class__" = some (.bind (.builtin "getset_descriptor.__get__") (.builtin "object.__class__")) := by
    obtain ⟨cd, e, _⟩ := any_some C.hd
    simp only [findObj, e, C.ha, C.hn, C.ht, Option.bind_some]
  obtain ⟨hh, gg, dd, tt, oo⟩ := s
  have lt := I.type (M := model prog w)
  have lg := looks_findIn (M := model prog w) X C.hg
  have lk := looks_findIn (M := model prog w) X C.hk
  have lf := looks_find (M := model prog w) X I hf
  have ls : Looks (model prog w) hh (isInstance (.ref x) (.type "BaseException")) true := lt.andThen (looks_subIn X C.hs)
  have z0 : (Value.builtin "BaseException.__getattribute__" == Value.builtin "object.__getattribute__") = false := by decide +kernel
  have z1 : (onTheHeap (Value.ref D) && Value.builtin "BaseException.__getattribute__" == Value.builtin "object.__getattribute__") = false := by
    rw [z0]; rfl
  have z2 : (false && onTheHeap (Value.builtin "BaseException.__getattribute__")) = false := rfl
  unfold getAttr? getAttrBy? getAttrBy
  refine wpAny_bind (wpAny_mkText (wpAny_bind (wpAny_attempt (wpAny_holding (wpAny_bind (lt.at (wpAny_bind (lg.at ?_))))))))
  show wpAny _ _ (if (onTheHeap (Value.ref D) && Value.builtin "BaseException.__getattribute__" == Value.builtin "object.__getattribute__") = true
    then _ else _) _ _ _
  rw [z1, if_neg Bool.false_ne_true]
  unfold getAttrByItsOwn hookBefore
  apply wpAny_bind
  rw [if_pos (show onTheHeap (Value.ref D) = true from rfl)]
  apply lk.at
  refine wpAny_bind (wpAny_attempt (wpAny_holding ?_))
  unfold callGetattribute
  rw [z2, if_neg Bool.false_ne_true]
  unfold boundAndCalled
  rw [PySem.F.excAttr_ValueError.ga.bind (.ref x)]
  apply wpAny_bind
  apply wpAny_pure
  show wpAny _ _ (call (.builtin "BaseException.__getattribute__") [.ref x, .str "__class__" tt]) _ _ _
  refine wpAny_call (codeAny_call_builtin PySem.F.excAttr_ValueError.ga.plain PySem.F.entry_bexc_ga ?_)
  refine @PySem.W.check_slot (model prog w) _ _ ⟨hh, gg, dd, tt + 1, oo⟩ "BaseException.__getattribute__" "BaseException" "__getattribute__"
    (.ref x) [.str "__class__" tt] [] _ (by decide +kernel) (by decide +kernel) ls (PySem.F.args_bexc_ga (.ref x) (.str "__class__" tt)) ?_
  unfold Builtin.«object.__getattribute__»
  refine wpAny_bind (wpAny_of_eq (a := ((Value.ref x : Value), [Value.str "__class__" tt])) (by
    first
      | rfl
      | (simp only [slotArgs]; rfl)) ?_)
  refine wpAny_bind (wpAny_pure (wpAny_bind (lt.at (wpAny_bind (lf.at ?_)))))
  show wpAny _ _ (holding [Value.builtin "object.__class__"]
    (call (.builtin "getset_descriptor.__get__") [.builtin "object.__class__", .ref x, .ref D]) >>= ret) _ _ _
  refine wpAny_bind (wpAny_holding (wpAny_call (PySem.W.class_get (s := ⟨hh, gg, dd, tt + 1, oo⟩) X I C.hm ?_)))
  apply wpAny_pure
  show wpAny _ _ (handedOut (.ref D)) _ _ _
  rw [PySem.W.handedOut_of (v := .ref D) rfl]
  first
    | exact wpAny_pure (wpAny_pure h)
    | exact wpAny_pure h
    | exact wpAny_pure (wpAny_bind (wpAny_pure (wpAny_pure h)))

theorem errKit (C : L2.ExcC K D) : PySem.W.KitX K (.ref x) (.ref D) (fun h => ∃ ox od, InstAt h x ox D od) := by
  have cls : ∃ c d cd sl, K.lookup D = some ⟨c, d, .cls cd, sl⟩ := by
    obtain ⟨cd, e, _⟩ := any_some C.hd
    unfold clsIn at e
    split at e
    · rename_i c d cd' sl e'
      exact ⟨c, d, cd', sl, e'⟩
    · exact nomatch e
  obtain ⟨c, d, cd, sl, hl⟩ := cls
  refine ⟨fun M h X q => ?_, fun M h X q => ?_, fun h tp ddd its n sl' X ht => ?_, fun X q k => ?_⟩
  · obtain ⟨_, _, I⟩ := q
    exact I.type
  · intro A' Q' E' s' k q'
    unfold isType loadHead
    exact wpAny_bind (wpAny_loadPart (k _ _ (X _ _ hl)) (wpAny_pure q'))
  · cases hq : (Value.ref D == .ref tp) with
    | false => rfl
    | true =>
      have e : D = tp := Value.ref.inj (beq_iff_eq.mp hq)
      subst e
      exact nomatch (X _ _ hl).symm.trans ht
  · obtain ⟨_, _, I⟩ := q
    exact errClass C X I k
end
end LF

namespace LF
open PySem PySem.Spec PyProof.Rows L2
/-- isinstance(e, c) and isinstance(e, (c, ..)) of the error that the suite holds, with its own dict -/
def rIsErr (K : PySem.W.Frag) (D a : Addr) : List V → Hp → VK → Prop := fun xs H Q =>
  (∃ (c : V) (cv : Value) (b : Bool), xs = [.ref a, c] ∧ (∀ u, RelV c u → u = cv) ∧ PySem.W.kitOne K (.ref D) cv = some b ∧ Q (.bl b) H) ∨
  (∃ (tp : Addr) (cs : List V) (us : List Value) (b : Bool), xs = [.ref a, .ref tp] ∧ H tp = some (.tup cs) ∧ Paired ClsV cs us ∧
    PySem.W.kitAny K (.ref D) us = some b ∧ Q (.bl b) H)

theorem call_isErr {X : Cx} {a D : Addr} {oe : Obj} {cls : Value} {d : Option Addr} {pn : List (Addr × Obj)} (C : ExcC X.K D) (hz : Zc cls d oe)
    (hf : ∃ vs, oe.data = .fields vs) :
    CallR (X.suite a ((a, oe) :: pn)) (.builtin "isinstance")
      (fun xs H Q => cls = .ref D ∧ (∀ e, d = some e → ∃ fs, H e = some (.xd fs)) ∧ rIsErr X.K D a xs H Q) := by
  intro pins s σ H xs us Q I r h
  obtain ⟨ec0, hde, h⟩ := h
  subst ec0
  obtain ⟨hget, _⟩ := I.pin (a, oe) (List.mem_append.mpr (.inl List.mem_cons_self))
  obtain ⟨vs, hv⟩ := hf
  have J : ∃ ox od, PySem.W.InstAt s.heap a ox D od := by
    obtain ⟨oc, odd, oda, osl⟩ := oe
    obtain ⟨h1, h2⟩ := hz
    dsimp only at h1 h2 hv
    subst h1 h2 hv
    cases odd with
    | none => exact ⟨_, none, hget, rfl, rfl, trivial⟩
    | some e =>
      obtain ⟨fs, he⟩ := hde e rfl
      obtain ⟨mA, hns, _⟩ := (show ObjOk X.prog X.w H s.heap e (.xd fs) from I.hok e _ he)
      obtain ⟨od, ho, _⟩ := L2.lookIn_ns hns
      exact ⟨_, some od, hget, rfl, rfl, ho⟩
  rcases h with ⟨c, cv, b, rfl, hcv, e, q⟩ | ⟨tp, cs, ws, b, rfl, hT, k, e, q⟩
  · obtain ⟨u1, u2, rfl, r1, r2⟩ := vals2 r
    cases (show u1 = Value.ref a from r1)
    have ec := hcv _ r2
    subst ec
    exact PySem.W.kia_one (errKit C) I.kIn J e (fun z => nomatch z) fun tk => ⟨.bl b, H, I.tok tk, rfl, q⟩
  · obtain ⟨u1, u2, rfl, r1, r2⟩ := vals2 r
    cases (show u1 = Value.ref a from r1)
    cases (show u2 = Value.ref tp from r2)
    obtain ⟨_, its, rv, o, h1, h2, n, h3⟩ := (show ObjOk X.prog X.w H s.heap tp (.tup cs) from I.hok tp _ hT)
    have e3 := ClsV.all k rv
    subst e3
    obtain ⟨oc, od, dt, sl⟩ := o
    simp only at h2 h3
    subst h2 h3
    exact PySem.W.kia_tup (errKit C) I.kIn J h1 e (fun z => nomatch z) fun tk => ⟨.bl b, H, I.tok tk, rfl, q⟩
end LF

set_option Elab.async false
set_option linter.all false
set_option maxRecDepth 100000
set_option maxHeartbeats 4000000
namespace LF
open PySem PySem.Spec PyProof.Rows L2
def lettersN : Str := "abcdefghijklmnopqrstuvwxyz"
theorem low_code : ∀ c : Fin 128, (Unicode.isAlpha c.1 && !(Unicode.isUpper c.1 || Unicode.isTitle c.1)) = decide (c.1 ∈ lettersN.cps.toList) := by decide +kernel
theorem low_lower : ∀ c : Fin 128, c.1 ∈ lettersN.cps.toList → Unicode.isLower c.1 = true ∧ Unicode.isAlpha c.1 = true := by decide +kernel
theorem low_lt : ∀ c ∈ lettersN.cps.toList, c < 128 := by decide +kernel
theorem arr_all (a : Array Nat) (p : Nat → Bool) : a.all p = a.toList.all p := by rw [Array.all_toList]
theorem arr_any (a : Array Nat) (p : Nat → Bool) : a.any p = a.toList.any p := by rw [Array.any_toList]
/-- ASCII letters without capitals are a to z -/
theorem isLow {z : Str} (hz : 1 ≤ z.length) : (Txt.isascii z && (Txt.isalpha z && Txt.islower z)) = z.cps.toList.all fun c => decide (c ∈ lettersN.cps.toList) := by
  unfold Txt.isascii Txt.isalpha Txt.islower
  rw [arr_all, arr_all, arr_any, arr_any]
  have hl : z.cps.toList.length = z.length := by simp [Str.length]
  have hp : decide (z.length > 0) = true := decide_eq_true (by omega)
  rw [hp, Bool.true_and]
  generalize z.cps.toList = l at hl
  rw [Bool.eq_iff_iff]
  simp only [Bool.and_eq_true, List.all_eq_true, List.any_eq_true, Bool.not_eq_true', List.any_eq_false, decide_eq_true_eq, Bool.or_eq_true, not_or, Bool.not_eq_true]
  constructor
  · rintro ⟨h1, h2, ⟨_, _⟩, h4⟩ c hc
    have := low_code ⟨c, h1 c hc⟩
    simp only [h2 c hc, Bool.true_and] at this
    obtain ⟨h5, h6⟩ := h4 c hc
    rw [h5, h6] at this
    exact of_decide_eq_true this.symm
  · intro h
    have f := fun c hc => low_lower ⟨c, low_lt c (h c hc)⟩ (h c hc)
    refine ⟨fun c hc => low_lt c (h c hc), fun c hc => (f c hc).2, ?_, fun c hc => ?_⟩
    · cases l with
      | nil => simp at hl; omega
      | cons a l => exact ⟨a, List.mem_cons_self, (f a List.mem_cons_self).1⟩
    · have := low_code ⟨c, low_lt c (h c hc)⟩
      rw [(f c hc).2, Bool.true_and, decide_eq_true (h c hc)] at this
      simpa using this
/-- z.isascii() and its like -/
theorem pe_isascii {X : Cx} {o : Expr} {to : TE} {apos pos : Pos} (ho : PE X o to)
    (hbase : attributeBase o "isascii" X.env (eval o X.env) = eval o X.env := by rfl) (hline : (apos.endLine == pos.line) = true := by rfl) :
    PE X (.Call (.Attribute o "isascii" apos) [] [] pos) (tM0 (fun x xs H Q => ∃ a, x = .str a ∧ xs = [] ∧ True ∧ Q (.bl (Txt.isascii a)) H) to) :=
  pe_m0 F.slot_str_isascii F.type_str_isascii mt_isascii ho hbase hline
theorem pe_isalpha {X : Cx} {o : Expr} {to : TE} {apos pos : Pos} (ho : PE X o to)
    (hbase : attributeBase o "isalpha" X.env (eval o X.env) = eval o X.env := by rfl) (hline : (apos.endLine == pos.line) = true := by rfl) :
    PE X (.Call (.Attribute o "isalpha" apos) [] [] pos) (tM0 (fun x xs H Q => ∃ a, x = .str a ∧ xs = [] ∧ True ∧ Q (.bl (Txt.isalpha a)) H) to) :=
  pe_m0 F.slot_str_isalpha F.type_str_isalpha mt_isalpha ho hbase hline
theorem pe_islower {X : Cx} {o : Expr} {to : TE} {apos pos : Pos} (ho : PE X o to)
    (hbase : attributeBase o "islower" X.env (eval o X.env) = eval o X.env := by rfl) (hline : (apos.endLine == pos.line) = true := by rfl) :
    PE X (.Call (.Attribute o "islower" apos) [] [] pos) (tM0 (fun x xs H Q => ∃ a, x = .str a ∧ xs = [] ∧ True ∧ Q (.bl (Txt.islower a)) H) to) :=
  pe_m0 F.slot_str_islower F.type_str_islower mt_islower ho hbase hline
end LF

set_option Elab.async false
set_option linter.all false
set_option maxRecDepth 100000
set_option maxHeartbeats 4000000
namespace LF
open PySem PySem.Spec PyProof.Rows L2
/-- a def of the text: its promise, its place, how it is bound -/
structure DefAt (P : Program) (w : World) (K : PySem.W.Frag) (mg : Str → Option Value) (base : Heap) (x : Str) (k : Nat) (f : Addr) (fd : FuncData) (ps : List Str) (sp : Sp) : Prop where
  F : FnOk P w K mg base CX0 k f fd ps sp
  g : mg x = some (.ref f)
  kp : PySem.W.keepIn K (.ref f) = true
  b : Binds K fd ps []
theorem pe_callD {X : Cx} {x : Str} {k : Nat} {f : Addr} {fd : FuncData} {ps : List Str} {sp : Sp} {p pos : Pos} {e : Expr} {es : List Expr} {t : TA}
    (D : DefAt X.prog X.w X.K X.mg X.base x k f fd ps sp) (hr : Room k X.A) (ha : PA X (e :: es) t) (hg : Gl X x := by rfl)
    (hdb : (x == ("__debug__" : Str)) = false := by decide)
    (he : starEach (e :: es) X.env = (false, eval e X.env) :: starEach es X.env := by rfl) (hpl : (backTo pos (starEach es X.env)).any (·.1) = false := by rfl) :
    PE X (.Call (.Name x p) (e :: es) [] pos) (tCall sp [] E0 t) := pe_call D.F hr hg D.g D.kp D.b .nil pass0 ha hdb he hpl

/-- x.rpartition(sep) -/
theorem mt_rpartition {X : Cx} : MtR X "str.rpartition" (fun x xs H Q => ∃ a b, x = .str a ∧ xs = [.str b] ∧ (b.length == 0) = false ∧ a.length ≤ sizeLine ∧
    ∀ p, H p = none → Q (.ref p) (upd H p (.tup [.str (Txt.rpartition a b).1, .str (Txt.rpartition a b).2.1, .str (Txt.rpartition a b).2.2]))) := by
  rintro pins s σ H x xs v us Q I rx rs ⟨a, b, rfl, rfl, hb, hz, h⟩
  obtain ⟨t, rfl⟩ := rx
  obtain ⟨u, rfl, t2, rfl⟩ := vals1 rs
  refine call_meets F.slot_str_rpartition (typeIs_str _ _ _) F.entry_str_rpartition (F.args_str_rpartition_2 _ _) (meets_str_rpartition a b t t2 hb hz) ?_
  unfold Txt.rpartition at h
  revert h
  cases Builtin.Str.lastOccurrence a b 0 a.length with
  | none => exact fun h => laid_parts I h
  | some i => exact fun h => laid_parts I h
theorem pe_rpartition {X : Cx} {o e : Expr} {to te : TE} {apos pos : Pos} (ho : PE X o to) (he : PE X e te) (hs : starEach [e] X.env = [(false, eval e X.env)] := by rfl)
    (hbase : attributeBase o "rpartition" X.env (eval o X.env) = eval o X.env := by rfl) (hline : (apos.endLine == pos.line) = true := by rfl) :
    PE X (.Call (.Attribute o "rpartition" apos) [e] [] pos) (tM1 (fun x xs H Q => ∃ a b, x = .str a ∧ xs = [.str b] ∧ (b.length == 0) = false ∧ a.length ≤ sizeLine ∧
      ∀ p, H p = none → Q (.ref p) (upd H p (.tup [.str (Txt.rpartition a b).1, .str (Txt.rpartition a b).2.1, .str (Txt.rpartition a b).2.2]))) to te) :=
  pe_m1 F.slot_str_rpartition F.type_str_rpartition mt_rpartition ho he hs hbase hline
end LF
namespace LF
theorem ifD {p : Prop} [Decidable p] {A B : Prop} (h1 : p → A) (h2 : ¬ p → B) : if decide p = true then A else B := by
  by_cases h : p
  · rw [if_pos (decide_eq_true h)]; exact h1 h
  · rw [if_neg (by rw [decide_eq_false h]; exact Bool.false_ne_true)]; exact h2 h
theorem ifN {p : Prop} [Decidable p] {A B : Prop} (h1 : p → B) (h2 : ¬ p → A) : if (!decide p) = true then A else B := by
  by_cases h : p
  · rw [if_neg (by rw [decide_eq_true h]; exact Bool.false_ne_true)]; exact h1 h
  · rw [if_pos (by rw [decide_eq_false h]; rfl)]; exact h2 h
end LF

set_option Elab.async false
set_option linter.all false
set_option maxRecDepth 100000
set_option maxHeartbeats 4000000
namespace KC
open PySem PySem.Spec PyProof.Rows L2 LF
def topS (i : Nat) : Stmt := PySem.Challenge.pw_linkfarms_k40_layouts_made.main.body.getD i (.Pass ⟨0, 0, 0, 0⟩)
def letters : Str := "abcdefghijklmnopqrstuvwxyz"
def isNm (z : Str) : Bool := decide (1 ≤ z.length ∧ z.length ≤ 8) && z.cps.toList.all fun c => decide (c ∈ letters.cps.toList)
/-- what the top has written, but the defs -/
structure Txt (K : PySem.W.Frag) (mg : Str → Option Value) (tk1 tk2 : Tok) : Prop where
  g_LONGEST_NAME : mg "LONGEST_NAME" = some (.int 8 tk2)
  n_isinstance : mg "isinstance" = none
  n_str : mg "str" = none
  n_len : mg "len" = none
  n_all : mg "all" = none
  n_any : mg "any" = none
  n_tuple : mg "tuple" = none
  n_list : mg "list" = none
  n_dict : mg "dict" = none
  n_sorted : mg "sorted" = none
  n_range : mg "range" = none
  n_zip : mg "zip" = none
  n_enumerate : mg "enumerate" = none
  n_set : mg "set" = none
  n_abs : mg "abs" = none
  n_int : mg "int" = none
  n_bool : mg "bool" = none
  n_repr : mg "repr" = none
  n_max : mg "max" = none
  n_min : mg "min" = none
  n_ValueError : mg "ValueError" = none

def notStr : List String := ["NoneType", "int", "bool", "list", "tuple", "dict"]
def spName (K : PySem.W.Frag) : Sp := fun vs H Q _ => ∃ x, vs = [x] ∧
  ((∃ z : Str, x = .str z ∧ z.length ≤ 1000000 ∧ ∀ H', Same H H' → Q (.bl (isNm z)) H') ∨
   (∃ t, TyX K H x t ∧ PySem.W.kitOne K t (.type "str") = some false ∧ ∀ H', Same H H' → Q (.bl false) H'))

abbrev s_is_name : Stmt := topS 4
abbrev N_is_name : List Str := ["thing"]
theorem sc_is_name : FnScope ["thing"] ["thing"] (defScope s_is_name) := ⟨rfl, rfl, rfl, by decide +kernel, rfl, by decide +kernel, by decide +kernel⟩

theorem kit_no {K : PySem.W.Frag} {t : String} (h : t ∈ notStr) : PySem.W.kitOne K (.type t) (.type "str") = some false := by
  simp only [notStr, List.mem_cons, List.not_mem_nil, or_false] at h
  rcases h with rfl | rfl | rfl | rfl | rfl | rfl <;> exact kit_ty (by decide +kernel)
theorem kit_str {K : PySem.W.Frag} : PySem.W.kitOne K (.type "str") (.type "str") = some true := kit_ty (by decide +kernel)
section
variable {P : Program} {w : World} {K : PySem.W.Frag} {mg : Str → Option Value} {base : Heap} {tk1 tk2 : Tok}
theorem ok_is_name {f : Addr} {fd : FuncData} (F : Fun K "is_name" "is_name" s_is_name f fd) (T : Txt K mg tk1 tk2) : FnOk P w K mg base CX0 1 f fd ["thing"] (spName K) := by
  refine F.ok sc_is_name (fun vs H Q E h => ?_) (fun cdv A outer s H vs Q E hr h => ?_)
  · obtain ⟨x, rfl, _⟩ := h
    rfl
  refine ⟨_, (pss_one (ps_ret (pe_and (pe_callB call_isi (by rfl) T.n_isinstance (by decide +kernel) (pa_cons (pv 0) (pa_cons (pe_bltn (v := .ty "str") (by rfl) T.n_str (by decide +kernel) rfl) pa_nil))) (pe_and (pe_chain op_le op_le pe_int (pe_callB call_len_str (by rfl) T.n_len (by decide +kernel) (pa_cons (pv 0) pa_nil)) (pe_glob (v := .int 8) rfl T.g_LONGEST_NAME ⟨_, rfl⟩)) (pe_and (pe_isascii (pv 0)) (pe_and (pe_isalpha (pv 0)) (pe_one (pe_islower (pv 0))))))))), ?_⟩
  obtain ⟨x, rfl, h⟩ := h
  rcases h with ⟨z, rfl, hz, hq⟩ | ⟨t, ht, ty, hq⟩
  · refine ⟨_, rfl, _, .ty "str", _, _, true, rfl, .ty _, .base (.str _), kit_str, ?_⟩
    refine ⟨_, rfl, iteT ?_⟩
    have hl : z.length ≤ sizeLine := Nat.le_trans hz (by decide)
    have q0 := hq H (Same.refl H)
    have fin : isNm z = (decide (1 ≤ z.length ∧ z.length ≤ 8) && (PySem.Txt.isascii z && (PySem.Txt.isalpha z && PySem.Txt.islower z))) := by
      unfold isNm
      by_cases h1 : 1 ≤ z.length
      · rw [isLow h1]; rfl
      · rw [decide_eq_false (by omega)]; rfl
    rw [fin] at q0
    refine ⟨_, rfl, z, rfl, hl, _, _, rfl, rfl, _, rfl, ?_⟩
    refine ifD (fun h1 => ?_) (fun h1 => ?_)
    · refine ⟨_, _, rfl, rfl, _, rfl, ?_⟩
      refine ifD (fun h2 => ?_) (fun h2 => ?_)
      · rw [decide_eq_true (show 1 ≤ z.length ∧ z.length ≤ 8 by omega), Bool.true_and] at q0
        refine ⟨_, rfl, ⟨_, rfl⟩, z, rfl, rfl, trivial, _, rfl, ?_⟩
        cases e1 : PySem.Txt.isascii z with
        | false => rw [e1] at q0; exact iteF q0
        | true =>
          rw [e1, Bool.true_and] at q0
          refine iteT ⟨_, rfl, ⟨_, rfl⟩, z, rfl, rfl, trivial, _, rfl, ?_⟩
          cases e2 : PySem.Txt.isalpha z with
          | false => rw [e2] at q0; exact iteF q0
          | true =>
            rw [e2, Bool.true_and] at q0
            exact iteT ⟨_, rfl, ⟨_, rfl⟩, z, rfl, rfl, trivial, q0⟩
      · rw [decide_eq_false (by omega), Bool.false_and] at q0
        exact q0
    · rw [decide_eq_false (by omega), Bool.false_and] at q0
      refine ⟨_, rfl, ?_⟩
      exact q0
  · have q0 := hq H (Same.refl H)
    refine ⟨_, rfl, _, .ty "str", _, _, false, rfl, .ty _, ht, ty, ?_⟩
    exact ⟨_, rfl, iteF q0⟩
end
end KC

set_option Elab.async false
set_option linter.all false
set_option maxRecDepth 100000
set_option maxHeartbeats 4000000
namespace LF
open PySem PySem.Spec PyProof.Rows L2
/-- all that was tracked but b is as it was -/
def Keep (b : Addr) (H H' : Hp) : Prop := ∀ a o, a ≠ b → H a = some o → H' a = some o
theorem Keep.refl (b : Addr) (H : Hp) : Keep b H H := fun _ _ _ e => e
theorem Keep.trans {b : Addr} {H H1 H2 : Hp} (x : Keep b H H1) (y : Keep b H1 H2) : Keep b H H2 := fun a o n e => y a o n (x a o n e)
theorem Same.keep {b : Addr} {H H' : Hp} (s : Same H H') : Keep b H H' := fun a o _ e => s a o e
theorem same_upd {H H' : Hp} {D : Addr} {o : HO} (hD : H D = none) (s : Same H H') : Same H (upd H' D o) := fun b u e => by
  rw [upd_ne (ne_of_none e hD)]; exact s b u e
theorem same_new {H : Hp} {D : Addr} {o : HO} (hD : H D = none) : Same H (upd H D o) := same_upd hD (Same.refl H)
theorem keep_upd {b : Addr} {H H' : Hp} {D : Addr} {o : HO} (hD : H D = none) (s : Keep b H H') : Keep b H (upd H' D o) := fun a u n e => by
  rw [upd_ne (ne_of_none e hD)]; exact s a u n e
theorem keep_put {b : Addr} {H H' : Hp} {o : HO} (s : Keep b H H') : Keep b H (upd H' b o) := fun a u n e => by
  rw [upd_ne n]; exact s a u n e
theorem Keep.free {b : Addr} {H H' : Hp} (s : Keep b H H') {D : Addr} (n : D ≠ b) (h : H' D = none) : H D = none := by
  cases q : H D with
  | none => rfl
  | some o => rw [s D o n q] at h; cases h
theorem keep_seq {b a : Addr} {H H' : Hp} {K : PySem.W.Frag} {xs : List V} (s : Keep b H H') (n : a ≠ b) (h : SqL K H a xs) : SqL K H' a xs := by
  rcases h with (h | ⟨o, h⟩) | h
  · exact Or.inl (Or.inl (s _ _ n h))
  · exact Or.inl (Or.inr ⟨o, s _ _ n h⟩)
  · exact Or.inr h

/-- the law's bag of draws -/
def BagAt (H : Hp) (b : Addr) : Prop := ∃ d x n : Int, H b = some (.lst [.int d, .int x, .int n]) ∧ 0 ≤ d ∧ 0 ≤ x ∧ x < 2147483647
theorem BagAt.keep {H H' : Hp} {b a : Addr} (h : BagAt H b) (s : Keep a H H') (n : b ≠ a) : BagAt H' b := by
  obtain ⟨d, x, m, e, r⟩ := h
  exact ⟨d, x, m, s _ _ n e, r⟩
theorem BagAt.same {H H' : Hp} {b : Addr} (h : BagAt H b) (s : Same H H') : BagAt H' b := by
  obtain ⟨d, x, m, e, r⟩ := h
  exact ⟨d, x, m, s _ _ e, r⟩
theorem BagAt.ne {H : Hp} {b D : Addr} (h : BagAt H b) (hD : H D = none) : D ≠ b := by
  obtain ⟨d, x, m, e, r⟩ := h
  exact Ne.symm (ne_of_none e hD)

section
variable {K : PySem.W.Frag} {a D b : Addr} {xs : List V} {tt : TT} {te : TE} {j : Nat} {σ : L2.St} {H : Hp} {Qd : Hp → Prop}
/-- a comprehension over a list, nothing tracked is changed: filter and map -/
theorem lc_filt (p : V → Bool) (f : V → V) (hD : H D = none) (hS : SqL K H a xs) (hlen : xs.length < sizeLine)
    (ht : ∀ x H1 (R : Bool → Hp → Prop), x ∈ xs → Same H H1 → (∀ H3, Same H1 H3 → R (p x) H3) → tt ((wipe σ [j]).set j (some x)) H1 R)
    (he : ∀ x H1 (R : V → Hp → Prop), x ∈ xs → p x = true → Same H H1 → (∀ H3, Same H1 H3 → R (f x) H3) → te ((wipe σ [j]).set j (some x)) H1 R)
    (hd : ∀ H', Same H H' → H' D = some (.lst ((xs.filter p).map f)) → Qd H') :
    ∃ W : Nat → Nat → Hp → Prop, (∃ m, W 0 m (upd H D (.lst []))) ∧ ∀ i m H, W i m H →
      ((Itl K a).stop i H ∧ Qd H) ∨ ((Itl K a).go i H ∧ ∃ Nx : Hp → Prop, (∀ H', Nx H' → ∃ m', m' < m ∧ W (i + 1) m' H') ∧ ∀ x H', (Itl K a).yld i H x H' → gName j x (wipe σ [j]) H' fun σ2 H2 => wipe σ2 [j] = wipe σ [j] ∧ tt σ2 H2 fun b H3 =>
        if b = true then te σ2 H3 fun y H4 => ∃ acc, H4 D = some (.lst acc) ∧ acc.length < sizeLine ∧ Nx (upd H4 D (.lst (acc ++ [y]))) else Nx H3) := by
  refine lc_list (Pv := fun i H' => Same H H' ∧ H' D = some (.lst (((xs.take i).filter p).map f))) ⟨same_new hD, upd_same⟩ (fun i H' _ h => sqL_same h.1 hS) ?_ ?_
  · rintro i x H1 hx ⟨sm, hd1⟩
    have hm := List.mem_of_getElem? hx
    have et : xs.take (i + 1) = xs.take i ++ [x] := by rw [List.take_add_one, hx]; rfl
    have hl : (((xs.take i).filter p).map f).length < sizeLine := by
      rw [List.length_map]
      have h1 : ((xs.take i).filter p).length ≤ (xs.take i).length := List.length_filter_le _ _
      have h2 : (xs.take i).length ≤ xs.length := by rw [List.length_take]; exact Nat.min_le_right _ _
      omega
    refine ⟨?_, ht x H1 _ hm sm fun H3 s3 => ?_⟩
    · show (wipe ((wipe σ [j]).set j (some x)) [j]) = wipe σ [j]
      show (((σ.set j none).set j (some x)).set j none) = σ.set j none
      simp
    · cases hp : p x with
      | true =>
        refine iteT (he x H3 _ hm hp (sm.trans s3) fun H4 s4 => ?_)
        refine ⟨_, s4 _ _ (s3 _ _ hd1), hl, same_upd hD ((sm.trans s3).trans s4), ?_⟩
        rw [upd_same, et, List.filter_append, List.map_append]
        simp [hp]
      | false =>
        refine iteF ⟨sm.trans s3, ?_⟩
        rw [s3 _ _ hd1, et, List.filter_append, List.map_append]
        simp [hp]
  · rintro H1 ⟨sm, hd1⟩
    rw [List.take_length] at hd1
    exact hd H1 sm hd1
/-- a comprehension over range(n) whose element draws from the bag at b -/
theorem lc_draw {lo : Int} {n : Nat} (Good : V → Prop) (hb : BagAt H b) (hD : H D = none) (hlen : n < sizeLine)
    (he : ∀ i H1 (R : V → Hp → Prop), i < n → Keep b H H1 → BagAt H1 b → (∀ y H3, Keep b H1 H3 → BagAt H3 b → Good y → R y H3) → te ((wipe σ [j]).set j (some (.int (lo + i)))) H1 R)
    (hd : ∀ H' acc, Keep b H H' → BagAt H' b → H' D = some (.lst acc) → acc.length = n → (∀ y ∈ acc, Good y) → Qd H') :
    ∃ W : Nat → Nat → Hp → Prop, (∃ m, W 0 m (upd H D (.lst []))) ∧ ∀ i m H, W i m H →
      ((Itr lo n).stop i H ∧ Qd H) ∨ ((Itr lo n).go i H ∧ ∃ Nx : Hp → Prop, (∀ H', Nx H' → ∃ m', m' < m ∧ W (i + 1) m' H') ∧ ∀ x H', (Itr lo n).yld i H x H' → gName j x (wipe σ [j]) H' fun σ2 H2 => wipe σ2 [j] = wipe σ [j] ∧ tYes σ2 H2 fun b H3 =>
        if b = true then te σ2 H3 fun y H4 => ∃ acc, H4 D = some (.lst acc) ∧ acc.length < sizeLine ∧ Nx (upd H4 D (.lst (acc ++ [y]))) else Nx H3) := by
  have nDb := hb.ne hD
  refine lc_range (Pv := fun i H' => Keep b H H' ∧ BagAt H' b ∧ ∃ acc, H' D = some (.lst acc) ∧ acc.length = i ∧ ∀ y ∈ acc, Good y)
    ⟨keep_upd hD (Keep.refl b H), hb.same (same_new hD), [], upd_same, rfl, fun _ h => nomatch h⟩ ?_ ?_
  · rintro i H1 hi ⟨kp, bg, acc, hacc, hl, hg⟩
    refine ⟨?_, ?_⟩
    · show (((σ.set j none).set j (some (V.int (lo + i)))).set j none) = σ.set j none
      simp
    · refine he i H1 _ hi kp bg fun y H3 k3 b3 gy => ?_
      have h3 := k3 D _ nDb hacc
      refine ⟨acc, h3, by omega, keep_upd hD (kp.trans k3), ?_, acc ++ [y], upd_same, by simp [hl], ?_⟩
      · obtain ⟨d, x, m, e, r⟩ := b3
        exact ⟨d, x, m, by rw [upd_ne nDb.symm]; exact e, r⟩
      · intro z hz
        rcases List.mem_append.mp hz with q | q
        · exact hg z q
        · rw [List.mem_singleton.mp q]; exact gy
  · rintro H1 ⟨kp, bg, acc, hacc, hl, hg⟩
    exact hd H1 acc kp bg hacc hl hg
end
end LF

set_option Elab.async false
set_option linter.all false
set_option maxRecDepth 100000
set_option maxHeartbeats 4000000
namespace LF
open PySem PySem.Spec PyProof.Rows L2
open Evl (Ev EvL EvU EvT EvA Ex sq_of st_of)
/-! data over what is tracked -/
mutual
inductive Dq (H : Hp) : V → PyData → Prop
  | non : Dq H .non .none
  | bl (b : Bool) : Dq H (.bl b) (.bool b)
  | int (i : Int) : Dq H (.int i) (.int i)
  | str (x : Str) (hl : x.length ≤ 1000) (ho : PyData.strOk x = true) : Dq H (.str x) (.str x)
  | lst {a : Addr} {xs : List V} {ds : List PyData} : H a = some (.lst xs) → DqAll H xs ds → xs.length ≤ 1000 → Dq H (.ref a) (.list ds)
  | tup {a : Addr} {xs : List V} {ds : List PyData} : H a = some (.tup xs) → DqAll H xs ds → xs.length ≤ 1000 → Dq H (.ref a) (.tuple ds)
inductive DqAll (H : Hp) : List V → List PyData → Prop
  | nil : DqAll H [] []
  | cons {v : V} {vs : List V} {d : PyData} {ds : List PyData} : Dq H v d → DqAll H vs ds → DqAll H (v :: vs) (d :: ds)
end
mutual
theorem Dq.same {H H' : Hp} (s : Ex H H') : ∀ (d : PyData) (v : V), Dq H v d → Dq H' v d
  | .none, _, h => by cases h; exact .non
  | .bool _, _, h => by cases h; exact .bl _
  | .int _, _, h => by cases h; exact .int _
  | .str _, _, h => by cases h with | str _ h1 h2 => exact .str _ h1 h2
  | .list ds, _, h => by cases h with | lst h1 h2 h3 => exact .lst (s _ _ h1) (DqAll.same s ds _ h2) h3
  | .tuple ds, _, h => by cases h with | tup h1 h2 h3 => exact .tup (s _ _ h1) (DqAll.same s ds _ h2) h3
  | .dict _, _, h => by cases h
theorem DqAll.same {H H' : Hp} (s : Ex H H') : ∀ (ds : List PyData) (vs : List V), DqAll H vs ds → DqAll H' vs ds
  | [], _, h => by cases h; exact .nil
  | d :: ds, _, h => by cases h with | cons h1 h2 => exact .cons (Dq.same s d _ h1) (DqAll.same s ds _ h2)
end
mutual
theorem Dq.dp {K : PySem.W.Frag} {H : Hp} : ∀ (d : PyData) (v : V), Dq H v d → Dp K H v d
  | .none, _, h => by cases h; exact .non
  | .bool _, _, h => by cases h; exact .bl _
  | .int _, _, h => by cases h; exact .int _
  | .str _, _, h => by cases h; exact .str _
  | .list ds, _, h => by cases h with | lst h1 h2 h3 => exact .lst (SqL.of h1) (DqAll.dp ds _ h2)
  | .tuple ds, _, h => by cases h with | tup h1 h2 h3 => exact .tup (SqT.of h1) (DqAll.dp ds _ h2)
  | .dict _, _, h => by cases h
theorem DqAll.dp {K : PySem.W.Frag} {H : Hp} : ∀ (ds : List PyData) (vs : List V), DqAll H vs ds → DpAll K H vs ds
  | [], _, h => by cases h; exact .nil
  | d :: ds, _, h => by cases h with | cons h1 h2 => exact .cons (Dq.dp d _ h1) (DqAll.dp ds _ h2)
end
mutual
theorem Dq.lay {H : Hp} : ∀ (d : PyData) (v : V), Dq H v d → PyData.canLay0 d = true
  | .none, _, h => by simp [PyData.canLay0]
  | .bool _, _, h => by simp [PyData.canLay0]
  | .int _, _, h => by simp [PyData.canLay0]
  | .str _, _, h => by cases h with | str _ h1 h2 => simpa [PyData.canLay0] using h2
  | .list ds, _, h => by cases h with | lst h1 h2 h3 => simpa [PyData.canLay0] using DqAll.lay ds _ h2
  | .tuple ds, _, h => by cases h with | tup h1 h2 h3 => simpa [PyData.canLay0] using DqAll.lay ds _ h2
  | .dict _, _, h => by cases h
theorem DqAll.lay {H : Hp} : ∀ (ds : List PyData) (vs : List V), DqAll H vs ds → PyData.canLayAll0 ds = true
  | [], _, h => by simp [PyData.canLayAll0]
  | d :: ds, _, h => by cases h with | cons h1 h2 => simp [PyData.canLayAll0, Dq.lay d _ h1, DqAll.lay ds _ h2]
end
theorem DqAll.len {H : Hp} : ∀ {vs : List V} {ds : List PyData}, DqAll H vs ds → vs.length = ds.length
  | _, _, .nil => rfl
  | _, _, .cons _ h => by rw [List.length_cons, List.length_cons, h.len]
theorem DqAll.get {H : Hp} : ∀ {vs : List V} {ds : List PyData} (i : Nat) {x : V}, DqAll H vs ds → vs[i]? = some x → ∃ d, ds[i]? = some d ∧ Dq H x d
  | _, _, i, _, .nil, h => by simp at h
  | _, _, 0, _, .cons h1 _, h => ⟨_, rfl, by cases (show some _ = some _ from h); exact h1⟩
  | _, _, i + 1, _, .cons _ h2, h => DqAll.get (vs := _) (ds := _) i h2 h
theorem DqAll.get' {H : Hp} : ∀ {vs : List V} {ds : List PyData} (i : Nat) {d : PyData}, DqAll H vs ds → ds[i]? = some d → ∃ x, vs[i]? = some x ∧ Dq H x d
  | _, _, i, _, .nil, h => by simp at h
  | _, _, 0, _, .cons h1 _, h => ⟨_, rfl, by cases (show some _ = some _ from h); exact h1⟩
  | _, _, i + 1, _, .cons _ h2, h => DqAll.get' (vs := _) (ds := _) i h2 h
/-! what kind of data -/
def tyN : PyData → String
  | .none => "NoneType" | .bool _ => "bool" | .int _ => "int" | .str _ => "str" | .list _ => "list" | .tuple _ => "tuple" | .dict _ => "dict"
def isStr : PyData → Bool | .str _ => true | _ => false
def isTup : PyData → Bool | .tuple _ => true | _ => false
def isLst : PyData → Bool | .list _ => true | _ => false
def isBol : PyData → Bool | .bool _ => true | _ => false
def isNum : PyData → Bool | .bool _ => true | .int _ => true | _ => false
def items : PyData → List PyData | .tuple ds => ds | .list ds => ds | _ => []
def at' (d : PyData) (i : Nat) : PyData := (items d).getD i .none
def txt : PyData → Str | .str z => z | _ => ""
def num : PyData → Int | .int i => i | .bool b => if b then 1 else 0 | _ => 0
theorem Dq.ty {K : PySem.W.Frag} {H : Hp} {d : PyData} {v : V} (h : Dq H v d) : TyX K H v (.type (tyN d)) := by
  cases h with
  | non => exact .base .non
  | bl b => exact .base (.bl b)
  | int i => exact .base (.int i)
  | str x _ _ => exact .base (.str x)
  | lst e _ _ => exact .base (.lst e)
  | tup e _ _ => exact .base (.tup e)
theorem kit_str' {K : PySem.W.Frag} : ∀ d : PyData, PySem.W.kitOne K (.type (tyN d)) (.type "str") = some (isStr d)
  | .none => (kit_ty (by decide +kernel) : PySem.W.kitOne K (.type "NoneType") (.type "str") = some false)
  | .bool _ => (kit_ty (by decide +kernel) : PySem.W.kitOne K (.type "bool") (.type "str") = some false)
  | .int _ => (kit_ty (by decide +kernel) : PySem.W.kitOne K (.type "int") (.type "str") = some false)
  | .str _ => (kit_ty (by decide +kernel) : PySem.W.kitOne K (.type "str") (.type "str") = some true)
  | .list _ => (kit_ty (by decide +kernel) : PySem.W.kitOne K (.type "list") (.type "str") = some false)
  | .tuple _ => (kit_ty (by decide +kernel) : PySem.W.kitOne K (.type "tuple") (.type "str") = some false)
  | .dict _ => (kit_ty (by decide +kernel) : PySem.W.kitOne K (.type "dict") (.type "str") = some false)
theorem kit_tup' {K : PySem.W.Frag} : ∀ d : PyData, PySem.W.kitOne K (.type (tyN d)) (.type "tuple") = some (isTup d)
  | .none => (kit_ty (by decide +kernel) : PySem.W.kitOne K (.type "NoneType") (.type "tuple") = some false)
  | .bool _ => (kit_ty (by decide +kernel) : PySem.W.kitOne K (.type "bool") (.type "tuple") = some false)
  | .int _ => (kit_ty (by decide +kernel) : PySem.W.kitOne K (.type "int") (.type "tuple") = some false)
  | .str _ => (kit_ty (by decide +kernel) : PySem.W.kitOne K (.type "str") (.type "tuple") = some false)
  | .list _ => (kit_ty (by decide +kernel) : PySem.W.kitOne K (.type "list") (.type "tuple") = some false)
  | .tuple _ => (kit_ty (by decide +kernel) : PySem.W.kitOne K (.type "tuple") (.type "tuple") = some true)
  | .dict _ => (kit_ty (by decide +kernel) : PySem.W.kitOne K (.type "dict") (.type "tuple") = some false)
theorem kit_lst' {K : PySem.W.Frag} : ∀ d : PyData, PySem.W.kitOne K (.type (tyN d)) (.type "list") = some (isLst d)
  | .none => (kit_ty (by decide +kernel) : PySem.W.kitOne K (.type "NoneType") (.type "list") = some false)
  | .bool _ => (kit_ty (by decide +kernel) : PySem.W.kitOne K (.type "bool") (.type "list") = some false)
  | .int _ => (kit_ty (by decide +kernel) : PySem.W.kitOne K (.type "int") (.type "list") = some false)
  | .str _ => (kit_ty (by decide +kernel) : PySem.W.kitOne K (.type "str") (.type "list") = some false)
  | .list _ => (kit_ty (by decide +kernel) : PySem.W.kitOne K (.type "list") (.type "list") = some true)
  | .tuple _ => (kit_ty (by decide +kernel) : PySem.W.kitOne K (.type "tuple") (.type "list") = some false)
  | .dict _ => (kit_ty (by decide +kernel) : PySem.W.kitOne K (.type "dict") (.type "list") = some false)
theorem kit_bol' {K : PySem.W.Frag} : ∀ d : PyData, PySem.W.kitOne K (.type (tyN d)) (.type "bool") = some (isBol d)
  | .none => (kit_ty (by decide +kernel) : PySem.W.kitOne K (.type "NoneType") (.type "bool") = some false)
  | .bool _ => (kit_ty (by decide +kernel) : PySem.W.kitOne K (.type "bool") (.type "bool") = some true)
  | .int _ => (kit_ty (by decide +kernel) : PySem.W.kitOne K (.type "int") (.type "bool") = some false)
  | .str _ => (kit_ty (by decide +kernel) : PySem.W.kitOne K (.type "str") (.type "bool") = some false)
  | .list _ => (kit_ty (by decide +kernel) : PySem.W.kitOne K (.type "list") (.type "bool") = some false)
  | .tuple _ => (kit_ty (by decide +kernel) : PySem.W.kitOne K (.type "tuple") (.type "bool") = some false)
  | .dict _ => (kit_ty (by decide +kernel) : PySem.W.kitOne K (.type "dict") (.type "bool") = some false)
theorem kit_int' {K : PySem.W.Frag} : ∀ d : PyData, PySem.W.kitOne K (.type (tyN d)) (.type "int") = some (isNum d)
  | .none => (kit_ty (by decide +kernel) : PySem.W.kitOne K (.type "NoneType") (.type "int") = some false)
  | .bool _ => (kit_ty (by decide +kernel) : PySem.W.kitOne K (.type "bool") (.type "int") = some true)
  | .int _ => (kit_ty (by decide +kernel) : PySem.W.kitOne K (.type "int") (.type "int") = some true)
  | .str _ => (kit_ty (by decide +kernel) : PySem.W.kitOne K (.type "str") (.type "int") = some false)
  | .list _ => (kit_ty (by decide +kernel) : PySem.W.kitOne K (.type "list") (.type "int") = some false)
  | .tuple _ => (kit_ty (by decide +kernel) : PySem.W.kitOne K (.type "tuple") (.type "int") = some false)
  | .dict _ => (kit_ty (by decide +kernel) : PySem.W.kitOne K (.type "dict") (.type "int") = some false)
/-- what a reading gives, as data -/
def EvD (te : TE) (σ : L2.St) (H : Hp) (d : PyData) : Prop := ∃ x, Ev te σ H x ∧ Dq H x d
def spD (g : PyData → Bool) : Sp := fun vs H Q _ => ∃ x d, vs = [x] ∧ Dq H x d ∧ ∀ H', Ex H H' → Q (.bl (g d)) H'
section
variable {K : PySem.W.Frag} {σ : L2.St} {H H' : Hp} {ta tb te tx : TE} {t u : TT} {x y z v : V} {d e : PyData}
theorem EvD.mono (s : Ex H H') (h : EvD te σ H d) : EvD te σ H' d := by
  obtain ⟨x, h1, h2⟩ := h
  exact ⟨x, h1.mono s, Dq.same s _ _ h2⟩
theorem evd_var {i : Nat} (h : σ[i]? = some (some x)) (hd : Dq H x d) : EvD (tVar i) σ H d := ⟨x, Evl.ev_var h, hd⟩
theorem ev_isi {T : String} {b : Bool} (h : EvD te σ H d) (hk : PySem.W.kitOne K (.type (tyN d)) (.type T) = some b) : Ev (tCB (rIsi K) (tCons te (tCons (tC (.ty T)) tNil))) σ H (.bl b) := by
  obtain ⟨x, h1, h2⟩ := h
  refine Evl.ev_cb (vs := [x, .ty T]) (Evl.ea_cons h1 (Evl.ea_cons Evl.ev_c Evl.ea_nil)) fun H1 e Q q => ?_
  exact ⟨x, .ty T, _, _, b, rfl, .ty T, (Dq.same e _ _ h2).ty, hk, q H1 (Ex.refl H1)⟩
theorem Dq.tupE (h : Dq H x d) (ht : isTup d = true) : ∃ a xs, x = .ref a ∧ H a = some (.tup xs) ∧ DqAll H xs (items d) ∧ xs.length ≤ 1000 ∧ xs.length = (items d).length := by
  cases h with
  | tup h1 h2 h3 => exact ⟨_, _, rfl, h1, h2, h3, h2.len⟩
  | _ => cases ht
theorem Dq.lstE (h : Dq H x d) (ht : isLst d = true) : ∃ a xs, x = .ref a ∧ H a = some (.lst xs) ∧ DqAll H xs (items d) ∧ xs.length ≤ 1000 ∧ xs.length = (items d).length := by
  cases h with
  | lst h1 h2 h3 => exact ⟨_, _, rfl, h1, h2, h3, h2.len⟩
  | _ => cases ht
theorem Dq.strE (h : Dq H x d) (ht : isStr d = true) : x = .str (txt d) ∧ (txt d).length ≤ 1000 ∧ PyData.strOk (txt d) = true ∧ d = .str (txt d) := by
  cases h with
  | str z h1 h2 => exact ⟨rfl, h1, h2, rfl⟩
  | _ => cases ht
theorem Dq.intE (h : Dq H x d) (ht : isNum d = true) (hb : isBol d = false) : x = .int (num d) ∧ d = .int (num d) := by
  cases h with
  | int i => exact ⟨rfl, rfl⟩
  | bl b => cases hb
  | _ => cases ht
theorem ev_lenD (h : EvD te σ H d) (ht : isTup d = true ∨ isLst d = true) : Ev (tCB (Evl.rLenS K) (tCons te tNil)) σ H (.int ((items d).length : Int)) := by
  obtain ⟨x, h1, h2⟩ := h
  refine Evl.ev_cb (vs := [x]) (Evl.ea_cons h1 Evl.ea_nil) fun H1 e Q q => ?_
  rcases ht with ht | ht
  · obtain ⟨a, xs, rfl, ha, _, _, hl⟩ := h2.tupE ht
    exact ⟨a, xs, rfl, Or.inr (st_of (e _ _ ha)), by rw [hl]; exact q H1 (Ex.refl H1)⟩
  · obtain ⟨a, xs, rfl, ha, _, _, hl⟩ := h2.lstE ht
    exact ⟨a, xs, rfl, Or.inl (sq_of (e _ _ ha)), by rw [hl]; exact q H1 (Ex.refl H1)⟩
theorem atI_nat' {xs : List V} {i : Nat} {y : V} (h : xs[i]? = some y) : atI xs (i : Int) = some y := atI_nat h
theorem evd_atT {i : Nat} (h : EvD te σ H d) (ht : isTup d = true) (hi : i < (items d).length) (hb : Ev tb σ H (.int (i : Int))) : EvD (tOp (rIxT K) te tb) σ H (at' d i) := by
  obtain ⟨x, h1, h2⟩ := h
  obtain ⟨a, xs, rfl, ha, hd, _, hl⟩ := h2.tupE ht
  obtain ⟨y, hy, hq⟩ := hd.get' i (List.getElem?_eq_getElem hi)
  refine ⟨y, Evl.ev_op h1 hb (Evl.rv_ixT (st_of ha) (atI_nat' hy)), ?_⟩
  have e : at' d i = (items d)[i] := by unfold at'; rw [List.getD_eq_getElem?_getD, List.getElem?_eq_getElem hi]; rfl
  rw [e]; exact hq
theorem evd_atL {i : Nat} (h : EvD te σ H d) (ht : isLst d = true) (hi : i < (items d).length) (hb : Ev tb σ H (.int (i : Int))) : EvD (tOp (rIxL K) te tb) σ H (at' d i) := by
  obtain ⟨x, h1, h2⟩ := h
  obtain ⟨a, xs, rfl, ha, hd, _, hl⟩ := h2.lstE ht
  obtain ⟨y, hy, hq⟩ := hd.get' i (List.getElem?_eq_getElem hi)
  refine ⟨y, Evl.ev_op h1 hb (Evl.rv_ixL (sq_of ha) (atI_nat' hy)), ?_⟩
  have e : at' d i = (items d)[i] := by unfold at'; rw [List.getD_eq_getElem?_getD, List.getElem?_eq_getElem hi]; rfl
  rw [e]; exact hq
theorem ev_callB1 {g : PyData → Bool} {E : XK} (h : EvD te σ H d) : Ev (tCall (spD g) [] E (tCons te tNil)) σ H (.bl (g d)) := by
  obtain ⟨x, h1, h2⟩ := h
  exact Evl.ev_call (vs := [x]) (Evl.ea_cons h1 Evl.ea_nil) fun H1 e Q q E => ⟨x, d, rfl, Dq.same e _ _ h2, fun H2 e2 => q H2 e2⟩
theorem vint_dec (i j : Int) : decide (V.int i = V.int j) = decide (i = j) := by
  by_cases h : i = j
  · subst h; simp
  · rw [decide_eq_false h, decide_eq_false (fun e => h (V.int.inj e))]
theorem vstr_dec (z y : Str) : decide (V.str z = V.str y) = decide (z = y) := by
  by_cases h : z = y
  · subst h; simp
  · rw [decide_eq_false h, decide_eq_false (fun e => h (V.str.inj e))]
theorem ev_eqI {i j : Int} (ha : Ev ta σ H (.int i)) (hb : Ev tb σ H (.int j)) : Ev (tOp rEq ta tb) σ H (.bl (decide (i = j))) :=
  Evl.ev_is (Evl.ev_op ha hb (Evl.rv_eq rfl)) (by rw [vint_dec])
theorem ev_eqS {z w : Str} (ha : Ev ta σ H (.str z)) (hb : Ev tb σ H (.str w)) : Ev (tOp rEq ta tb) σ H (.bl (decide (z = w))) :=
  Evl.ev_is (Evl.ev_op ha hb (Evl.rv_eq rfl)) (by rw [vstr_dec])
theorem EvD.strE (h : EvD te σ H d) (ht : isStr d = true) : Ev te σ H (.str (txt d)) := by
  obtain ⟨x, h1, h2⟩ := h
  rw [(h2.strE ht).1] at h1
  exact h1
theorem EvD.intE (h : EvD te σ H d) (ht : isNum d = true) (hb : isBol d = false) : Ev te σ H (.int (num d)) := by
  obtain ⟨x, h1, h2⟩ := h
  rw [(h2.intE ht hb).1] at h1
  exact h1
theorem ev_allB {bs : List Bool} (h : EvL te σ H (bs.map V.bl)) : Ev (tCB (rAll K) (tCons te tNil)) σ H (.bl (bs.all id)) := fun H1 e Q q =>
  h H1 e _ fun p H2 _ e2 h2 => ⟨p, bs, rfl, sq_of h2, q H2 e2⟩
/-- a comprehension over a tuple, each item once: what the element gives, item by item -/
theorem el_lcTm {a : Addr} {xs : List V} {tl : TE} {g : TG} {vs : List Nat} (ys : List V) (h : Ev tl σ H (.ref a)) (hx : H a = some (.tup xs)) (hl : ys.length = xs.length) (hz : xs.length ≤ 40000)
    (hs : ∀ (i : Nat) (x y : V) (H1 : Hp) (R : L2.St → Hp → Prop), Ex H H1 → xs[i]? = some x → ys[i]? = some y → (∀ σ2, wipe σ2 vs = wipe σ vs → Ev te σ2 H1 y → R σ2 H1) → g x (wipe σ vs) H1 R) :
    EvL (tLc (iTup K tl) g tYes te vs) σ H ys := fun H0 e Q q => h H0 e _ fun H1 e1 => ⟨a, rfl, ⟨xs, st_of ((e.trans e1) _ _ hx)⟩, fun Dl hD =>
  lc_tup (xs := xs) (fun i H' => Ex H1 H' ∧ H' Dl = some (.lst (ys.take i))) ⟨Ex.new hD, by rw [List.take_zero]; exact upd_same⟩ (fun i H' _ p => st_of (p.1 _ _ ((e.trans e1) _ _ hx))) (fun i x H' hi p => by
    have hi' : i < xs.length := (List.getElem?_eq_some_iff.mp hi).1
    have hy : ys[i]? = some ys[i] := List.getElem?_eq_getElem (by omega)
    refine hs i x _ H' _ ((e.trans e1).trans p.1) hi hy fun σ2 hw hev => ?_
    have key : te σ2 H' (fun y H4 => ∃ acc, H4 Dl = some (.lst acc) ∧ acc.length < sizeLine ∧ (Ex H1 (upd H4 Dl (.lst (acc ++ [y]))) ∧ upd H4 Dl (.lst (acc ++ [y])) Dl = some (.lst (ys.take (i + 1))))) := ?_
    · exact ⟨hw, key⟩
    refine hev H' (Ex.refl H') _ fun H4 e4 => ⟨ys.take i, e4 _ _ p.2, ?_, Ex.mut (p.1.trans e4) hD, ?_⟩
    · rw [List.length_take]; exact Evl.sz_lt (by omega)
    · rw [upd_same, List.take_add_one, hy]; rfl) (fun H' p => q Dl H' (Evl.fresh_back e1 hD) (e1.trans p.1) (by
    have := p.2
    rw [List.take_of_length_le (by omega)] at this
    exact this))⟩
/-- the same over a list -/
theorem el_lcLm {a : Addr} {xs : List V} {tl : TE} {g : TG} {vs : List Nat} (ys : List V) (h : Ev tl σ H (.ref a)) (hx : H a = some (.lst xs)) (hl : ys.length = xs.length) (hz : xs.length ≤ 40000)
    (hs : ∀ (i : Nat) (x y : V) (H1 : Hp) (R : L2.St → Hp → Prop), Ex H H1 → xs[i]? = some x → ys[i]? = some y → (∀ σ2, wipe σ2 vs = wipe σ vs → Ev te σ2 H1 y → R σ2 H1) → g x (wipe σ vs) H1 R) :
    EvL (tLc (iList K tl) g tYes te vs) σ H ys := fun H0 e Q q => h H0 e _ fun H1 e1 => ⟨a, rfl, ⟨xs, sq_of ((e.trans e1) _ _ hx)⟩, fun Dl hD =>
  lc_list (xs := xs) (fun i H' => Ex H1 H' ∧ H' Dl = some (.lst (ys.take i))) ⟨Ex.new hD, by rw [List.take_zero]; exact upd_same⟩ (fun i H' _ p => sq_of (p.1 _ _ ((e.trans e1) _ _ hx))) (fun i x H' hi p => by
    have hi' : i < xs.length := (List.getElem?_eq_some_iff.mp hi).1
    have hy : ys[i]? = some ys[i] := List.getElem?_eq_getElem (by omega)
    refine hs i x _ H' _ ((e.trans e1).trans p.1) hi hy fun σ2 hw hev => ?_
    have key : te σ2 H' (fun y H4 => ∃ acc, H4 Dl = some (.lst acc) ∧ acc.length < sizeLine ∧ (Ex H1 (upd H4 Dl (.lst (acc ++ [y]))) ∧ upd H4 Dl (.lst (acc ++ [y])) Dl = some (.lst (ys.take (i + 1))))) := ?_
    · exact ⟨hw, key⟩
    refine hev H' (Ex.refl H') _ fun H4 e4 => ⟨ys.take i, e4 _ _ p.2, ?_, Ex.mut (p.1.trans e4) hD, ?_⟩
    · rw [List.length_take]; exact Evl.sz_lt (by omega)
    · rw [upd_same, List.take_add_one, hy]; rfl) (fun H' p => q Dl H' (Evl.fresh_back e1 hD) (e1.trans p.1) (by
    have := p.2
    rw [List.take_of_length_le (by omega)] at this
    exact this))⟩
theorem wipe_set {σ : L2.St} {j : Nat} {x : V} : wipe ((wipe σ [j]).set j (some x)) [j] = wipe σ [j] := by
  show ((σ.set j none).set j (some x)).set j none = σ.set j none
  simp
/-- all([f(x) for x in tuple]) by data -/
theorem ev_allT {j : Nat} {tl : TE} (g : PyData → Bool) (h : EvD tl σ H d) (ht : isTup d = true) (hs : ∀ x d' H1, Ex H H1 → Dq H1 x d' → d' ∈ items d → Ev te ((wipe σ [j]).set j (some x)) H1 (.bl (g d'))) :
    Ev (tCB (rAll K) (tCons (tLc (iTup K tl) (gName j) tYes te [j]) tNil)) σ H (.bl ((items d).all g)) := by
  obtain ⟨x, h1, h2⟩ := h
  obtain ⟨a, xs, rfl, ha, hd, hz, hl⟩ := h2.tupE ht
  refine Evl.ev_is (ev_allB (bs := (items d).map g) ?_) (by rw [List.all_map]; rfl)
  refine el_lcTm (K := K) _ h1 ha (by rw [List.length_map, List.length_map, hl]) (by omega) fun i x y H1 R e hx hy k => ?_
  obtain ⟨d', hd', hq⟩ := hd.get i hx
  rw [List.getElem?_map, List.getElem?_map, hd'] at hy
  cases (show some (V.bl (g d')) = some y from hy)
  exact k _ wipe_set (hs x d' H1 e (Dq.same e _ _ hq) (List.mem_of_getElem? hd'))
theorem ev_allL {j : Nat} {tl : TE} (g : PyData → Bool) (h : EvD tl σ H d) (ht : isLst d = true) (hs : ∀ x d' H1, Ex H H1 → Dq H1 x d' → d' ∈ items d → Ev te ((wipe σ [j]).set j (some x)) H1 (.bl (g d'))) :
    Ev (tCB (rAll K) (tCons (tLc (iList K tl) (gName j) tYes te [j]) tNil)) σ H (.bl ((items d).all g)) := by
  obtain ⟨x, h1, h2⟩ := h
  obtain ⟨a, xs, rfl, ha, hd, hz, hl⟩ := h2.lstE ht
  refine Evl.ev_is (ev_allB (bs := (items d).map g) ?_) (by rw [List.all_map]; rfl)
  refine el_lcLm (K := K) _ h1 ha (by rw [List.length_map, List.length_map, hl]) (by omega) fun i x y H1 R e hx hy k => ?_
  obtain ⟨d', hd', hq⟩ := hd.get i hx
  rw [List.getElem?_map, List.getElem?_map, hd'] at hy
  cases (show some (V.bl (g d')) = some y from hy)
  exact k _ wipe_set (hs x d' H1 e (Dq.same e _ _ hq) (List.mem_of_getElem? hd'))
end
end LF

set_option Elab.async false
set_option linter.all false
set_option maxRecDepth 100000
set_option maxHeartbeats 4000000
namespace LF
open PySem PySem.Spec PyProof.Rows L2
open Evl (Ev EvL EvU EvT EvA Ex sq_of st_of)
/-- < of two ints, of two texts -/
def rLtV : R2 := fun x y H Q => (∃ i j, x = .int i ∧ y = .int j ∧ Q (.bl (decide (i < j))) H) ∨ (∃ i j : Str, x = .str i ∧ y = .str j ∧ Q (.bl (decide (i.cps.toList < j.cps.toList))) H)
theorem op_ltV {X : Cx} : OpR X (compareOp .Lt) rLtV := by
  intro pins s σ H x y v u Q I rx ry h
  rcases h with h | h
  · exact op_lt pins s σ H x y v u Q I rx ry h
  · exact op_lt_str pins s σ H x y v u Q I rx ry h
def ltD : PyData → PyData → Bool
  | .int i, .int j => decide (i < j)
  | .str i, .str j => decide (i.cps.toList < j.cps.toList)
  | _, _ => false
def kin (ds : List PyData) : Prop := (∀ d ∈ ds, isNum d = true ∧ isBol d = false) ∨ (∀ d ∈ ds, isStr d = true)
def ascD (ds : List PyData) : Bool := (List.range (ds.length - 1)).all fun i => ltD (ds.getD i .none) (ds.getD (i + 1) .none)
section
variable {K : PySem.W.Frag} {σ : L2.St} {H H' : Hp} {ta tb te tx : TE} {t u : TT} {x y z v : V} {d e : PyData}
theorem ev_ltD (ha : EvD ta σ H d) (hb : EvD tb σ H e) (hk : kin [d, e]) : Ev (tOp rLtV ta tb) σ H (.bl (ltD d e)) := by
  rcases hk with hk | hk
  · obtain ⟨a1, a2⟩ := hk d (by simp)
    obtain ⟨b1, b2⟩ := hk e (by simp)
    obtain ⟨x, h1, h2⟩ := ha
    obtain ⟨y, h3, h4⟩ := hb
    obtain ⟨r1, r2⟩ := h2.intE a1 a2
    obtain ⟨r3, r4⟩ := h4.intE b1 b2
    rw [r1] at h1; rw [r3] at h3
    refine Evl.ev_op h1 h3 fun H1 e1 Q q => Or.inl ⟨_, _, rfl, rfl, ?_⟩
    rw [r2, r4] at q
    exact q H1 (Ex.refl H1)
  · have a1 := hk d (by simp)
    have b1 := hk e (by simp)
    obtain ⟨x, h1, h2⟩ := ha
    obtain ⟨y, h3, h4⟩ := hb
    obtain ⟨r1, _, _, r2⟩ := h2.strE a1
    obtain ⟨r3, _, _, r4⟩ := h4.strE b1
    rw [r1] at h1; rw [r3] at h3
    refine Evl.ev_op h1 h3 fun H1 e1 Q q => Or.inr ⟨_, _, rfl, rfl, ?_⟩
    rw [r2, r4] at q
    exact q H1 (Ex.refl H1)
def isSeq (d : PyData) : Bool := isTup d || isLst d
theorem ev_lenQ (h : EvD te σ H d) (ht : isSeq d = true) : Ev (tCB (Evl.rLenS K) (tCons te tNil)) σ H (.int ((items d).length : Int)) :=
  ev_lenD h (by unfold isSeq at ht; rcases Bool.or_eq_true _ _ ▸ ht with h | h; exact Or.inl h; exact Or.inr h)
theorem at_of {ds : List PyData} {i : Nat} (hd : items d = ds) (hi : i < ds.length) : at' d i = ds[i] := by
  unfold at'; rw [hd, List.getD_eq_getElem?_getD, List.getElem?_eq_getElem hi]; rfl
theorem evd_atQ {i : Nat} (h : EvD te σ H d) (ht : isSeq d = true) (hi : i < (items d).length) (hb : Ev tb σ H (.int (i : Int))) : EvD (tOp (rIx K) te tb) σ H (at' d i) := by
  obtain ⟨x, h1, h2⟩ := h
  cases h3 : isTup d with
  | true =>
    obtain ⟨a, xs, rfl, ha, hd, _, hl⟩ := h2.tupE h3
    obtain ⟨y, hy, hq⟩ := hd.get' i (List.getElem?_eq_getElem hi)
    refine ⟨y, Evl.ev_op h1 hb (fun H2 e2 Q q => Or.inr (Or.inl ⟨a, xs, _, y, rfl, rfl, st_of (e2 _ _ ha), atI_nat' hy, q H2 (Ex.refl H2)⟩)), ?_⟩
    rw [at_of rfl hi]; exact hq
  | false =>
    have h4 : isLst d = true := by unfold isSeq at ht; rw [h3] at ht; exact ht
    obtain ⟨a, xs, rfl, ha, hd, _, hl⟩ := h2.lstE h4
    obtain ⟨y, hy, hq⟩ := hd.get' i (List.getElem?_eq_getElem hi)
    refine ⟨y, Evl.ev_op h1 hb (fun H2 e2 Q q => Or.inl ⟨a, xs, _, y, rfl, rfl, sq_of (e2 _ _ ha), atI_nat' hy, q H2 (Ex.refl H2)⟩), ?_⟩
    rw [at_of rfl hi]; exact hq
/-- all([.. for at in range(n)]), n at least -1 -/
theorem ev_allR {ta : TA} {j : Nat} {n : Int} (g : Nat → Bool) (h : EvA ta σ H [.int n]) (hn : -1 ≤ n ∧ n ≤ 40000)
    (he : ∀ (i : Nat) H1, Ex H H1 → (i : Int) < n → Ev te ((wipe σ [j]).set j (some (.int (i : Int)))) H1 (.bl (g i))) :
    Ev (tCB (rAll K) (tCons (tLc (iRng1 ta) (gName j) tYes te [j]) tNil)) σ H (.bl ((List.range n.toNat).all g)) := by
  refine Evl.ev_is (ev_allB (bs := (List.range n.toNat).map g) ?_) (by rw [List.all_map]; rfl)
  have el : EvL (tLc (iRng1 ta) (gName j) tYes te [j]) σ H (Evl.given n.toNat (fun _ => true) fun i => .bl (g i)) := by
    by_cases hn0 : 0 ≤ n
    · exact Evl.el_lcR1 _ _ h ⟨hn0, hn.2⟩ (fun x => wipe_set) (fun i H1 e hi => fun H2 e2 Q q => q H2 (Ex.refl H2)) (fun i H1 e hi _ => he i H1 e hi)
    · have e1 : n = -1 := by omega
      subst e1
      refine fun H0 e Q q => h H0 e _ fun H1 e1 => ⟨-1, rfl, by omega, by omega, fun Dl hD => ?_⟩
      exact lc_range (lo := 0) (n := 0) (fun i H' => Ex H1 H' ∧ H' Dl = some (.lst [])) ⟨Ex.new hD, upd_same⟩ (fun i H' hi p => absurd hi (by omega)) (fun H' p => q Dl H' (Evl.fresh_back e1 hD) (e1.trans p.1) p.2)
  have e2 : Evl.given n.toNat (fun _ => true) (fun i => V.bl (g i)) = ((List.range n.toNat).map g).map V.bl := by
    unfold Evl.given
    rw [List.filter_eq_self.mpr (fun _ _ => rfl), List.map_map]; rfl
  rw [← e2]; exact el
theorem ev_subI {i j : Int} (ha : Ev ta σ H (.int i)) (hb : Ev tb σ H (.int j)) : Ev (tOp (rI0 fun i j => .int (i - j)) ta tb) σ H (.int (i - j)) := Evl.ev_op ha hb Evl.rv_I0
end
end LF

set_option Elab.async false
set_option linter.all false
set_option maxRecDepth 100000
set_option maxHeartbeats 4000000
namespace KC
open PySem PySem.Spec PyProof.Rows L2 LF
open Evl (Ev EvL EvU EvT EvA Ex sq_of st_of)
def nmD (d : PyData) : Bool := isStr d && isNm (txt d)
def c_sl : Str := "/"
def isPt (z : Str) : Bool := decide (z = "") || (PySem.Txt.split z c_sl).all isNm
def ptD (d : PyData) : Bool := isStr d && isPt (txt d)
def intD (d : PyData) : Bool := isNum d && !isBol d
def jtD (d : PyData) : Bool := intD d && decide (0 ≤ num d)
def plD (d : PyData) : Bool := isTup d && (decide (((items d).length : Int) = 2) && (nmD (at' d 0) && ptD (at' d 1)))
def tgD (d : PyData) : Bool := jtD d || plD d
def spAsc : Sp := fun vs H Q _ => ∃ x d, vs = [x] ∧ Dq H x d ∧ isSeq d = true ∧ kin (items d) ∧ ∀ H', Ex H H' → Q (.bl (ascD (items d))) H'
theorem sl_ne : (c_sl.length == 0) = false := by decide +kernel
theorem sizeLine_big : 1000010 < sizeLine := by decide
theorem intD_iff {d : PyData} (h : intD d = true) : isNum d = true ∧ isBol d = false := by
  unfold intD at h; rw [Bool.and_eq_true] at h; exact ⟨h.1, by simpa using h.2⟩
abbrev s_is_path : Stmt := topS 5
abbrev N_is_path : List Str := ["thing", "part"]
theorem sc_is_path : FnScope ["thing", "part"] ["thing"] (defScope s_is_path) := ⟨rfl, rfl, rfl, by decide +kernel, rfl, by decide +kernel, by decide +kernel⟩
abbrev s_is_integer : Stmt := topS 7
abbrev N_is_integer : List Str := ["thing"]
theorem sc_is_integer : FnScope ["thing"] ["thing"] (defScope s_is_integer) := ⟨rfl, rfl, rfl, by decide +kernel, rfl, by decide +kernel, by decide +kernel⟩
abbrev s_is_joint : Stmt := topS 8
abbrev N_is_joint : List Str := ["thing"]
theorem sc_is_joint : FnScope ["thing"] ["thing"] (defScope s_is_joint) := ⟨rfl, rfl, rfl, by decide +kernel, rfl, by decide +kernel, by decide +kernel⟩
abbrev s_is_place_in_package : Stmt := topS 9
abbrev N_is_place_in_package : List Str := ["thing"]
theorem sc_is_place_in_package : FnScope ["thing"] ["thing"] (defScope s_is_place_in_package) := ⟨rfl, rfl, rfl, by decide +kernel, rfl, by decide +kernel, by decide +kernel⟩
section
variable {P : Program} {w : World} {K : PySem.W.Frag} {mg : Str → Option Value} {base : Heap} {tk1 tk2 : Tok}
theorem ok_is_nameD {f : Addr} {fd : FuncData} (F : Fun K "is_name" "is_name" s_is_name f fd) (T : Txt K mg tk1 tk2) : FnOk P w K mg base CX0 1 f fd ["thing"] (spD nmD) := by
  refine (ok_is_name F T).imp fun vs H Q E h => ?_
  obtain ⟨x, d, rfl, hd, hq⟩ := h
  refine ⟨x, rfl, ?_⟩
  cases h1 : isStr d with
  | true =>
    obtain ⟨e1, e2, e3, e4⟩ := hd.strE h1
    refine Or.inl ⟨txt d, e1, by omega, fun H' s => ?_⟩
    have := hq H' s
    unfold nmD at this
    rw [h1, Bool.true_and] at this
    exact this
  | false =>
    refine Or.inr ⟨_, hd.ty, (by rw [kit_str', h1]), fun H' s => ?_⟩
    have := hq H' s
    unfold nmD at this
    rw [h1, Bool.false_and] at this
    exact this
theorem ok_is_integer {f : Addr} {fd : FuncData} (F : Fun K "is_integer" "is_integer" s_is_integer f fd) (T : Txt K mg tk1 tk2)  :
    FnOk P w K mg base CX0 1 f fd ["thing"] (spD intD) := by
  refine F.ok sc_is_integer (fun vs H Q E h => ?_) (fun cdv A outer s H vs Q E hr h => ?_)
  · obtain ⟨x, d, rfl, _⟩ := h
    rfl
  refine ⟨_, (pss_one (ps_ret (pe_and (pe_callB call_isi (by rfl) T.n_isinstance (by decide +kernel) (pa_cons (pv 0) (pa_cons (pe_bltn (v := .ty "int") (by rfl) T.n_int (by decide +kernel) rfl) pa_nil))) (pe_one (pe_not (pe_callB call_isi (by rfl) T.n_isinstance (by decide +kernel) (pa_cons (pv 0) (pa_cons (pe_bltn (v := .ty "bool") (by rfl) T.n_bool (by decide +kernel) rfl) pa_nil)))))))), ?_⟩
  obtain ⟨x, d, rfl, hd, hq⟩ := h
  have v0 : EvD (tVar 0) [some x] H d := evd_var rfl hd
  exact Evl.s_ret (Evl.ev_andV (ev_isi v0 (kit_int' d)) fun _ => Evl.ev_notV (ev_isi v0 (kit_bol' d))) hq
theorem ok_is_joint {f : Addr} {fd : FuncData} {f_is_integer : Addr} {fd_is_integer : FuncData} (F : Fun K "is_joint" "is_joint" s_is_joint f fd) (T : Txt K mg tk1 tk2) (d_is_integer : DefAt P w K mg base "is_integer" 1 f_is_integer fd_is_integer ["thing"] (spD intD)) :
    FnOk P w K mg base CX0 2 f fd ["thing"] (spD jtD) := by
  refine F.ok sc_is_joint (fun vs H Q E h => ?_) (fun cdv A outer s H vs Q E hr h => ?_)
  · obtain ⟨x, d, rfl, _⟩ := h
    rfl
  refine ⟨_, (pss_one (ps_ret (pe_and (pe_callD d_is_integer (hr.mono (by decide)) (pa_cons (pv 0) pa_nil)) (pe_one (pe_cmpR op_ge (pv 0) pe_int (nomark _)))))), ?_⟩
  obtain ⟨x, d, rfl, hd, hq⟩ := h
  have v0 : EvD (tVar 0) [some x] H d := evd_var rfl hd
  exact Evl.s_ret (Evl.ev_andV (ev_callB1 v0) fun h1 => Evl.ev_op (v0.intE (intD_iff h1).1 (intD_iff h1).2) Evl.ev_c Evl.rv_I0) hq
theorem ok_is_place_in_package {f : Addr} {fd : FuncData} {f_is_name f_is_path : Addr} {fd_is_name fd_is_path : FuncData} (F : Fun K "is_place_in_package" "is_place_in_package" s_is_place_in_package f fd) (T : Txt K mg tk1 tk2) (d_is_name : DefAt P w K mg base "is_name" 1 f_is_name fd_is_name ["thing"] (spD nmD)) (d_is_path : DefAt P w K mg base "is_path" 2 f_is_path fd_is_path ["thing"] (spD ptD)) :
    FnOk P w K mg base CX0 3 f fd ["thing"] (spD plD) := by
  refine F.ok sc_is_place_in_package (fun vs H Q E h => ?_) (fun cdv A outer s H vs Q E hr h => ?_)
  · obtain ⟨x, d, rfl, _⟩ := h
    rfl
  refine ⟨_, (pss_one (ps_ret (pe_and (pe_callB call_isi (by rfl) T.n_isinstance (by decide +kernel) (pa_cons (pv 0) (pa_cons (pe_bltn (v := .ty "tuple") (by rfl) T.n_tuple (by decide +kernel) rfl) pa_nil))) (pe_and (pe_cmpR op_eq (pe_callB call_len_seq (by rfl) T.n_len (by decide +kernel) (pa_cons (pv 0) pa_nil)) pe_int (nomark _)) (pe_and (pe_callD d_is_name (hr.mono (by decide)) (pa_cons (pe_ix ix_tup (pv 0) pe_int (fun _ _ => rfl)) pa_nil)) (pe_one (pe_callD d_is_path (hr.mono (by decide)) (pa_cons (pe_ix ix_tup (pv 0) pe_int (fun _ _ => rfl)) pa_nil)))))))), ?_⟩
  obtain ⟨x, d, rfl, hd, hq⟩ := h
  have v0 : EvD (tVar 0) [some x] H d := evd_var rfl hd
  refine Evl.s_ret (Evl.ev_andV (ev_isi v0 (kit_tup' d)) fun h1 => Evl.ev_andV (ev_eqI (ev_lenD v0 (Or.inl h1)) Evl.ev_c) fun h2 => ?_) hq
  have hl : (items d).length = 2 := by have := of_decide_eq_true h2; omega
  exact Evl.ev_andV (ev_callB1 (evd_atT (i := 0) v0 h1 (by omega) Evl.ev_c)) fun _ => ev_callB1 (evd_atT (i := 1) v0 h1 (by omega) Evl.ev_c)
theorem ok_is_path {f : Addr} {fd : FuncData} {f_is_name : Addr} {fd_is_name : FuncData} (F : Fun K "is_path" "is_path" s_is_path f fd) (T : Txt K mg tk1 tk2) (d_is_name : DefAt P w K mg base "is_name" 1 f_is_name fd_is_name ["thing"] (spName K)) :
    FnOk P w K mg base CX0 2 f fd ["thing"] (spD ptD) := by
  refine F.ok sc_is_path (fun vs H Q E h => ?_) (fun cdv A outer s H vs Q E hr h => ?_)
  · obtain ⟨x, d, rfl, _⟩ := h
    rfl
  refine ⟨_, (pss_cons (ps_if (pt_not (pt_val (pe_callB call_isi (by rfl) T.n_isinstance (by decide +kernel) (pa_cons (pv 0) (pa_cons (pe_bltn (v := .ty "str") (by rfl) T.n_str (by decide +kernel) rfl) pa_nil))))) (pss_one (ps_ret pe_bl)) pss_nil)
    (pss_one (ps_ret (pe_or (pe_cmpR op_eq (pv 0) pe_str (nomark _)) (pe_one (pe_callB (cr_all rfl) (by rfl) T.n_all (by decide +kernel) (pa_cons (pe_lc (own := [("part", 1)]) rfl sc_is_path.nd (pi_list (pe_split (pv 0) pe_str)) (blkOk_by (N := N_is_path) (sc := defScope s_is_path) (by decide +kernel)) (fun _ _ _ _ _ => pg_name (i := 1) sc_is_path.nd rfl (Or.inl rfl)) (fun _ _ _ _ _ => pts_nil) (fun _ _ _ _ _ => (pe_callD d_is_name (hr.mono (by decide)) (pa_cons (pv 1) pa_nil)))) pa_nil))))))), ?_⟩
  obtain ⟨x, d, rfl, hd, hq⟩ := h
  have v0 : EvD (tVar 0) [some x, none] H d := evd_var rfl hd
  refine Evl.q_when (Evl.et_not (Evl.et_B (ev_isi v0 (kit_str' d)))) (fun h1 H1 e1 => ?_) (fun h1 H1 e1 => ?_)
  · have h2 : isStr d = false := by simpa using h1
    refine Evl.s_ret Evl.ev_c fun H2 e2 => ?_
    have := hq H2 (e1.trans e2)
    unfold ptD at this
    rw [h2] at this; exact this
  · have h2 : isStr d = true := by simpa using h1
    obtain ⟨e3, e4, e5, e6⟩ := hd.strE h2
    have hbig := sizeLine_big
    refine Evl.s_ret (v := .bl (ptD d)) ?_ fun H2 e2 => hq H2 (e1.trans e2)
    have v1 : Ev (tVar 0) [some x, none] H1 (.str (txt d)) := (v0.mono e1).strE h2
    have : ptD d = (decide (txt d = "") || (PySem.Txt.split (txt d) c_sl).all isNm) := by unfold ptD isPt; rw [h2]; rfl
    rw [this]
    refine Evl.ev_orV (ev_eqS v1 Evl.ev_c) fun _ => ?_
    refine Evl.ev_is (ev_allB (bs := (PySem.Txt.split (txt d) c_sl).map isNm) ?_) (by rw [List.all_map]; rfl)
    have es : EvL (tM1 (fun x xs H Q => ∃ a b, x = .str a ∧ xs = [.str b] ∧ (b.length == 0) = false ∧ a.length + 2 ≤ sizeLine ∧ rNewStrs (PySem.Txt.split a b) H Q) (tVar 0) (tC (.str "/"))) [some x, none] H1 ((PySem.Txt.split (txt d) c_sl).map V.str) := fun H2 e Q q =>
      v1 H2 e _ fun H3 e3 => ⟨⟨_, rfl⟩, txt d, c_sl, rfl, rfl, sl_ne, by omega, fun p hp => q p _ (Evl.fresh_back e3 hp) (e3.trans (Ex.new hp)) upd_same⟩
    have hlen := split_le (txt d) c_sl
    have e8 : Evl.given ((PySem.Txt.split (txt d) c_sl).map V.str).length (fun _ => true) (fun i => V.bl (isNm ((PySem.Txt.split (txt d) c_sl).getD i ""))) = ((PySem.Txt.split (txt d) c_sl).map isNm).map V.bl := by
      unfold Evl.given
      rw [List.filter_eq_self.mpr (fun _ _ => rfl), List.length_map]
      refine List.ext_getElem (by simp) fun i h1 h2 => ?_
      simp only [List.length_map, List.length_range] at h1
      simp [List.getD_eq_getElem?_getD, List.getElem?_eq_getElem h1]
    rw [← e8]
    refine Evl.el_lcNL (K := K) (fun _ => true) _ es (by rw [List.length_map]; omega) (fun x => wipe_set) (fun i y H2 e2 hy => fun H3 e3 Q q => q H3 (Ex.refl H3)) (fun i y H2 e2 hy _ => ?_)
    rw [List.getElem?_map] at hy
    obtain ⟨z, hz, rfl⟩ := Option.map_eq_some_iff.mp hy
    have hm := List.mem_of_getElem? hz
    have eg : (PySem.Txt.split (txt d) c_sl).getD i "" = z := by rw [List.getD_eq_getElem?_getD, hz]; rfl
    rw [eg]
    refine Evl.ev_call (vs := [.str z]) (Evl.ea_cons (Evl.ev_var rfl) Evl.ea_nil) fun H3 e3 Q q E' => ?_
    exact ⟨.str z, rfl, Or.inl ⟨z, rfl, by have := part_short hm; omega, fun H4 e4 => q H4 e4⟩⟩
end
end KC

set_option Elab.async false
set_option linter.all false
set_option maxRecDepth 100000
set_option maxHeartbeats 4000000
namespace LF
open PySem PySem.Spec PyProof.Rows L2
open Evl (Ev EvL EvU EvT EvA Ex sq_of st_of)
def one (fk : Addr) (sp : Sp) : Addr → Option Sp := fun f => if f = fk then some sp else none
theorem held_one {P : Program} {w : World} {K : PySem.W.Frag} {mg : Str → Option Value} {base : Heap} {x : Str} {k : Nat} {fk : Addr} {fd : FuncData} {ps : List Str} {sp : Sp} (D : DefAt P w K mg base x k fk fd ps sp) :
    ∀ f sp', one fk sp f = some sp' → Held P w K mg base k f sp' := fun f sp' h => by
  unfold one at h
  split at h
  · rename_i e
    cases h
    subst e
    exact ⟨fd, ps, D.F, D.kp, D.b⟩
  · cases h
def isPair (p : PyData) : Bool := isTup p && decide (((items p).length : Int) = 2)
def isNon : PyData → Bool | .none => true | _ => false
section
variable {K : PySem.W.Frag} {σ : L2.St} {H H' : Hp} {ta tb te tx : TE} {t u : TT} {x y z v : V} {d e : PyData}
theorem ev_callA1 {i : Nat} {fk : Addr} {g : PyData → Bool} (hi : σ[i]? = some (some (.ref fk))) (h : EvD te σ H d) : Ev (tCallA i (one fk (spD g)) (tCons te tNil)) σ H (.bl (g d)) := fun H1 e Q q => by
  obtain ⟨x, h1, h2⟩ := h
  refine ⟨fk, spD g, hi, by unfold one; rw [if_pos rfl], ?_⟩
  refine h1 H1 e _ fun H2 e2 => ?_
  exact ⟨x, d, rfl, Dq.same (e.trans e2) _ _ h2, fun H3 e3 => q H3 (e2.trans e3)⟩
theorem ev_isN (h : EvD te σ H d) : Ev (tOp (fun x y H Q => y = .non ∧ Q (.bl (decide (x = .non))) H) te (tC .non)) σ H (.bl (isNon d)) := by
  obtain ⟨x, h1, h2⟩ := h
  refine Evl.ev_op h1 Evl.ev_c fun H1 e Q q => ⟨rfl, ?_⟩
  have : decide (x = V.non) = isNon d := by cases h2 <;> rfl
  rw [this]; exact q H1 (Ex.refl H1)
theorem pairE (h : Dq H x d) (hp : isPair d = true) : ∃ a u v, x = .ref a ∧ H a = some (.tup [u, v]) ∧ Dq H u (at' d 0) ∧ Dq H v (at' d 1) := by
  unfold isPair at hp
  rw [Bool.and_eq_true] at hp
  obtain ⟨a, xs, rfl, ha, hd, _, hl⟩ := h.tupE hp.1
  have h2 : (items d).length = 2 := by have := of_decide_eq_true hp.2; omega
  obtain ⟨u, hu, du⟩ := hd.get' 0 (List.getElem?_eq_getElem (by omega))
  obtain ⟨v, hv, dv⟩ := hd.get' 1 (List.getElem?_eq_getElem (by omega))
  have e : xs = [u, v] := by
    match xs, hl.trans h2, hu, hv with
    | [a, b], _, hu, hv => cases (show some a = some u from hu); cases (show some b = some v from hv); rfl
  refine ⟨a, u, v, rfl, by rw [← e]; exact ha, ?_, ?_⟩
  · rw [at_of rfl (by omega)]; exact du
  · rw [at_of rfl (by omega)]; exact dv
theorem ev_allT2 {j k : Nat} {tl : TE} (g : PyData → Bool) (h : EvD tl σ H d) (ht : isTup d = true) (hp : (items d).all isPair = true)
    (hw : ∀ x y, wipe ((((wipe σ [j, k]).set j (some x)).set k (some y))) [j, k] = wipe σ [j, k])
    (hs : ∀ x y p H1, Ex H H1 → p ∈ items d → Dq H1 x (at' p 0) → Dq H1 y (at' p 1) → Ev te (((wipe σ [j, k]).set j (some x)).set k (some y)) H1 (.bl (g p))) :
    Ev (tCB (rAll K) (tCons (tLc (iTup K tl) (gTup K 2 (gCons (gName j) (gCons (gName k) gNil))) tYes te [j, k]) tNil)) σ H (.bl ((items d).all g)) := by
  obtain ⟨x, h1, h2⟩ := h
  obtain ⟨a, xs, rfl, ha, hd, hz, hl⟩ := h2.tupE ht
  refine Evl.ev_is (ev_allB (bs := (items d).map g) ?_) (by rw [List.all_map]; rfl)
  refine el_lcTm (K := K) _ h1 ha (by rw [List.length_map, List.length_map, hl]) (by omega) fun i x y H1 R e hx hy kk => ?_
  obtain ⟨p, hd', hq⟩ := hd.get i hx
  rw [List.getElem?_map, List.getElem?_map, hd'] at hy
  cases (show some (V.bl (g p)) = some y from hy)
  have hm := List.mem_of_getElem? hd'
  obtain ⟨b, u, v, rfl, hb, du, dv⟩ := pairE (Dq.same e _ _ hq) (List.all_eq_true.mp hp p hm)
  exact ⟨b, [u, v], rfl, st_of hb, rfl, u, [v], rfl, v, [], rfl, rfl, kk _ (hw u v) (hs u v p H1 e hm du dv)⟩
/-- the first items of pairs -/
theorem firsts : ∀ {vs : List V} {ds : List PyData}, DqAll H vs ds → ds.all isPair = true → ∃ ks, DqAll H ks (ds.map (at' · 0)) ∧ ∀ (i : Nat) x y, vs[i]? = some x → ks[i]? = some y → ∃ a w, x = .ref a ∧ H a = some (.tup [y, w])
  | _, _, .nil, _ => ⟨[], .nil, fun i x y h => by simp at h⟩
  | _, _, .cons h1 h2, hp => by
    rw [List.all_cons, Bool.and_eq_true] at hp
    obtain ⟨ks, q1, q2⟩ := firsts h2 hp.2
    obtain ⟨a, u, v, rfl, ha, du, dv⟩ := pairE h1 hp.1
    refine ⟨u :: ks, .cons du q1, fun i x y hx hy => ?_⟩
    cases i with
    | zero => cases (show some _ = some x from hx); cases (show some u = some y from hy); exact ⟨a, v, rfl, ha⟩
    | succ i => exact q2 i x y hx hy
theorem el_firsts {j k : Nat} {tl : TE} (h : EvD tl σ H d) (ht : isTup d = true) (hp : (items d).all isPair = true)
    (hw : ∀ x y, wipe ((((wipe σ [j, k]).set j (some x)).set k (some y))) [j, k] = wipe σ [j, k]) (hj : ∀ x y, (((wipe σ [j, k]).set j (some x)).set k (some y))[j]? = some (some x)) :
    ∃ ks, DqAll H ks ((items d).map (at' · 0)) ∧ EvL (tLc (iTup K tl) (gTup K 2 (gCons (gName j) (gCons (gName k) gNil))) tYes (tVar j) [j, k]) σ H ks := by
  obtain ⟨x, h1, h2⟩ := h
  obtain ⟨a, xs, rfl, ha, hd, hz, hl⟩ := h2.tupE ht
  obtain ⟨ks, q1, q2⟩ := firsts hd hp
  refine ⟨ks, q1, ?_⟩
  have hlk := q1.len
  rw [List.length_map] at hlk
  refine el_lcTm (K := K) ks h1 ha (by omega) (by omega) fun i x y H1 R e hx hy kk => ?_
  obtain ⟨b, w, rfl, hb⟩ := q2 i x y hx hy
  exact ⟨b, [y, w], rfl, st_of (e _ _ hb), rfl, y, [w], rfl, w, [], rfl, rfl, kk _ (hw y w) (Evl.ev_var (hj y w))⟩
theorem ev_callL1 {ks : List V} {ds : List PyData} {sp : Sp} {E : XK} {b : Bool} (h : EvL te σ H ks) (hd : DqAll H ks ds) (hz : ks.length ≤ 1000)
    (hs : ∀ p H1 Q E, Dq H1 (.ref p) (.list ds) → (∀ H2, Ex H1 H2 → Q (.bl b) H2) → sp [.ref p] H1 Q E) : Ev (tCall sp [] E (tCons te tNil)) σ H (.bl b) := fun H1 e Q q =>
  h H1 e _ fun p H2 _ e2 h2 => hs p H2 Q E (.lst h2 (DqAll.same (e.trans e2) _ _ hd) hz) fun H3 e3 => q H3 (e2.trans e3)
end
end LF

set_option Elab.async false
set_option linter.all false
set_option maxRecDepth 100000
set_option maxHeartbeats 4000000
namespace LF
open PySem PySem.Spec PyProof.Rows L2
open Evl (Ev EvL EvU EvT EvA Ex sq_of st_of)
theorem FnOk.or {P : Program} {w : World} {K : PySem.W.Frag} {mg : Str → Option Value} {base : Heap} {CX : CXT} {k : Nat} {f : Addr} {fd : FuncData} {ps : List Str} {sp sp' : Sp} (F : FnOk P w K mg base CX k f fd ps sp) (G : FnOk P w K mg base CX k f fd ps sp') :
    FnOk P w K mg base CX k f fd ps (fun vs H Q E => sp vs H Q E ∨ sp' vs H Q E) :=
  ⟨fun vs H Q E h => h.elim (F.len vs H Q E) (G.len vs H Q E), fun A outer s H args us vs Q E hr h0 hb hv h => h.elim (F.run A outer s H args us vs Q E hr h0 hb hv) (G.run A outer s H args us vs Q E hr h0 hb hv)⟩
/-- a list or a dict, of anything -/
def Opq (H : Hp) (x : V) : Prop := ∃ a, x = .ref a ∧ ((∃ xs, H a = some (.lst xs)) ∨ ∃ kvs, H a = some (.dK kvs))
theorem Opq.same {H H' : Hp} {x : V} (h : Opq H x) (s : Ex H H') : Opq H' x := by
  obtain ⟨a, rfl, h⟩ := h
  rcases h with ⟨xs, h⟩ | ⟨xs, h⟩
  · exact ⟨a, rfl, Or.inl ⟨xs, s _ _ h⟩⟩
  · exact ⟨a, rfl, Or.inr ⟨xs, s _ _ h⟩⟩
theorem Opq.ty {K : PySem.W.Frag} {H : Hp} {x : V} (h : Opq H x) : ∃ t, TyX K H x (.type t) ∧ PySem.W.kitOne K (.type t) (.type "tuple") = some false := by
  obtain ⟨a, rfl, h⟩ := h
  rcases h with ⟨xs, h⟩ | ⟨xs, h⟩
  · exact ⟨"list", .base (.lst h), kit_ty (by decide +kernel)⟩
  · exact ⟨"dict", .base (.dK h), kit_ty (by decide +kernel)⟩
/-- an item of a list of deeds: data, or a list or a dict -/
def El (H : Hp) (x : V) : Option PyData → Prop
  | some d => Dq H x d
  | none => Opq H x
theorem El.same {H H' : Hp} {x : V} {o : Option PyData} (h : El H x o) (s : Ex H H') : El H' x o := by
  cases o with
  | some d => exact Dq.same s _ _ h
  | none => exact Opq.same h s
inductive ElAll (H : Hp) : List V → List (Option PyData) → Prop
  | nil : ElAll H [] []
  | cons {v : V} {vs : List V} {d : Option PyData} {ds : List (Option PyData)} : El H v d → ElAll H vs ds → ElAll H (v :: vs) (d :: ds)
theorem ElAll.same {H H' : Hp} (s : Ex H H') : ∀ {vs : List V} {ds : List (Option PyData)}, ElAll H vs ds → ElAll H' vs ds
  | _, _, .nil => .nil
  | _, _, .cons h1 h2 => .cons (h1.same s) (h2.same s)
theorem ElAll.len {H : Hp} : ∀ {vs : List V} {ds : List (Option PyData)}, ElAll H vs ds → vs.length = ds.length
  | _, _, .nil => rfl
  | _, _, .cons _ h => by rw [List.length_cons, List.length_cons, h.len]
theorem ElAll.get {H : Hp} : ∀ {vs : List V} {ds : List (Option PyData)} (i : Nat) {x : V}, ElAll H vs ds → vs[i]? = some x → ∃ d, ds[i]? = some d ∧ El H x d
  | _, _, i, _, .nil, h => by simp at h
  | _, _, 0, _, .cons h1 _, h => ⟨_, rfl, by cases (show some _ = some _ from h); exact h1⟩
  | _, _, i + 1, _, .cons _ h2, h => ElAll.get (vs := _) (ds := _) i h2 h
theorem ElAll.get' {H : Hp} : ∀ {vs : List V} {ds : List (Option PyData)} (i : Nat) {d : Option PyData}, ElAll H vs ds → ds[i]? = some d → ∃ x, vs[i]? = some x ∧ El H x d
  | _, _, i, _, .nil, h => by simp at h
  | _, _, 0, _, .cons h1 _, h => ⟨_, rfl, by cases (show some _ = some _ from h); exact h1⟩
  | _, _, i + 1, _, .cons _ h2, h => ElAll.get' (vs := _) (ds := _) i h2 h
/-- a value that is asked: a list of such items, or no list -/
def Tp (H : Hp) (x : V) : Option (List (Option PyData)) → Prop
  | some es => ∃ a xs, x = .ref a ∧ H a = some (.lst xs) ∧ ElAll H xs es ∧ xs.length ≤ 60
  | none => (∃ d, Dq H x d ∧ isLst d = false) ∨ (∃ a kvs, x = .ref a ∧ H a = some (.dK kvs)) ∨ ∃ a xs, x = .ref a ∧ H a = some (.tup xs)
theorem Tp.same {H H' : Hp} {x : V} {o : Option (List (Option PyData))} (h : Tp H x o) (s : Ex H H') : Tp H' x o := by
  cases o with
  | some es =>
    obtain ⟨a, xs, h1, h2, h3, h4⟩ := h
    exact ⟨a, xs, h1, s _ _ h2, h3.same s, h4⟩
  | none =>
    rcases h with ⟨d, h1, h2⟩ | ⟨a, kvs, h1, h2⟩ | ⟨a, kvs, h1, h2⟩
    · exact Or.inl ⟨d, Dq.same s _ _ h1, h2⟩
    · exact Or.inr (Or.inl ⟨a, kvs, h1, s _ _ h2⟩)
    · exact Or.inr (Or.inr ⟨a, kvs, h1, s _ _ h2⟩)
theorem Tp.isi {K : PySem.W.Frag} {te : TE} {σ : L2.St} {H : Hp} {x : V} {o : Option (List (Option PyData))} (h : Tp H x o) (hx : Ev te σ H x) : Ev (tCB (rIsi K) (tCons te (tCons (tC (.ty "list")) tNil))) σ H (.bl o.isSome) := by
  refine Evl.ev_cb (vs := [x, .ty "list"]) (Evl.ea_cons hx (Evl.ea_cons Evl.ev_c Evl.ea_nil)) fun H1 e Q q => ?_
  have q1 := q H1 (Ex.refl H1)
  cases o with
  | some es =>
    obtain ⟨a, xs, rfl, h2, h3, h4⟩ := h
    exact ⟨_, .ty "list", _, _, true, rfl, .ty _, .base (.lst (e _ _ h2)), kit_ty (by decide +kernel), q1⟩
  | none =>
    rcases h with ⟨d, h1, h2⟩ | ⟨a, kvs, rfl, h2⟩ | ⟨a, kvs, rfl, h2⟩
    · exact ⟨_, .ty "list", _, _, false, rfl, .ty _, (Dq.same e _ _ h1).ty, by rw [kit_lst', h2], q1⟩
    · exact ⟨_, .ty "list", _, _, false, rfl, .ty _, .base (.dK (e _ _ h2)), kit_ty (by decide +kernel), q1⟩
    · exact ⟨_, .ty "list", _, _, false, rfl, .ty _, .base (.tup (e _ _ h2)), kit_ty (by decide +kernel), q1⟩
def elG (g : PyData → Bool) : Option PyData → Bool
  | some d => g d
  | none => false
def spE (g : PyData → Bool) : Sp := fun vs H Q E => spD g vs H Q E ∨ ∃ x, vs = [x] ∧ Opq H x ∧ ∀ H', Ex H H' → Q (.bl false) H'
section
variable {K : PySem.W.Frag} {σ : L2.St} {H H' : Hp} {ta tb te tx : TE} {t u : TT} {x y z v : V} {d e : PyData}
theorem ev_callE {g : PyData → Bool} {E : XK} {o : Option PyData} (h : Ev te σ H x) (ho : El H x o) : Ev (tCall (spE g) [] E (tCons te tNil)) σ H (.bl (elG g o)) := by
  refine Evl.ev_call (vs := [x]) (Evl.ea_cons h Evl.ea_nil) fun H1 e Q q E => ?_
  cases o with
  | some d => exact Or.inl ⟨x, d, rfl, Dq.same e _ _ ho, fun H2 e2 => q H2 e2⟩
  | none => exact Or.inr ⟨x, rfl, Opq.same ho e, fun H2 e2 => q H2 e2⟩
theorem ev_allE {j : Nat} {tl : TE} {a : Addr} {xs : List V} {es : List (Option PyData)} (g : Option PyData → Bool) (h : Ev tl σ H (.ref a)) (ha : H a = some (.lst xs)) (hd : ElAll H xs es) (hz : xs.length ≤ 60)
    (hs : ∀ x o H1, Ex H H1 → El H1 x o → o ∈ es → Ev te ((wipe σ [j]).set j (some x)) H1 (.bl (g o))) :
    Ev (tCB (rAll K) (tCons (tLc (iList K tl) (gName j) tYes te [j]) tNil)) σ H (.bl (es.all g)) := by
  refine Evl.ev_is (ev_allB (bs := es.map g) ?_) (by rw [List.all_map]; rfl)
  refine el_lcLm (K := K) _ h ha (by rw [List.length_map, List.length_map, hd.len]) (by omega) fun i x y H1 R e hx hy k => ?_
  obtain ⟨o, ho, hq⟩ := hd.get i hx
  rw [List.getElem?_map, List.getElem?_map, ho] at hy
  cases (show some (V.bl (g o)) = some y from hy)
  exact k _ wipe_set (hs x o H1 e (hq.same e) (List.mem_of_getElem? ho))
theorem ev_lenX {a : Addr} {xs : List V} (h : Ev te σ H (.ref a)) (ha : H a = some (.lst xs)) : Ev (tCB (Evl.rLenS K) (tCons te tNil)) σ H (.int (xs.length : Int)) :=
  Evl.ev_cb (vs := [.ref a]) (Evl.ea_cons h Evl.ea_nil) fun H1 e Q q => ⟨a, xs, rfl, Or.inl (sq_of (e _ _ ha)), q H1 (Ex.refl H1)⟩
end
end LF

set_option Elab.async false
set_option linter.all false
set_option maxRecDepth 100000
set_option maxHeartbeats 4000000
namespace LF
open PySem PySem.Spec PyProof.Rows L2
open Evl (Ev EvL EvU EvT EvA EvO Ex sq_of st_of)
/-- the bag of draws, so many drawn at most -/
def BagC (H : Hp) (b : Addr) (N : Nat) : Prop := ∃ d x n : Int, H b = some (.lst [.int d, .int x, .int n]) ∧ 0 ≤ d ∧ 0 ≤ x ∧ x < 2147483648 ∧ 0 ≤ n ∧ n ≤ N
theorem BagC.same {H H' : Hp} {b : Addr} {N : Nat} (h : BagC H b N) (s : Same H H') : BagC H' b N := by
  obtain ⟨d, x, m, e, r⟩ := h
  exact ⟨d, x, m, s _ _ e, r⟩
theorem BagC.ne {H : Hp} {b D : Addr} {N : Nat} (h : BagC H b N) (hD : H D = none) : D ≠ b := by
  obtain ⟨d, x, m, e, r⟩ := h
  exact Ne.symm (ne_of_none e hD)
theorem BagC.more {H : Hp} {b : Addr} {N M : Nat} (h : BagC H b N) (hm : N ≤ M) : BagC H b M := by
  obtain ⟨d, x, m, e, h1, h2, h3, h4, h5⟩ := h
  exact ⟨d, x, m, e, h1, h2, h3, h4, by omega⟩
def spBagC (K : PySem.W.Frag) : Sp := fun vs H Q _ => ∃ (a : Addr) (at' : Int) (ns : List Int), vs = [.ref a, .int at'] ∧ SqL K H a (ns.map V.int) ∧ 0 ≤ at' ∧ at' ≤ 1000 ∧
  ∀ H' p, Same H H' → H p = none → BagC H' p 0 → Q (.ref p) H'
def spTakeC : Sp := fun vs H Q _ => ∃ (b : Addr) (m : Int) (N : Nat), vs = [.ref b, .int m] ∧ BagC H b N ∧ N ≤ 1000000 ∧ 1 ≤ m ∧ m < 1000000 ∧
  ∀ H' r, Keep b H H' → BagC H' b (N + 1) → 0 ≤ r → r < m → Q (.int r) H'
def spPickC (K : PySem.W.Frag) : Sp := fun vs H Q _ => ∃ (b l : Addr) (xs : List V) (N : Nat), vs = [.ref b, .ref l] ∧ BagC H b N ∧ N ≤ 900000 ∧ l ≠ b ∧ SqL K H l xs ∧ 1 ≤ xs.length ∧ xs.length < 1000000 ∧
  ∀ H' v, Keep b H H' → BagC H' b (N + 1) → v ∈ xs → Q v H'
/-! readings that draw from the bag at b, while the objects at B may change -/
def wo (B : List Addr) (H : Hp) : Hp := fun a => if a ∈ B then none else H a
theorem wo_get {B : List Addr} {H : Hp} {a : Addr} {o : HO} (h : wo B H a = some o) : a ∉ B ∧ H a = some o := by
  unfold wo at h
  split at h
  · cases h
  · rename_i n; exact ⟨n, h⟩
theorem wo_put {B : List Addr} {H : Hp} {a : Addr} {o : HO} (n : a ∉ B) (h : H a = some o) : wo B H a = some o := by
  unfold wo
  rw [if_neg n]; exact h
theorem wo_ex {B : List Addr} {H : Hp} : Ex (wo B H) H := fun a o h => (wo_get h).2
theorem wo_keep {b : Addr} {B : List Addr} {H H' : Hp} (hb : b ∈ B) (k : Keep b H H') : Ex (wo B H) (wo B H') := fun a o h => by
  obtain ⟨n, h⟩ := wo_get h
  exact wo_put n (k a o (fun e => n (e ▸ hb)) h)
theorem wo_less {B B' : List Addr} {H : Hp} (h : ∀ a ∈ B', a ∈ B) : Ex (wo B H) (wo B' H) := fun a o e => by
  obtain ⟨n, e⟩ := wo_get e
  exact wo_put (fun m => n (h a m)) e
structure BgAt (b : Addr) (B : List Addr) (N : Nat) (H : Hp) : Prop where
  bag : BagC H b N
  inB : b ∈ B
  live : ∀ a ∈ B, ∃ o, H a = some o
theorem BgAt.keep {b : Addr} {B : List Addr} {H H' : Hp} {N M : Nat} (g : BgAt b B N H) (k : Keep b H H') (h : BagC H' b M) : BgAt b B M H' :=
  ⟨h, g.inB, fun a ha => by
    by_cases e : a = b
    · subst e
      obtain ⟨_, _, _, h, _⟩ := h
      exact ⟨_, h⟩
    · obtain ⟨o, ho⟩ := g.live a ha
      exact ⟨o, k a o e ho⟩⟩
theorem BgAt.new {b : Addr} {B : List Addr} {H : Hp} {N : Nat} {p : Addr} {o : HO} (g : BgAt b B N H) (hp : H p = none) : p ∉ B ∧ BgAt b B N (upd H p o) ∧ Keep b H (upd H p o) := by
  refine ⟨fun m => ?_, g.keep (Same.keep (same_new hp)) (g.bag.same (same_new hp)), Same.keep (same_new hp)⟩
  obtain ⟨o, ho⟩ := g.live p m
  rw [hp] at ho; cases ho
/-- te reads something of which P holds, by m draws at most -/
def EK (b : Addr) (B : List Addr) (m : Nat) (te : TE) (σ : L2.St) (H : Hp) (P : V → Hp → Prop) : Prop := ∀ N H1, N + m ≤ 900000 → Keep b H H1 → BgAt b B N H1 → ∀ Q : VK, (∀ x H2 M, M ≤ N + m → Keep b H1 H2 → BgAt b B M H2 → P x H2 → Q x H2) → te σ H1 Q
def EKA (b : Addr) (B : List Addr) (m : Nat) (ta : TA) (σ : L2.St) (H : Hp) (P : List V → Hp → Prop) : Prop := ∀ N H1, N + m ≤ 900000 → Keep b H H1 → BgAt b B N H1 → ∀ Q : List V → Hp → Prop, (∀ x H2 M, M ≤ N + m → Keep b H1 H2 → BgAt b B M H2 → P x H2 → Q x H2) → ta σ H1 Q
def EKT (b : Addr) (B : List Addr) (m : Nat) (tt : TT) (σ : L2.St) (H : Hp) : Prop := ∀ N H1, N + m ≤ 900000 → Keep b H H1 → BgAt b B N H1 → ∀ Q : Bool → Hp → Prop, (∀ x H2 M, M ≤ N + m → Keep b H1 H2 → BgAt b B M H2 → Q x H2) → tt σ H1 Q
/-- all is as it was, but what stands at B -/
def KeepB (B : List Addr) (H H' : Hp) : Prop := ∀ a o, a ∉ B → H a = some o → H' a = some o
theorem KeepB.refl (B : List Addr) (H : Hp) : KeepB B H H := fun _ _ _ e => e
theorem KeepB.trans {B : List Addr} {H H1 H2 : Hp} (x : KeepB B H H1) (y : KeepB B H1 H2) : KeepB B H H2 := fun a o n e => y a o n (x a o n e)
theorem kb {b : Addr} {B : List Addr} {H H' : Hp} (hb : b ∈ B) (k : Keep b H H') : KeepB B H H' := fun a o n e => k a o (fun z => n (z ▸ hb)) e
theorem wo_keepB {B : List Addr} {H H' : Hp} (k : KeepB B H H') : Ex (wo B H) (wo B H') := fun a o h => by
  obtain ⟨n, h⟩ := wo_get h
  exact wo_put n (k a o n h)
def Stb (B : List Addr) (P : V → Hp → Prop) : Prop := ∀ x H H', P x H → KeepB B H H' → P x H'
def AllG (G : V → Hp → Prop) (n : Nat) : List V → Hp → Prop := fun vs H => (∀ v ∈ vs, G v H) ∧ vs.length = n
def Gd (B : List Addr) : V → Hp → Prop := fun x H => ∃ d, Dq (wo B H) x d
def GE (B : List Addr) : V → Hp → Prop := fun x H => ∃ o, El (wo B H) x o
def Ls (G : V → Hp → Prop) (B : List Addr) (n : Nat) : V → Hp → Prop := fun x H => ∃ p xs, x = .ref p ∧ p ∉ B ∧ H p = some (.lst xs) ∧ AllG G n xs H
section
variable {K : PySem.W.Frag} {b : Addr} {B : List Addr} {σ : L2.St} {H H' : Hp} {ta tb te : TE} {tr : TA} {tt : TT} {x y z v : V} {P P' : V → Hp → Prop} {G : V → Hp → Prop} {n n' m m' N : Nat}
theorem gd_stb : Stb B (Gd B) := fun x H H' ⟨d, h⟩ k => ⟨d, Dq.same (wo_keepB k) _ _ h⟩
theorem ge_stb : Stb B (GE B) := fun x H H' ⟨d, h⟩ k => ⟨d, El.same h (wo_keepB k)⟩
theorem all_stb (h : Stb B G) {vs : List V} (g : AllG G n vs H) (k : KeepB B H H') : AllG G n vs H' := ⟨fun v hv => h v H H' (g.1 v hv) k, g.2⟩
theorem ls_stb (hG : Stb B G) : Stb B (Ls G B n) := fun x H H' ⟨p, xs, e, hp, h, g⟩ k => ⟨p, xs, e, hp, k _ _ hp h, all_stb hG g k⟩
theorem gd_ge (h : Gd B x H) : GE B x H := by obtain ⟨d, h⟩ := h; exact ⟨some d, h⟩
theorem ek_w (h : EK b B m te σ H P) (w : ∀ x H, P x H → P' x H) : EK b B m te σ H P' := fun N H1 l k g Q q => h N H1 l k g Q fun x H2 M lm k2 g2 p => q x H2 M lm k2 g2 (w x H2 p)
theorem ek_ge (h : EK b B m te σ H (Gd B)) : EK b B m te σ H (GE B) := ek_w h fun _ _ => gd_ge
theorem ek_mono (h : EK b B m te σ H P) (k : Keep b H H') : EK b B m te σ H' P := fun N H1 l k1 g Q q => h N H1 l (k.trans k1) g Q q
theorem ek_c (p : ∀ H, P v H) : EK b B 0 (tC v) σ H P := fun N H1 l k g Q q => q v H1 N (Nat.le_refl _) (Keep.refl b H1) g (p H1)
theorem ek_v {i : Nat} (h : σ[i]? = some (some v)) (p : ∀ H1, Keep b H H1 → P v H1) : EK b B 0 (tVar i) σ H P := fun N H1 l k g Q q => ⟨v, h, q v H1 N (Nat.le_refl _) (Keep.refl b H1) g (p H1 k)⟩
theorem gd_non : Gd B .non H := ⟨_, .non⟩
theorem gd_bl (c : Bool) : Gd B (.bl c) H := ⟨_, .bl c⟩
theorem gd_int (i : Int) : Gd B (.int i) H := ⟨_, .int i⟩
theorem gd_str {z : Str} (h : z.length ≤ 1000 ∧ PyData.strOk z = true) : Gd B (.str z) H := ⟨_, .str z h.1 h.2⟩
theorem eka_nil {G : V → Hp → Prop} : EKA b B 0 tNil σ H (AllG G 0) := fun N H1 l k g Q q => q [] H1 N (Nat.le_refl _) (Keep.refl b H1) g ⟨fun v hv => (nomatch hv), rfl⟩
theorem eka_cons (hb : b ∈ B) (hG : Stb B G) (h : EK b B m te σ H G) (hr : EKA b B m' tr σ H (AllG G n)) : EKA b B (m + m') (tCons te tr) σ H (AllG G (n + 1)) := fun N H1 l k g Q q =>
  h N H1 (by omega) k g _ fun x H2 M lm k2 g2 p => hr M H2 (by omega) (k.trans k2) g2 _ fun vs H3 M3 lm3 k3 g3 pr => q (x :: vs) H3 M3 (by omega) (k2.trans k3) g3 ⟨fun v hv => by
    rcases List.mem_cons.mp hv with rfl | hv
    · exact hG _ _ _ p (kb hb k3)
    · exact pr.1 v hv, by rw [List.length_cons, pr.2]⟩
theorem dqAll_of {H : Hp} : ∀ {vs : List V}, (∀ v ∈ vs, ∃ d, Dq H v d) → ∃ ds, DqAll H vs ds
  | [], _ => ⟨[], .nil⟩
  | v :: vs, h => by
    obtain ⟨d, hd⟩ := h v List.mem_cons_self
    obtain ⟨ds, hs⟩ := dqAll_of fun u hu => h u (List.mem_cons_of_mem _ hu)
    exact ⟨d :: ds, .cons hd hs⟩
theorem elAll_of {H : Hp} : ∀ {vs : List V}, (∀ v ∈ vs, ∃ d, El H v d) → ∃ ds, ElAll H vs ds
  | [], _ => ⟨[], .nil⟩
  | v :: vs, h => by
    obtain ⟨d, hd⟩ := h v List.mem_cons_self
    obtain ⟨ds, hs⟩ := elAll_of fun u hu => h u (List.mem_cons_of_mem _ hu)
    exact ⟨d :: ds, .cons hd hs⟩
theorem ek_tup (hb : b ∈ B) (h : EKA b B m tr σ H (AllG (Gd B) n)) (hn : n ≤ 1000) : EK b B m (tTup tr) σ H (Gd B) := fun N H1 l k g Q q =>
  h N H1 l k g _ fun vs H2 M lm k2 g2 p => ⟨Evl.sz_of (by rw [p.2]; omega), fun r hr => by
    obtain ⟨n1, g3, k3⟩ := g2.new (o := .tup vs) hr
    have p3 := all_stb gd_stb p (kb hb k3)
    obtain ⟨ds, hds⟩ := dqAll_of p3.1
    exact q _ _ M lm (k2.trans k3) g3 ⟨.tuple ds, .tup (wo_put n1 upd_same) hds (by rw [p.2]; exact hn)⟩⟩
theorem ek_lstD (hb : b ∈ B) (h : EKA b B m tr σ H (AllG (Gd B) n)) (hn : n ≤ 1000) : EK b B m (tLst tr) σ H (Gd B) := fun N H1 l k g Q q =>
  h N H1 l k g _ fun vs H2 M lm k2 g2 p => ⟨Evl.sz_of (by rw [p.2]; omega), fun r hr => by
    obtain ⟨n1, g3, k3⟩ := g2.new (o := .lst vs) hr
    have p3 := all_stb gd_stb p (kb hb k3)
    obtain ⟨ds, hds⟩ := dqAll_of p3.1
    exact q _ _ M lm (k2.trans k3) g3 ⟨.list ds, .lst (wo_put n1 upd_same) hds (by rw [p.2]; exact hn)⟩⟩
theorem ek_lst (hb : b ∈ B) (hG : Stb B G) (h : EKA b B m tr σ H (AllG G n)) (hn : n ≤ 1000) : EK b B m (tLst tr) σ H (Ls G B n) := fun N H1 l k g Q q =>
  h N H1 l k g _ fun vs H2 M lm k2 g2 p => ⟨Evl.sz_of (by rw [p.2]; omega), fun r hr => by
    obtain ⟨n1, g3, k3⟩ := g2.new (o := .lst vs) hr
    exact q _ _ M lm (k2.trans k3) g3 ⟨r, vs, rfl, n1, upd_same, all_stb hG p (kb hb k3)⟩⟩
theorem ek_dnew : EK b B 0 tDNewK σ H (GE B) := fun N H1 l k g Q q p hp => by
  obtain ⟨n1, g3, k3⟩ := g.new (o := .dK []) hp
  exact q _ _ N (Nat.le_refl _) k3 g3 ⟨none, p, rfl, Or.inr ⟨[], wo_put n1 upd_same⟩⟩
theorem ek_cat (hb : b ∈ B) (hG : Stb B G) (h : EK b B m ta σ H (Ls G B n)) (h' : EK b B m' tb σ H (Ls G B n')) (hn : n + n' ≤ 1000) : EK b B (m + m') (tOp rCat ta tb) σ H (Ls G B (n + n')) := fun N H1 l k g Q q =>
  h N H1 (by omega) k g _ fun x H2 M lm k2 g2 p => h' M H2 (by omega) (k.trans k2) g2 _ fun y H3 M3 lm3 k3 g3 p' => by
    obtain ⟨l1, xs, rfl, n1, hl, gx, lx⟩ := ls_stb hG _ _ _ p (kb hb k3)
    obtain ⟨l2, ys, rfl, n2, hl', gy, ly⟩ := p'
    refine ⟨l1, l2, xs, ys, rfl, rfl, hl, hl', Evl.sz_of (by omega), fun r hr => ?_⟩
    obtain ⟨n3, g4, k4⟩ := g3.new (o := .lst (xs ++ ys)) hr
    refine q _ _ M3 (by omega) ((k2.trans k3).trans k4) g4 ⟨r, xs ++ ys, rfl, n3, upd_same, fun v hv => ?_, by rw [List.length_append, lx, ly]⟩
    rcases List.mem_append.mp hv with hv | hv
    · exact hG _ _ _ (gx v hv) (kb hb k4)
    · exact hG _ _ _ (gy v hv) (kb hb k4)
theorem ek_take {i : Nat} {c : Int} {E : XK} (hi : σ[i]? = some (some (.ref b))) (h1 : 1 ≤ c ∧ c < 1000000) : EK b B 1 (tCall spTakeC [] E (tCons (tVar i) (tCons (tC (.int c)) tNil))) σ H (fun x _ => ∃ r, x = .int r ∧ 0 ≤ r ∧ r < c) := fun N H1 l k g Q q =>
  ⟨_, hi, b, c, N, rfl, g.bag, by omega, h1.1, h1.2, fun H' r k' g' r0 r1 => q _ _ (N + 1) (Nat.le_refl _) k' (g.keep k' g') ⟨r, rfl, r0, r1⟩⟩
theorem ek_pick {i : Nat} {E : XK} (hb : b ∈ B) (hG : Stb B G) (hi : σ[i]? = some (some (.ref b))) (h : EK b B m te σ H (Ls G B n)) (hn : 1 ≤ n ∧ n ≤ 1000) : EK b B (m + 1) (tCall (spPickC K) [] E (tCons (tVar i) (tCons te tNil))) σ H G := fun N H1 l k g Q q =>
  ⟨_, hi, h N H1 (by omega) k g _ fun x H2 M lm k2 g2 p => by
    obtain ⟨l1, xs, rfl, n1, hl, gx, lx⟩ := p
    refine ⟨b, l1, xs, M, rfl, g2.bag, by omega, fun e => n1 (e ▸ hb), SqL.of hl, by omega, by omega, fun H' v k' g' hv => q _ _ (M + 1) (by omega) (k2.trans k') (g2.keep k' g') (hG _ _ _ (gx v hv) (kb hb k'))⟩⟩
theorem ek_neg {i : Int} (p : ∀ H, P (.int (-i)) H) : EK b B 0 (tUn (rU fun i => .int (-i)) (tC (.int i))) σ H P := fun N H1 l k g Q q => ⟨i, rfl, q _ H1 N (Nat.le_refl _) (Keep.refl b H1) g (p H1)⟩
theorem eka_cons0 (hb : b ∈ B) (hG : Stb B G) (h : EK b B 0 te σ H G) (hr : EKA b B 0 tr σ H (AllG G n)) : EKA b B 0 (tCons te tr) σ H (AllG G (n + 1)) := eka_cons hb hG h hr
theorem ek_cat0 (hb : b ∈ B) (hG : Stb B G) (h : EK b B 0 ta σ H (Ls G B n)) (h' : EK b B 0 tb σ H (Ls G B n')) (hn : n + n' ≤ 1000) : EK b B 0 (tOp rCat ta tb) σ H (Ls G B (n + n')) := ek_cat hb hG h h' hn
/-- an item of a list, by a number within -/
theorem ek_ixL (hb : b ∈ B) (hG : Stb B G) (h : EK b B m ta σ H (Ls G B n)) (h' : EK b B m' tb σ H (fun x _ => ∃ r, x = .int r ∧ 0 ≤ r ∧ r < n)) : EK b B (m + m') (tOp (rIxL K) ta tb) σ H G := fun N H1 l k g Q q =>
  h N H1 (by omega) k g _ fun x H2 M lm k2 g2 p => h' M H2 (by omega) (k.trans k2) g2 _ fun y H3 M3 lm3 k3 g3 ⟨r, e, r0, r1⟩ => by
    subst e
    obtain ⟨l1, xs, rfl, n1, hl, gx, lx⟩ := ls_stb hG _ _ _ p (kb hb k3)
    have lt : r.toNat < xs.length := by omega
    have er : r = ((r.toNat : Nat) : Int) := by omega
    have z := atI_nat (xs := xs) (j := r.toNat) (v := xs[r.toNat]) (List.getElem?_eq_getElem lt)
    rw [← er] at z
    exact ⟨l1, xs, r, xs[r.toNat], rfl, rfl, SqL.of hl, z, q _ H3 M3 (by omega) (k2.trans k3) g3 (gx _ (List.getElem_mem lt))⟩
/-- a take compared with a number -/
theorem ekt_take {i : Nat} {c d : Int} {E : XK} (hi : σ[i]? = some (some (.ref b))) (h1 : 1 ≤ c ∧ c < 1000000) : EKT b B 1 (tTest (tOp rEq (tCall spTakeC [] E (tCons (tVar i) (tCons (tC (.int c)) tNil))) (tC (.int d)))) σ H := fun N H1 l k g Q q =>
  ek_take (B := B) (H := H) hi h1 N H1 l k g _ fun x H2 M lm k2 g2 ⟨r, e, _⟩ => by
    subst e
    exact ⟨rfl, _, rfl, q _ H2 M lm k2 g2⟩
variable {D : Ends} {tz : TS}
theorem sk_asg {i : Nat} (g : BgAt b B N H) (hN : N + m ≤ 900000) (h : EK b B m te σ H P) (k : ∀ x H1 M, M ≤ N + m → Keep b H H1 → BgAt b B M H1 → P x H1 → tz D (σ.set i (some x)) H1) : tSeq (tAsg te (gName i)) tz D σ H := h N H hN (Keep.refl b H) g _ k
theorem sk_ret (g : BgAt b B N H) (hN : N + m ≤ 900000) (h : EK b B m te σ H P) (k : ∀ x H1 M, M ≤ N + m → Keep b H H1 → BgAt b B M H1 → P x H1 → D.rt x H1) : tRet te D σ H := h N H hN (Keep.refl b H) g _ k
theorem sk_par {i j : Nat} (g : BgAt b B N H) (hN : N + (m + m') ≤ 900000) (hb : b ∈ B) (hP : Stb B P) (h : EK b B m ta σ H P) (h' : EK b B m' tb σ H P') (k : ∀ x y H1 M, M ≤ N + (m + m') → Keep b H H1 → BgAt b B M H1 → P x H1 → P' y H1 → tz D ((σ.set i (some x)).set j (some y)) H1) :
    tSeq (tPar i j (tCons ta (tCons tb tNil))) tz D σ H :=
  h N H (by omega) (Keep.refl b H) g _ fun x H2 M lm k2 g2 p => h' M H2 (by omega) k2 g2 _ fun y H3 M3 lm3 k3 g3 p' => ⟨x, y, rfl, k x y H3 M3 (by omega) (k2.trans k3) g3 (hP _ _ _ p (kb hb k3)) p'⟩
end
end LF

set_option Elab.async false
set_option linter.all false
set_option maxRecDepth 100000
set_option maxHeartbeats 4000000
namespace KC
open PySem PySem.Spec PyProof.Rows L2 LF
abbrev s__law_bag : Stmt := topS 18
abbrev N__law_bag : List Str := ["_law_script", "_law_at", "_law_cell", "_law_digits"]
theorem sc__law_bag : FnScope ["_law_script", "_law_at", "_law_cell", "_law_digits"] ["_law_script", "_law_at"] (defScope s__law_bag) := ⟨rfl, rfl, rfl, by decide +kernel, rfl, by decide +kernel, by decide +kernel⟩
abbrev s__law_take : Stmt := topS 19
abbrev N__law_take : List Str := ["_law_bag_here", "_law_many", "_law_digit", "_law_mixed"]
theorem sc__law_take : FnScope ["_law_bag_here", "_law_many", "_law_digit", "_law_mixed"] ["_law_bag_here", "_law_many"] (defScope s__law_take) := ⟨rfl, rfl, rfl, by decide +kernel, rfl, by decide +kernel, by decide +kernel⟩
abbrev s__law_pick : Stmt := topS 20
abbrev N__law_pick : List Str := ["_law_bag_here", "_law_items"]
theorem sc__law_pick : FnScope ["_law_bag_here", "_law_items"] ["_law_bag_here", "_law_items"] (defScope s__law_pick) := ⟨rfl, rfl, rfl, by decide +kernel, rfl, by decide +kernel, by decide +kernel⟩
section
variable {P : Program} {w : World} {K : PySem.W.Frag} {mg : Str → Option Value} {base : Heap} {tk1 tk2 : Tok}
theorem ok_take {f : Addr} {fd : FuncData} (F : Fun K "_law_take" "_law_take" s__law_take f fd) (T : Txt K mg tk1 tk2) : FnOk P w K mg base CX0 1 f fd ["_law_bag_here", "_law_many"] spTakeC := by
  refine F.ok sc__law_take (fun vs H Q E h => ?_) (fun cdv A outer s H vs Q E hr h => ?_)
  · obtain ⟨b, m, N, rfl, _⟩ := h
    rfl
  refine ⟨_, (pss_cons (ps_if (pt_cmpR op_gt (pe_ix ix_list (pv 0) pe_int (fun _ _ => rfl)) pe_int (nomark _)) (pss_cons (ps_set (i := 2) sc__law_take.nd rfl (Or.inl rfl) (pe_op op_mod (pe_callTy call_int1 (by rfl) T.n_int (by decide +kernel) (pa_cons (pe_ix ix_list (pv 0) pe_int (fun _ _ => rfl)) pa_nil)) (pv 1)))
    (pss_cons (ps_asg (pe_op op_fdiv (pe_ix ix_list (pv 0) pe_int (fun _ _ => rfl)) (pv 1)) (pg_sub (pv 0) pe_int set_list))
    (pss_one (ps_ret (pv 2))))) pss_nil)
    (pss_cons (ps_asg (pe_op op_add (pe_ix ix_list (pv 0) pe_int (fun _ _ => rfl)) pe_int) (pg_sub (pv 0) pe_int set_list))
    (pss_cons (ps_asg (pe_op op_mod (pe_callTy call_int1 (by rfl) T.n_int (by decide +kernel) (pa_cons (pe_op op_add (pe_op op_add (pe_op op_mul (pe_ix ix_list (pv 0) pe_int (fun _ _ => rfl)) pe_int) (pe_op op_mul (pe_op op_mul pe_int (pe_ix ix_list (pv 0) pe_int (fun _ _ => rfl))) (pe_ix ix_list (pv 0) pe_int (fun _ _ => rfl)))) pe_int) pa_nil)) pe_int) (pg_sub (pv 0) pe_int set_list))
    (pss_cons (ps_set (i := 3) sc__law_take.nd rfl (Or.inl rfl) (pe_op op_mod (pe_callTy call_int1 (by rfl) T.n_int (by decide +kernel) (pa_cons (pe_op op_add (pe_op op_pow (pe_op op_fdiv (pe_ix ix_list (pv 0) pe_int (fun _ _ => rfl)) pe_int) pe_int) (pe_op op_mul pe_int (pe_ix ix_list (pv 0) pe_int (fun _ _ => rfl)))) pa_nil)) pe_int))
    (pss_one (ps_ret (pe_op op_mod (pe_callTy call_int1 (by rfl) T.n_int (by decide +kernel) (pa_cons (pe_op op_fdiv (pv 3) pe_int) pa_nil)) (pv 1)))))))), ?_⟩
  obtain ⟨b, m, N, rfl, ⟨d, x, n, hb, hd, hx0, hx1, hn0, hn1⟩, hN, hm1, hm2, hq⟩ := h
  refine ⟨_, rfl, b, _, _, _, rfl, rfl, SqL.of hb, rfl, _, _, rfl, rfl, _, rfl, ?_⟩
  refine ifD (fun h1 => ?_) (fun h1 => ?_)
  · refine ⟨_, rfl, b, _, _, _, rfl, rfl, SqL.of hb, rfl, Or.inl ⟨_, rfl, ?_⟩⟩
    refine ⟨_, rfl, _, _, rfl, rfl, (by show (0 : Int) < m; omega), ?_⟩
    refine ⟨_, rfl, b, _, _, _, rfl, rfl, SqL.of hb, rfl, _, rfl, _, _, rfl, rfl, ⟨by show (0 : Int) < m; omega, by show m < 1073741824; omega⟩, ?_⟩
    refine ⟨_, rfl, b, _, _, _, rfl, rfl, hb, rfl, ?_⟩
    refine ⟨_, rfl, ?_⟩
    refine hq _ _ (keep_put (Keep.refl b H)) ⟨d / m, x, n, upd_same, ?_, hx0, hx1, hn0, by omega⟩ (Int.emod_nonneg _ (by omega)) (Int.emod_lt_of_pos _ (by omega))
    exact Int.ediv_nonneg hd (by omega)
  · refine ⟨_, rfl, b, _, _, _, rfl, rfl, SqL.of hb, rfl, _, _, rfl, rfl, ?_⟩
    refine ⟨_, rfl, b, _, _, _, rfl, rfl, hb, rfl, ?_⟩
    have p64 : (2 : Int) ^ 64 = 18446744073709551616 := by decide
    refine ⟨_, rfl, b, _, _, _, rfl, rfl, SqL.of upd_same, rfl, _, _, rfl, rfl, Or.inr ⟨by decide, by decide⟩, ?_⟩
    refine ⟨_, rfl, b, _, _, _, rfl, rfl, SqL.of upd_same, rfl, _, _, rfl, rfl, Or.inl ⟨by decide, by decide⟩, ?_⟩
    refine ⟨_, rfl, b, _, _, _, rfl, rfl, SqL.of upd_same, rfl, _, _, rfl, rfl, Or.inl ⟨by show -(2 ^ 64 : Int) < 7919 * (n + 1); omega, by show 7919 * (n + 1) < (2 ^ 64 : Int); omega⟩, ?_⟩
    refine ⟨_, _, rfl, rfl, ?_⟩
    refine ⟨_, _, rfl, rfl, ?_⟩
    refine Or.inl ⟨_, rfl, ?_⟩
    refine ⟨_, _, rfl, rfl, (by show (0 : Int) < 2147483647; decide), ?_⟩
    refine ⟨_, rfl, b, _, _, _, rfl, rfl, upd_same, rfl, ?_⟩
    have n1 := Int.emod_nonneg (x * 69621 + 7919 * (n + 1) * (n + 1) + 31) (show (2147483647 : Int) ≠ 0 by decide)
    have n2 := Int.emod_lt_of_pos (x * 69621 + 7919 * (n + 1) * (n + 1) + 31) (show (0 : Int) < 2147483647 by decide)
    refine ⟨_, rfl, b, _, _, _, rfl, rfl, SqL.of upd_same, rfl, _, _, rfl, rfl, ⟨by decide, by decide⟩, ?_⟩
    have q1 : ((x * 69621 + 7919 * (n + 1) * (n + 1) + 31) % 2147483647 / 16).natAbs < 2 ^ 64 := by
      generalize (x * 69621 + 7919 * (n + 1) * (n + 1) + 31) % 2147483647 = y at n1 n2
      have h8 : 0 ≤ y / 16 ∧ y / 16 < 2147483647 := by omega
      have h7 : (2 : Nat) ^ 64 = 18446744073709551616 := by decide
      omega
    refine ⟨_, _, rfl, rfl, ⟨by decide, by decide, q1⟩, ?_⟩
    refine ⟨_, rfl, b, _, _, _, rfl, rfl, SqL.of upd_same, rfl, _, _, rfl, rfl, Or.inl ⟨by decide, by decide⟩, ?_⟩
    refine ⟨_, _, rfl, rfl, ?_⟩
    refine Or.inl ⟨_, rfl, ?_⟩
    refine ⟨_, _, rfl, rfl, (by show (0 : Int) < 2147483587; decide), ?_⟩
    refine ⟨_, rfl, _, _, rfl, rfl, ⟨by decide, by decide⟩, ?_⟩
    refine Or.inl ⟨_, rfl, ?_⟩
    refine ⟨_, rfl, _, _, rfl, rfl, (by show (0 : Int) < m; omega), ?_⟩
    exact hq _ _ (keep_put (keep_put (Keep.refl b H))) ⟨_, _, _, upd_same, hd, n1, Int.lt_trans n2 (by decide), by omega, by omega⟩ (Int.emod_nonneg _ (by omega)) (Int.emod_lt_of_pos _ (by omega))
theorem ok_pick {f f1 : Addr} {fd fd1 : FuncData} (F : Fun K "_law_pick" "_law_pick" s__law_pick f fd) (T : Txt K mg tk1 tk2) (d__law_take : DefAt P w K mg base "_law_take" 1 f1 fd1 ["_law_bag_here", "_law_many"] spTakeC) :
    FnOk P w K mg base CX0 2 f fd ["_law_bag_here", "_law_items"] (spPickC K) := by
  refine F.ok sc__law_pick (fun vs H Q E h => ?_) (fun cdv A outer s H vs Q E hr h => ?_)
  · obtain ⟨b, l, xs, N, rfl, _⟩ := h
    rfl
  refine ⟨_, (pss_one (ps_ret (pe_ix ix_list (pv 1) (pe_callD d__law_take (hr.mono (by decide)) (pa_cons (pv 0) (pa_cons (pe_callB call_len_seq (by rfl) T.n_len (by decide +kernel) (pa_cons (pv 1) pa_nil)) pa_nil))) (fun _ _ => rfl)))), ?_⟩
  obtain ⟨b, l, xs, N, rfl, hb, hN, hlb, hl, h1, h2, hq⟩ := h
  refine ⟨_, rfl, _, rfl, _, rfl, l, _, rfl, Or.inl hl, ?_⟩
  refine ⟨b, _, N, rfl, hb, by omega, by omega, by omega, fun H' r kp bg r0 r1 => ?_⟩
  have lt : r.toNat < xs.length := by omega
  have e : r = ((r.toNat : Nat) : Int) := by omega
  have z := atI_nat (xs := xs) (j := r.toNat) (v := xs[r.toNat]) (List.getElem?_eq_getElem lt)
  rw [← e] at z
  exact ⟨l, _, _, _, rfl, rfl, keep_seq kp hlb hl, z, hq H' _ kp bg (List.getElem_mem lt)⟩
theorem md (e : Int) : 0 ≤ e % 2147483629 + 1 ∧ e % 2147483629 + 1 < 2147483648 := by
  have n1 := Int.emod_nonneg e (show (2147483629 : Int) ≠ 0 by decide)
  have n2 := Int.emod_lt_of_pos e (show (0 : Int) < 2147483629 by decide)
  omega
theorem absNN (c : Int) : 0 ≤ (if c < 0 then -c else c) := by split <;> omega
theorem ok_bag {f : Addr} {fd : FuncData} (F : Fun K "_law_bag" "_law_bag" s__law_bag f fd) (T : Txt K mg tk1 tk2) : FnOk P w K mg base CX0 1 f fd ["_law_script", "_law_at"] (spBagC K) := by
  refine F.ok sc__law_bag (fun vs H Q E h => ?_) (fun cdv A outer s H vs Q E hr h => ?_)
  · obtain ⟨a, at', ns, rfl, _⟩ := h
    rfl
  refine ⟨_, (pss_cons (ps_set (i := 2) sc__law_bag.nd rfl (Or.inl rfl) (pe_ifExp (pt_cmpR op_lt (pv 1) (pe_callB call_len_seq (by rfl) T.n_len (by decide +kernel) (pa_cons (pv 0) pa_nil)) (nomark _)) (pe_ix ix_list (pv 0) (pv 1) (fun _ _ => rfl)) pe_int))
    (pss_cons (ps_set (i := 3) sc__law_bag.nd rfl (Or.inl rfl) (pe_ifExp (pt_cmpR op_ge (pe_callB call_abs (by rfl) T.n_abs (by decide +kernel) (pa_cons (pv 2) pa_nil)) (pe_op op_pow pe_int pe_int) (nomark _)) (pe_callB call_abs (by rfl) T.n_abs (by decide +kernel) (pa_cons (pv 2) pa_nil)) pe_int))
    (pss_one (ps_ret (pe_lst (pa_cons (pv 3) (pa_cons (pe_op op_add (pe_op op_mod (pe_callTy call_int1 (by rfl) T.n_int (by decide +kernel) (pa_cons (pe_op op_add (pe_op op_add (pe_op op_add (pe_op op_mul (pv 2) pe_int) (pe_op op_mul (pe_op op_mul pe_int (pv 1)) (pv 1))) (pe_op op_mul pe_int (pv 1))) pe_int) pa_nil)) pe_int) pe_int) (pa_cons pe_int pa_nil)))))))), ?_⟩
  obtain ⟨a, at', ns, rfl, hS, hat, hat2, hq⟩ := h
  have p64 : (2 : Int) ^ 64 = 18446744073709551616 := by decide
  refine ⟨_, rfl, _, rfl, a, _, rfl, Or.inl hS, _, _, rfl, rfl, _, rfl, ?_⟩
  refine ifD (fun h1 => ?_) (fun h1 => ?_)
  · rw [List.length_map] at h1
    have h2 : at'.toNat < ns.length := by omega
    have hix : atI (ns.map V.int) at' = some (.int ns[at'.toNat]) := by
      have e : at' = ((at'.toNat : Nat) : Int) := by omega
      have z := atI_nat (xs := ns.map V.int) (j := at'.toNat) (v := .int ns[at'.toNat]) (by rw [List.getElem?_map, List.getElem?_eq_getElem h2]; rfl)
      rw [← e] at z
      exact z
    refine ⟨_, rfl, _, rfl, a, _, _, .int ns[at'.toNat], rfl, rfl, hS, hix, ?_⟩
    refine ⟨_, rfl, _, rfl, _, _, rfl, rfl, ⟨by decide, by decide, by decide⟩, _, _, rfl, rfl, _, rfl, ?_⟩
    refine ifD (fun _ => ⟨_, rfl, _, rfl, ?_⟩) (fun _ => ?_)
    all_goals
      refine ⟨_, rfl, _, rfl, _, _, rfl, rfl, Or.inr ⟨by decide, by decide⟩, ?_⟩
      refine ⟨_, rfl, _, _, rfl, rfl, Or.inl ⟨by decide, by decide⟩, ?_⟩
      refine ⟨_, rfl, _, _, rfl, rfl, Or.inr ⟨by show -(2 ^ 64 : Int) < at'; omega, by show at' < (2 ^ 64 : Int); omega⟩, ?_⟩
      refine ⟨_, _, rfl, rfl, _, rfl, _, _, rfl, rfl, Or.inl ⟨by decide, by decide⟩, ?_⟩
      refine ⟨_, _, rfl, rfl, _, _, rfl, rfl, Or.inl ⟨_, rfl, ?_⟩⟩
      refine ⟨_, _, rfl, rfl, (by show (0 : Int) < 2147483629; decide), _, _, rfl, rfl, ?_⟩
      exact ⟨(by show 3 ≤ sizeLine; decide), fun p hp => hq _ p (same_new hp) hp ⟨_, _, 0, upd_same, by first | exact absNN _ | exact Int.le_refl 0, (md _).1, (md _).2, by decide, by decide⟩⟩
  · refine ⟨_, rfl, _, rfl, _, _, rfl, rfl, ⟨by decide, by decide, by decide⟩, _, _, rfl, rfl, _, rfl, ?_⟩
    refine ifD (fun _ => ⟨_, rfl, _, rfl, ?_⟩) (fun _ => ?_)
    all_goals
      refine ⟨_, rfl, _, rfl, _, _, rfl, rfl, Or.inr ⟨by decide, by decide⟩, ?_⟩
      refine ⟨_, rfl, _, _, rfl, rfl, Or.inl ⟨by decide, by decide⟩, ?_⟩
      refine ⟨_, rfl, _, _, rfl, rfl, Or.inr ⟨by show -(2 ^ 64 : Int) < at'; omega, by show at' < (2 ^ 64 : Int); omega⟩, ?_⟩
      refine ⟨_, _, rfl, rfl, _, rfl, _, _, rfl, rfl, Or.inl ⟨by decide, by decide⟩, ?_⟩
      refine ⟨_, _, rfl, rfl, _, _, rfl, rfl, Or.inl ⟨_, rfl, ?_⟩⟩
      refine ⟨_, _, rfl, rfl, (by show (0 : Int) < 2147483629; decide), _, _, rfl, rfl, ?_⟩
      exact ⟨(by show 3 ≤ sizeLine; decide), fun p hp => hq _ p (same_new hp) hp ⟨_, _, 0, upd_same, by first | exact absNN _ | exact Int.le_refl 0, (md _).1, (md _).2, by decide, by decide⟩⟩
end
end KC

set_option Elab.async false
set_option linter.all false
set_option maxRecDepth 100000
set_option maxHeartbeats 4000000
namespace LF
open PySem PySem.Spec PyProof.Rows L2
open Evl (Ev EvL EvU EvT EvA EvO Ex sq_of st_of)
section
variable {κ : Type} [DecidableEq κ]
theorem mem_put {kvs : List (κ × V)} {k : κ} {v : V} {e : κ × V} (h : e ∈ putK kvs k v) : e = (k, v) ∨ e ∈ kvs := by
  unfold putK at h
  split at h
  · obtain ⟨a, ha, rfl⟩ := List.mem_map.mp h
    split
    · rename_i c; exact Or.inl (by rw [c])
    · exact Or.inr ha
  · rcases List.mem_append.mp h with h | h
    · exact Or.inr h
    · exact Or.inl (List.mem_singleton.mp h)
theorem len_put {kvs : List (κ × V)} {k : κ} {v : V} : (putK kvs k v).length ≤ kvs.length + 1 := by
  unfold putK
  split
  · rw [List.length_map]; omega
  · rw [List.length_append]; simp
theorem keys_put {kvs : List (κ × V)} {k : κ} {v : V} (h : k ∈ kvs.map (·.1)) : (putK kvs k v).map (·.1) = kvs.map (·.1) := by
  have : (kvs.any fun kv => decide (kv.1 = k)) = true := by
    obtain ⟨a, ha, e⟩ := List.mem_map.mp h
    exact List.any_eq_true.mpr ⟨a, ha, decide_eq_true e⟩
  unfold putK
  rw [if_pos this, List.map_map]
  refine List.map_congr_left fun a _ => ?_
  show (if a.1 = k then (a.1, v) else a).1 = a.1
  split <;> rfl
theorem val_mem {kvs : List (κ × V)} {k : κ} {v : V} (h : valV kvs k = some v) : (k, v) ∈ kvs := by
  unfold valV at h
  obtain ⟨p, hp, e⟩ := Option.map_eq_some_iff.mp h
  have h1 := List.find?_some hp
  have h2 := List.mem_of_find?_eq_some hp
  have h3 : p.1 = k := of_decide_eq_true h1
  rw [← h3, ← e]; exact h2
theorem val_some {kvs : List (κ × V)} {k : κ} (h : k ∈ kvs.map (·.1)) : ∃ v, valV kvs k = some v ∧ (k, v) ∈ kvs := by
  cases hv : valV kvs k with
  | some v => exact ⟨v, rfl, val_mem hv⟩
  | none =>
    obtain ⟨a, ha, e⟩ := List.mem_map.mp h
    unfold valV at hv
    rw [Option.map_eq_none_iff, List.find?_eq_none] at hv
    exact absurd (decide_eq_true e) (hv a ha)
end
theorem merge_cons (acc : List (Key × V)) (p : Key × V) (r : List (Key × V)) : mergeK acc (p :: r) = mergeK (putK acc p.1 p.2) r := rfl
theorem mem_merge : ∀ {kvs acc : List (Key × V)} {e : Key × V}, e ∈ mergeK acc kvs → e ∈ acc ∨ e ∈ kvs
  | [], acc, e, h => Or.inl h
  | p :: r, acc, e, h => by
    rw [merge_cons] at h
    rcases mem_merge h with h | h
    · rcases mem_put h with h | h
      · exact Or.inr (by rw [h]; exact List.mem_cons_self)
      · exact Or.inl h
    · exact Or.inr (List.mem_cons_of_mem _ h)
theorem len_merge : ∀ {kvs acc : List (Key × V)}, (mergeK acc kvs).length ≤ acc.length + kvs.length
  | [], acc => Nat.le_refl _
  | p :: r, acc => by
    rw [merge_cons]
    have h1 := len_merge (kvs := r) (acc := putK acc p.1 p.2)
    have h2 := len_put (kvs := acc) (k := p.1) (v := p.2)
    rw [List.length_cons]; omega
theorem merge_val {G : V → Prop} : ∀ {kvs acc : List (Key × V)} {k : Key}, (∀ kv ∈ kvs, G kv.2) → (k ∈ kvs.map (·.1) ∨ ∃ v, valV acc k = some v ∧ G v) → ∃ v, valV (mergeK acc kvs) k = some v ∧ G v
  | [], acc, k, _, h => h.elim (fun m => by simp at m) id
  | p :: r, acc, k, hg, h => by
    rw [merge_cons]
    refine merge_val (fun kv m => hg kv (List.mem_cons_of_mem _ m)) ?_
    by_cases e : k = p.1
    · exact Or.inr ⟨p.2, by rw [valV_put, if_pos e], hg p List.mem_cons_self⟩
    · rcases h with h | ⟨v, hv, gv⟩
      · rw [List.map_cons] at h
        rcases List.mem_cons.mp h with h | h
        · exact absurd h e
        · exact Or.inl h
      · exact Or.inr ⟨v, by rw [valV_put, if_neg e]; exact hv, gv⟩
/-- a dict with keys of its own: none twice -/
theorem nodup_put {κ : Type} [DecidableEq κ] {kvs : List (κ × V)} {k : κ} {v : V} (h : (kvs.map (·.1)).Nodup) : ((putK kvs k v).map (·.1)).Nodup := by
  by_cases hk : k ∈ kvs.map (·.1)
  · rw [keys_put hk]; exact h
  · have hn : valV kvs k = none := by
      cases hv : valV kvs k with
      | none => rfl
      | some v => exact absurd (List.mem_map.mpr ⟨_, val_mem hv, rfl⟩) hk
    rw [putK_new v hn, List.map_append]
    refine List.nodup_append.mpr ⟨h, by simp, fun a ha b hb => ?_⟩
    rw [List.map_cons, List.map_nil, List.mem_singleton] at hb
    have hb2 : b = k := hb
    intro e; exact hk (by rw [← hb2, ← e]; exact ha)
theorem nodup_merge : ∀ {kvs acc : List (Key × V)}, (acc.map (·.1)).Nodup → ((mergeK acc kvs).map (·.1)).Nodup
  | [], _, h => h
  | p :: r, acc, h => by rw [merge_cons]; exact nodup_merge (nodup_put h)
end LF

set_option Elab.async false
set_option linter.all false
set_option maxRecDepth 100000
set_option maxHeartbeats 4000000
namespace KC
open PySem PySem.Spec PyProof.Rows L2 LF
open Evl (Ex sq_of st_of)
/-- a short text, an int -/
def okS : V → Hp → Prop := fun x _ => ∃ z : Str, x = .str z ∧ z.length ≤ 8 ∧ PyData.strOk z = true
def okI : V → Hp → Prop := fun x _ => ∃ i : Int, x = .int i
def okA : V → Hp → Prop := fun _ _ => True
theorem okS_stb {B : List Addr} : Stb B okS := fun _ _ _ h _ => h
theorem okI_stb {B : List Addr} : Stb B okI := fun _ _ _ h _ => h
theorem okA_stb {B : List Addr} : Stb B okA := fun _ _ _ h _ => h
/-- a name, not the one that the law puts in -/
def nwN (z : Str) : Bool := isNm z && !decide (z = "new")
theorem nw_nm {z : Str} (h : nwN z = true) : isNm z = true := (Bool.and_eq_true_iff.mp h).1
theorem nw_ne {z : Str} (h : nwN z = true) : ¬ z = "new" := fun e => by
  have := (Bool.and_eq_true_iff.mp h).2
  rw [decide_eq_true e] at this; cases this
def okN : V → Hp → Prop := fun x _ => ∃ z : Str, x = .str z ∧ nwN z = true ∧ PyData.strOk z = true
theorem okN_stb {B : List Addr} : Stb B okN := fun _ _ _ h _ => h
/-- the words drawn: the dict at p -/
def Wd (B : List Addr) (p : Addr) (H : Hp) : Prop := ∃ kvs vf vi vk lc cs, H p = some (.dK kvs) ∧ p ∉ B ∧ valV kvs (.inr "folders") = some vf ∧ valV kvs (.inr "files") = some vi ∧ valV kvs (.inr "packages") = some vk ∧ valV kvs (.inr "contents") = some (.ref lc) ∧
  Ls okN B 3 vf H ∧ Ls okN B 3 vk H ∧ lc ∉ B ∧ H lc = some (.dK cs) ∧ Ls (fun x _ => ∃ z, x = .str z ∧ nwN z = true ∧ PyData.strOk z = true ∧ ∃ i, valV cs (.inr z) = some (.int i)) B 2 vi H
theorem Wd.stb {B : List Addr} {p : Addr} {H H' : Hp} (h : Wd B p H) (k : KeepB B H H') : Wd B p H' := by
  obtain ⟨kvs, vf, vi, vk, lc, cs, h1, h2, h3, h4, h5, h6, h7, h8, h9, h10, h11⟩ := h
  exact ⟨kvs, vf, vi, vk, lc, cs, k _ _ h2 h1, h2, h3, h4, h5, h6, ls_stb okN_stb _ _ _ h7 k, ls_stb okN_stb _ _ _ h8 k, h9, k _ _ h9 h10, ls_stb (fun _ _ _ h _ => h) _ _ _ h11 k⟩
def spWords : Sp := fun vs H Q _ => ∃ (b : Addr) (N : Nat), vs = [.ref b] ∧ BagC H b N ∧ N ≤ 800000 ∧ ∀ H' p M, M ≤ N + 4 → Keep b H H' → BagC H' b M → Wd [b] p H' → Q (.ref p) H'
theorem bgAt1 {b : Addr} {N : Nat} {H : Hp} (h : BagC H b N) : BgAt b [b] N H := ⟨h, List.mem_singleton.mpr rfl, fun a ha => by
  rw [List.mem_singleton.mp ha]
  obtain ⟨_, _, _, e, _⟩ := h
  exact ⟨_, e⟩⟩
theorem Ls_less {G : V → Hp → Prop} {B B' : List Addr} {n : Nat} {x : V} {H : Hp} (h : ∀ a ∈ B', a ∈ B) (l : Ls G B n x H) : Ls G B' n x H := by
  obtain ⟨p, xs, e, hp, r⟩ := l
  exact ⟨p, xs, e, fun m => hp (h p m), r⟩
theorem sk_dput {b p : Addr} {B : List Addr} {σ : L2.St} {H : Hp} {N m i : Nat} {tv : TE} {tz : TS} {D : Ends} {key : Str} {kvs : List (Key × V)} {P : V → Hp → Prop} (g : BgAt b B N H) (hN : N + m ≤ 900000) (hp : p ∈ B) (np : p ≠ b) (hi : σ[i]? = some (some (.ref p))) (hd : H p = some (.dK kvs)) (hl : kvs.length < 100)
    (hP : Stb B P) (h : EK b B m tv σ H P) (k : ∀ v H2 M, M ≤ N + m → BgAt b B M H2 → KeepB B H H2 → (∀ a o, a ≠ b → a ≠ p → H a = some o → H2 a = some o) → H2 p = some (.dK (putK kvs (.inr key) v)) → P v H2 → tz D σ H2) :
    tSeq (sDPut (tVar i) (tC (.str key)) tv) tz D σ H :=
  h N H hN (Keep.refl b H) g _ fun v H1 M lm k1 g1 pv => ⟨_, hi, p, _, rfl, DPut.k (k := .inr key) (k1 _ _ np hd) (Nat.lt_of_lt_of_le hl (by decide)), by
    have kk : KeepB B H1 (upd H1 p (.dK (putK kvs (.inr key) v))) := fun a u n e => by
      rw [upd_ne (fun z => n (by rw [z]; exact hp))]; exact e
    refine k v _ M lm ⟨?_, g1.inB, fun a ha => ?_⟩ ((kb g1.inB k1).trans kk) (fun a o n1 n2 e => by rw [upd_ne n2]; exact k1 a o n1 e) upd_same (hP _ _ _ pv kk)
    · obtain ⟨d, x, n, e, r⟩ := g1.bag
      exact ⟨d, x, n, by rw [upd_ne np.symm]; exact e, r⟩
    · by_cases e : a = p
      · subst e; exact ⟨_, upd_same⟩
      · obtain ⟨u, hu⟩ := g1.live a ha
        exact ⟨u, by rw [upd_ne e]; exact hu⟩⟩
def w0 (vf : V) : List (Key × V) := [(.inr "folders", vf)]
def w1 (vf vi : V) : List (Key × V) := [(.inr "folders", vf), (.inr "files", vi)]
def w2 (vf vi vk : V) : List (Key × V) := [(.inr "folders", vf), (.inr "files", vi), (.inr "packages", vk)]
theorem pw0 (vf : V) : putK ([] : List (Key × V)) (.inr "folders") vf = w0 vf := rfl
theorem kne {a b : Str} (h : a ≠ b) : ¬ ((Sum.inr a : Key) = Sum.inr b) := fun e => h (Sum.inr.inj e)
theorem n1 : ("folders" : Str) ≠ "files" := by decide +kernel
theorem n2 : ("folders" : Str) ≠ "packages" := by decide +kernel
theorem n3 : ("files" : Str) ≠ "packages" := by decide +kernel
theorem n4 : ("folders" : Str) ≠ "contents" := by decide +kernel
theorem n5 : ("files" : Str) ≠ "contents" := by decide +kernel
theorem n6 : ("packages" : Str) ≠ "contents" := by decide +kernel
theorem pw1 (vf vi : V) : putK (w0 vf) (.inr "files") vi = w1 vf vi := by simp [putK, w0, w1, kne n1]
theorem pw2 (vf vi vk : V) : putK (w1 vf vi) (.inr "packages") vk = w2 vf vi vk := by simp [putK, w1, w2, kne n2, kne n3]
theorem vw3 (vf vi vk : V) : valV (w2 vf vi vk) (.inr "files") = some vi := by simp [valV, w2, kne n1]
theorem paired_of {α β : Type} {F : α → β → Prop} : ∀ L : List (α × β), (∀ e ∈ L, F e.1 e.2) → Paired F (L.map (·.1)) (L.map (·.2))
  | [], _ => .nil
  | e :: L, h => .cons (h e List.mem_cons_self) (paired_of L fun x hx => h x (List.mem_cons_of_mem _ hx))
theorem vw1 (vf vi : V) : valV (w1 vf vi) (.inr "files") = some vi := by simp [valV, w1, kne n1]
theorem vw2 (vf vi vk vc : V) : valV (putK (w2 vf vi vk) (.inr "contents") vc) (.inr "folders") = some vf ∧ valV (putK (w2 vf vi vk) (.inr "contents") vc) (.inr "packages") = some vk ∧ valV (putK (w2 vf vi vk) (.inr "contents") vc) (.inr "files") = some vi ∧ valV (putK (w2 vf vi vk) (.inr "contents") vc) (.inr "contents") = some vc := by
  refine ⟨?_, ?_, ?_, ?_⟩ <;> simp [putK, valV, w2, kne n4, kne n5, kne n6, kne n2, kne n3, kne n1]
abbrev s__law_words : Stmt := topS 21
abbrev N__law_words : List Str := ["_law_bag_here", "_law_way", "_law_words_here", "_law_some", "_law_name"]
theorem sc__law_words : FnScope ["_law_bag_here", "_law_way", "_law_words_here", "_law_some", "_law_name"] ["_law_bag_here"] (defScope s__law_words) := ⟨rfl, rfl, rfl, by decide +kernel, rfl, by decide +kernel, by decide +kernel⟩
section
variable {P : Program} {w : World} {K : PySem.W.Frag} {mg : Str → Option Value} {base : Heap} {tk1 tk2 : Tok}
theorem ok_words {f f1 f2 : Addr} {fd fd1 fd2 : FuncData} (F : Fun K "_law_words" "_law_words" s__law_words f fd) (T : Txt K mg tk1 tk2) (d__law_take : DefAt P w K mg base "_law_take" 1 f1 fd1 ["_law_bag_here", "_law_many"] spTakeC)
    (d__law_pick : DefAt P w K mg base "_law_pick" 2 f2 fd2 ["_law_bag_here", "_law_items"] (spPickC K)) : FnOk P w K mg base CX0 3 f fd ["_law_bag_here"] spWords := by
  refine F.ok sc__law_words (fun vs H Q E h => ?_) (fun cdv A outer s H vs Q E hr h => ?_)
  · obtain ⟨b, N, rfl, _⟩ := h
    rfl
  have hu1 := hu_of hr
  refine ⟨_, (pss_cons (ps_par (i := 1) (j := 2) (by rfl) sc__law_words.nd rfl rfl (by decide) rfl rfl (pa_cons (pe_callD d__law_take (hr.mono (by decide)) (pa_cons (pv 0) (pa_cons pe_int pa_nil))) (pa_cons pe_dnewK pa_nil)) (by rfl))
    (pss_cons (ps_dput hu1 (pv 2) pe_str (pe_ix ix_list (pe_lst (pa_cons (pe_lst (pa_cons pe_str (pa_cons pe_str (pa_cons pe_str pa_nil)))) (pa_cons (pe_lst (pa_cons pe_str (pa_cons pe_str (pa_cons pe_str pa_nil)))) (pa_cons (pe_lst (pa_cons pe_str (pa_cons pe_str (pa_cons pe_str pa_nil)))) (pa_cons (pe_lst (pa_cons pe_str (pa_cons pe_str (pa_cons pe_str pa_nil)))) pa_nil))))) (pv 1) (fun _ _ => rfl)) rfl)
    (pss_cons (ps_dput hu1 (pv 2) pe_str (pe_ix ix_list (pe_lst (pa_cons (pe_lst (pa_cons pe_str (pa_cons pe_str pa_nil))) (pa_cons (pe_lst (pa_cons pe_str (pa_cons pe_str pa_nil))) (pa_cons (pe_lst (pa_cons pe_str (pa_cons pe_str pa_nil))) (pa_cons (pe_lst (pa_cons pe_str (pa_cons pe_str pa_nil))) pa_nil))))) (pv 1) (fun _ _ => rfl)) rfl)
    (pss_cons (ps_dput hu1 (pv 2) pe_str (pe_ix ix_list (pe_lst (pa_cons (pe_lst (pa_cons pe_str (pa_cons pe_str (pa_cons pe_str pa_nil)))) (pa_cons (pe_lst (pa_cons pe_str (pa_cons pe_str (pa_cons pe_str pa_nil)))) (pa_cons (pe_lst (pa_cons pe_str (pa_cons pe_str (pa_cons pe_str pa_nil)))) pa_nil)))) (pe_callD d__law_take (hr.mono (by decide)) (pa_cons (pv 0) (pa_cons pe_int pa_nil))) (fun _ _ => rfl)) rfl)
    (pss_cons (ps_set (i := 3) sc__law_words.nd rfl (Or.inr rfl) (pe_lst (pa_cons pe_int (pa_cons pe_int (pa_cons pe_int (pa_cons (pe_un un_neg pe_int) (pa_cons (pe_op op_sub (pe_op op_pow pe_int pe_int) pe_int) (pa_cons (pe_op op_sub pe_int (pe_op op_pow pe_int pe_int)) pa_nil))))))))
    (pss_cons (ps_dput hu1 (pv 2) pe_str (pe_callTy (call_dictP rfl) (by rfl) T.n_dict (by decide +kernel) (pa_cons (pe_lc (own := [("_law_name", 4)]) rfl sc__law_words.nd (pi_list (pe_dget hu1 (pv 2) pe_str (fun _ _ => rfl))) (blkOk_by (N := N__law_words) (sc := defScope s__law_words) (by decide +kernel)) (fun _ _ _ _ _ => pg_name (i := 4) sc__law_words.nd rfl (Or.inl rfl)) (fun _ _ _ _ _ => pts_nil) (fun _ _ _ _ _ => (pe_tup (pa_cons (pv 4) (pa_cons (pe_callD d__law_pick (hr.mono (by decide)) (pa_cons (pv 0) (pa_cons (pv 3) pa_nil))) pa_nil))))) pa_nil)) rfl)
    (pss_one (ps_ret (pv 2))))))))), ?_⟩
  obtain ⟨b, N, rfl, hbag, hN, hq⟩ := h
  have hb : b ∈ [b] := List.mem_singleton.mpr rfl
  refine sk_par (B := [b]) (m := 1) (m' := 0) (bgAt1 hbag) (by omega) hb (fun _ _ _ h _ => h) (ek_take (c := 4) rfl (by decide)) (P' := fun x H' => ∃ p, x = .ref p ∧ H' p = some (.dK []) ∧ p ∉ [b] ∧ ∀ a o, a ≠ b → H a = some o → a ≠ p) (fun N H1 l k g Q q p hp => by
    obtain ⟨n1, g3, k3⟩ := g.new (o := .dK []) hp
    exact q _ _ N (Nat.le_refl _) k3 g3 ⟨p, rfl, upd_same, n1, fun a o na e z => by
      have z1 := k a o na e
      rw [z, hp] at z1; cases z1⟩) fun x y H1 M1 l1 k1 g1 ⟨r, ex, r0, r1⟩ ⟨p, ey, hp, np, fresh⟩ => ?_
  subst ex
  subst ey
  have np' : p ≠ b := fun e => np (List.mem_singleton.mpr e)
  have G1 : BgAt b [b, p] M1 H1 := ⟨g1.bag, List.mem_cons_self, fun a ha => by
    rcases List.mem_cons.mp ha with rfl | ha
    · exact g1.live _ hb
    · rw [List.mem_singleton.mp ha]; exact ⟨_, hp⟩⟩
  have K1 : KeepB [b, p] H H1 := kb List.mem_cons_self k1
  clear hb
  have hb : b ∈ [b, p] := List.mem_cons_self
  have hpB : p ∈ [b, p] := by simp
  have c4 : ∀ {H}, EK b [b, p] 0 (tVar 1) [some (V.ref b), some (V.int r), some (V.ref p), none, none] H (fun x _ => ∃ r, x = .int r ∧ 0 ≤ r ∧ r < (4 : Nat)) := fun {H} => ek_v rfl fun _ _ => ⟨r, rfl, r0, by exact_mod_cast r1⟩
  refine sk_dput (m := 0) (P := Ls okN [b, p] 3) G1 (by omega) hpB np' rfl hp (by decide) (ls_stb okN_stb) (by exact ek_ixL (K := K) (m := 0) (m' := 0) (n := 4) hb (ls_stb okN_stb) (ek_lst hb (ls_stb okN_stb) (eka_cons0 hb (ls_stb okN_stb) (ek_lst hb okN_stb (eka_cons0 hb okN_stb (ek_c fun _ => ⟨_, rfl, by decide +kernel, by decide +kernel⟩) (eka_cons0 hb okN_stb (ek_c fun _ => ⟨_, rfl, by decide +kernel, by decide +kernel⟩) (eka_cons0 hb okN_stb (ek_c fun _ => ⟨_, rfl, by decide +kernel, by decide +kernel⟩) eka_nil))) (by decide)) (eka_cons0 hb (ls_stb okN_stb) (ek_lst hb okN_stb (eka_cons0 hb okN_stb (ek_c fun _ => ⟨_, rfl, by decide +kernel, by decide +kernel⟩) (eka_cons0 hb okN_stb (ek_c fun _ => ⟨_, rfl, by decide +kernel, by decide +kernel⟩) (eka_cons0 hb okN_stb (ek_c fun _ => ⟨_, rfl, by decide +kernel, by decide +kernel⟩) eka_nil))) (by decide)) (eka_cons0 hb (ls_stb okN_stb) (ek_lst hb okN_stb (eka_cons0 hb okN_stb (ek_c fun _ => ⟨_, rfl, by decide +kernel, by decide +kernel⟩) (eka_cons0 hb okN_stb (ek_c fun _ => ⟨_, rfl, by decide +kernel, by decide +kernel⟩) (eka_cons0 hb okN_stb (ek_c fun _ => ⟨_, rfl, by decide +kernel, by decide +kernel⟩) eka_nil))) (by decide)) (eka_cons0 hb (ls_stb okN_stb) (ek_lst hb okN_stb (eka_cons0 hb okN_stb (ek_c fun _ => ⟨_, rfl, by decide +kernel, by decide +kernel⟩) (eka_cons0 hb okN_stb (ek_c fun _ => ⟨_, rfl, by decide +kernel, by decide +kernel⟩) (eka_cons0 hb okN_stb (ek_c fun _ => ⟨_, rfl, by decide +kernel, by decide +kernel⟩) eka_nil))) (by decide)) eka_nil)))) (by decide)) c4) fun vf H2 M2 l2 g2 k2 q2 d2 p2 => ?_
  rw [pw0] at d2
  refine sk_dput (m := 0) (P := Ls okN [b, p] 2) g2 (by omega) hpB np' rfl d2 (by show 1 < 100; decide) (ls_stb okN_stb) (by exact ek_ixL (K := K) (m := 0) (m' := 0) (n := 4) hb (ls_stb okN_stb) (ek_lst hb (ls_stb okN_stb) (eka_cons0 hb (ls_stb okN_stb) (ek_lst hb okN_stb (eka_cons0 hb okN_stb (ek_c fun _ => ⟨_, rfl, by decide +kernel, by decide +kernel⟩) (eka_cons0 hb okN_stb (ek_c fun _ => ⟨_, rfl, by decide +kernel, by decide +kernel⟩) eka_nil)) (by decide)) (eka_cons0 hb (ls_stb okN_stb) (ek_lst hb okN_stb (eka_cons0 hb okN_stb (ek_c fun _ => ⟨_, rfl, by decide +kernel, by decide +kernel⟩) (eka_cons0 hb okN_stb (ek_c fun _ => ⟨_, rfl, by decide +kernel, by decide +kernel⟩) eka_nil)) (by decide)) (eka_cons0 hb (ls_stb okN_stb) (ek_lst hb okN_stb (eka_cons0 hb okN_stb (ek_c fun _ => ⟨_, rfl, by decide +kernel, by decide +kernel⟩) (eka_cons0 hb okN_stb (ek_c fun _ => ⟨_, rfl, by decide +kernel, by decide +kernel⟩) eka_nil)) (by decide)) (eka_cons0 hb (ls_stb okN_stb) (ek_lst hb okN_stb (eka_cons0 hb okN_stb (ek_c fun _ => ⟨_, rfl, by decide +kernel, by decide +kernel⟩) (eka_cons0 hb okN_stb (ek_c fun _ => ⟨_, rfl, by decide +kernel, by decide +kernel⟩) eka_nil)) (by decide)) eka_nil)))) (by decide)) c4) fun vi H3 M3 l3 g3 k3 q3 d3 p3 => ?_
  rw [pw1] at d3
  refine sk_dput (m := 1) (P := Ls okN [b, p] 3) g3 (by omega) hpB np' rfl d3 (by show 2 < 100; decide) (ls_stb okN_stb) (by exact ek_ixL (K := K) (m := 0) (m' := 1) (n := 3) hb (ls_stb okN_stb) (ek_lst hb (ls_stb okN_stb) (eka_cons0 hb (ls_stb okN_stb) (ek_lst hb okN_stb (eka_cons0 hb okN_stb (ek_c fun _ => ⟨_, rfl, by decide +kernel, by decide +kernel⟩) (eka_cons0 hb okN_stb (ek_c fun _ => ⟨_, rfl, by decide +kernel, by decide +kernel⟩) (eka_cons0 hb okN_stb (ek_c fun _ => ⟨_, rfl, by decide +kernel, by decide +kernel⟩) eka_nil))) (by decide)) (eka_cons0 hb (ls_stb okN_stb) (ek_lst hb okN_stb (eka_cons0 hb okN_stb (ek_c fun _ => ⟨_, rfl, by decide +kernel, by decide +kernel⟩) (eka_cons0 hb okN_stb (ek_c fun _ => ⟨_, rfl, by decide +kernel, by decide +kernel⟩) (eka_cons0 hb okN_stb (ek_c fun _ => ⟨_, rfl, by decide +kernel, by decide +kernel⟩) eka_nil))) (by decide)) (eka_cons0 hb (ls_stb okN_stb) (ek_lst hb okN_stb (eka_cons0 hb okN_stb (ek_c fun _ => ⟨_, rfl, by decide +kernel, by decide +kernel⟩) (eka_cons0 hb okN_stb (ek_c fun _ => ⟨_, rfl, by decide +kernel, by decide +kernel⟩) (eka_cons0 hb okN_stb (ek_c fun _ => ⟨_, rfl, by decide +kernel, by decide +kernel⟩) eka_nil))) (by decide)) eka_nil))) (by decide)) (ek_take (c := 3) rfl (by decide))) fun vk H4 M4 l4 g4 k4 q4 d4 p4 => ?_
  rw [pw2] at d4
  have i1 : EK b [b, p] 0 (tC (.int 0)) [some (V.ref b), some (V.int r), some (V.ref p), none, none] H4 okI := ek_c fun _ => ⟨_, rfl⟩
  refine sk_asg (m := 0) (P := Ls okI [b, p] 6) g4 (by omega) (by exact ek_lst hb okI_stb (eka_cons0 hb okI_stb (ek_c fun _ => ⟨_, rfl⟩) (eka_cons0 hb okI_stb (ek_c fun _ => ⟨_, rfl⟩) (eka_cons0 hb okI_stb (ek_c fun _ => ⟨_, rfl⟩) (eka_cons0 hb okI_stb (ek_neg fun _ => ⟨_, rfl⟩)
    (eka_cons0 hb okI_stb (fun N H1 l k g Q q => ⟨_, _, rfl, rfl, ⟨by decide, by decide, by decide⟩, _, _, rfl, rfl, q _ H1 N (Nat.le_refl _) (Keep.refl b H1) g ⟨_, rfl⟩⟩) (eka_cons0 hb okI_stb (fun N H1 l k g Q q => ⟨_, _, rfl, rfl, ⟨by decide, by decide, by decide⟩, _, _, rfl, rfl, q _ H1 N (Nat.le_refl _) (Keep.refl b H1) g ⟨_, rfl⟩⟩) eka_nil)))))) (by decide)) fun y H5 M5 l5 k5 g5 p5 => ?_
  have d5 : H5 p = some (.dK (w2 vf vi vk)) := k5 _ _ np' d4
  obtain ⟨lf, xf, rfl, nf, hlf, gf, lnf⟩ := (ls_stb okN_stb _ _ _ p3 (k4.trans (kb hb k5)) : Ls okN [b, p] 2 vi H5)
  obtain ⟨ly, xy, rfl, ny, hly, gy, lny⟩ := p5
  refine sk_dput (m := 2) (P := fun v H => ∃ lc cs, v = .ref lc ∧ lc ∉ [b, p] ∧ H lc = some (.dK cs) ∧ ∀ z, V.str z ∈ xf → ∃ i, valV cs (.inr z) = some (.int i)) g5 (by omega) hpB np' rfl d5 (by show 3 < 100; decide) (fun x H H' ⟨lc, cs, e, n, h, r⟩ k => ⟨lc, cs, e, n, k _ _ n h, r⟩) ?_ fun vc H6 M6 l6 g6 k6 q6 d6 p6 => ?_
  · intro N7 H7 lN7 k7 g7 Q7 q7
    have d7 := k7 _ _ np' d5
    have hf7 := k7 _ _ (fun e => nf (by rw [e]; simp)) hlf
    have hy7 := k7 _ _ (fun e => ny (by rw [e]; simp)) hly
    have dg : DGet H7 p (.str "files") (some (.ref lf)) := by
      have := DGet.k (k := .inr "files") d7
      rw [vw3] at this
      exact this
    refine ⟨.ref p, rfl, p, .ref lf, rfl, dg, lf, rfl, ⟨xf, SqL.of hf7⟩, fun Dl hD => ?_⟩
    have nDb : Dl ≠ b := BagC.ne g7.bag hD
    refine lc_it walk_list (fun i H' => ∃ M, M ≤ N7 + i ∧ BgAt b [b, p] M H' ∧ Keep b H7 H' ∧ ∃ L : List (Addr × (Key × V)), H' Dl = some (.lst ((L.map (·.1)).map V.ref)) ∧ (∀ e ∈ L, H' e.1 = some (.tup [kV e.2.1, e.2.2]) ∧ e.1 ≠ Dl ∧ e.1 ≠ b ∧ ∃ j, e.2.2 = .int j) ∧ L.map (fun e => kV e.2.1) = xf.take i)
      ⟨N7, Nat.le_refl _, (g7.new hD).2.1, (g7.new hD).2.2, [], upd_same, (fun e he => (nomatch he)), rfl⟩ (fun i H' _ ⟨M, _, _, k, _⟩ => SqL.of (k _ _ (fun e => nf (by rw [e]; simp)) hf7)) ?_ ?_
    · rintro i x H8 H8' hi ⟨M8, l8, g8, k8, L, hL, hE, hn⟩ ⟨rfl, hx⟩
      obtain ⟨z, rfl, hz⟩ := gf x (List.mem_of_getElem? hx)
      refine ⟨rfl, ?_⟩
      have hLl : L.length ≤ i := by
        have := congrArg List.length hn
        rw [List.length_map, List.length_take] at this; omega
      have hy8 := k8 _ _ (fun e => ny (by rw [e]; simp)) hy7
      refine ⟨_, rfl, _, rfl, _, rfl, b, ly, xy, M8, rfl, g8.bag, by omega, fun e => ny (by rw [e]; simp), SqL.of hy8, by omega, by omega, fun H9 v k9 g9 hv => ?_⟩
      refine ⟨by show 2 ≤ sizeLine; decide, fun q hq' => ?_⟩
      have G9 : BgAt b [b, p] (M8 + 1) H9 := g8.keep k9 g9
      have hD9 := k9 _ _ nDb hL
      obtain ⟨nq, G10, k10⟩ := G9.new (o := .tup [.str z, v]) hq'
      have nqD : q ≠ Dl := fun e => by rw [e, hD9] at hq'; cases hq'
      have nqb : q ≠ b := fun e => nq (by rw [e]; simp)
      refine ⟨(L.map (·.1)).map V.ref, k10 _ _ nDb hD9, ?_, M8 + 1, by omega, ⟨?_, hb, fun a ha => ?_⟩, fun a o na e => ?_, L ++ [(q, (.inr z, v))], ?_, fun e he => ?_, ?_⟩
      · rw [List.length_map, List.length_map]; exact Evl.sz_lt (by omega)
      · obtain ⟨d, x, n, e, r⟩ := G10.bag
        exact ⟨d, x, n, by rw [upd_ne nDb.symm]; exact e, r⟩
      · obtain ⟨u, hu⟩ := G10.live a ha
        by_cases e : a = Dl
        · subst e; exact ⟨_, upd_same⟩
        · exact ⟨u, by rw [upd_ne e]; exact hu⟩
      · have nDa : a ≠ Dl := fun z => by rw [z, hD] at e; cases e
        rw [upd_ne nDa]
        exact k10 _ _ na (k9 _ _ na (k8 _ _ na e))
      · rw [upd_same, List.map_append, List.map_append]; rfl
      · rcases List.mem_append.mp he with he | he
        · obtain ⟨a1, a2, a3, a4⟩ := hE e he
          exact ⟨by rw [upd_ne a2]; exact k10 _ _ a3 (k9 _ _ a3 a1), a2, a3, a4⟩
        · rw [List.mem_singleton.mp he]
          exact ⟨by rw [upd_ne nqD]; exact upd_same, nqD, nqb, gy v hv⟩
      · rw [List.map_append, hn, List.take_add_one, hx]; rfl
    · rintro H8 ⟨M8, l8, g8, k8, L, hL, hE, hn⟩
      refine ⟨Dl, L.map (·.1), L.map (·.2), rfl, SqL.of hL, paired_of L fun e he => SqT.of (hE e he).1, fun r hr' => ?_⟩
      obtain ⟨nr, G9, k9⟩ := g8.new (o := .dK (mergeK [] (L.map (·.2)))) hr'
      refine q7 _ _ M8 (by omega) (k8.trans k9) G9 ⟨r, _, rfl, nr, upd_same, fun z hz => ?_⟩
      have hz' : V.str z ∈ L.map (fun e => kV e.2.1) := by rw [hn, List.take_of_length_le (Nat.le_refl _)]; exact hz
      obtain ⟨e, he, ee⟩ := List.mem_map.mp hz'
      have ek : e.2.1 = .inr z := by
        rcases e with ⟨_, k | k, _⟩
        · cases ee
        · cases ee; rfl
      obtain ⟨v, h1, j, h2⟩ := merge_val (G := fun v => ∃ j, v = .int j) (kvs := L.map (·.2)) (acc := []) (k := .inr z) (fun kv hk => by
        obtain ⟨e', he', rfl⟩ := List.mem_map.mp hk
        exact (hE e' he').2.2.2) (Or.inl (List.mem_map.mpr ⟨e.2, List.mem_map.mpr ⟨e, he, rfl⟩, ek⟩))
      exact ⟨j, by rw [h1, h2]⟩
  · have kk : Keep b H H6 := fun a o na e => by
      have npa : a ≠ p := fresh a o na e
      exact q6 _ _ na npa (k5 _ _ na (q4 _ _ na npa (q3 _ _ na npa (q2 _ _ na npa (k1 _ _ na e)))))
    have vv := vw2 vf (.ref lf) vk vc
    exact sk_ret (m := 0) (P := fun x _ => x = .ref p) g6 (by omega) (ek_v rfl fun _ _ => rfl) fun x H7 M7 l7 k7 g7 e => by
      subst e
      have d7 := k7 _ _ np' d6
      obtain ⟨lc, cs, rfl, nlc, hlc, hcs⟩ := p6
      have nlb : lc ≠ b := fun e => nlc (by rw [e]; simp)
      have nlfb : lf ≠ b := fun e => nf (by rw [e]; simp)
      have nlfp : lf ≠ p := fun e => nf (by rw [e]; simp)
      have less : ∀ a ∈ [b], a ∈ [b, p] := fun a ha => by rw [List.mem_singleton.mp ha]; simp
      refine hq H7 p M7 (by omega) (kk.trans k7) g7.bag ⟨_, vf, .ref lf, vk, lc, cs, d7, np, vv.1, vv.2.2.1, vv.2.1, vv.2.2.2, ?_, ?_, fun m => nlc (less _ m), k7 _ _ nlb hlc, lf, xf, rfl, fun m => nf (less _ m), k7 _ _ nlfb (q6 _ _ nlfb nlfp hlf), ⟨fun v hv => ?_, lnf⟩⟩
      · exact Ls_less less (ls_stb okN_stb _ _ _ p2 ((((k3.trans k4).trans (kb hb k5)).trans k6).trans (kb hb k7)))
      · exact Ls_less less (ls_stb okN_stb _ _ _ p4 (((kb hb k5).trans k6).trans (kb hb k7)))
      · obtain ⟨z, rfl, h1, h2⟩ := gf v hv
        exact ⟨z, rfl, h1, h2, hcs z hv⟩
end
end KC

set_option Elab.async false
set_option linter.all false
set_option maxRecDepth 100000
set_option maxHeartbeats 4000000
namespace LF
open PySem PySem.Spec PyProof.Rows L2 TL KC
def parts (z : Str) : List Str := if z = "" then [] else PySem.Txt.split z c_sl
theorem isNm_len {z : Str} (h : isNm z = true) : 1 ≤ z.length ∧ z.length ≤ 8 := by
  unfold isNm at h
  rw [Bool.and_eq_true, decide_eq_true_eq] at h
  exact h.1
def low (z : Str) : Prop := ∀ c ∈ z.cps.toList, c ∈ letters.cps.toList
theorem isNm_iff {z : Str} : isNm z = true ↔ (1 ≤ z.length ∧ z.length ≤ 8) ∧ low z := by
  unfold isNm low
  rw [Bool.and_eq_true, decide_eq_true_eq, List.all_eq_true]
  simp only [decide_eq_true_eq]
theorem sl_not_low : (47 : Nat) ∉ letters.cps.toList := by decide +kernel
theorem isNm_sl {z : Str} (h : isNm z = true) : 47 ∉ tl z := fun hm => sl_not_low ((isNm_iff.mp h).2 _ hm)
theorem tl_sl : tl c_sl = [47] := by decide +kernel
theorem kind_sl : c_sl.cps.all (· < 256) = true := by decide +kernel
theorem len_app (x y : Str) : (x ++ y).length = x.length + y.length := by
  rw [len_tl, len_tl, len_tl, tl_append, List.length_append]
theorem low_app {x y : Str} (hx : low x) (hy : low y) : low (x ++ y) := fun c hc => by
  have e := tl_append x y
  have hc' : c ∈ tl (x ++ y) := hc
  rw [e] at hc'
  exact (List.mem_append.mp hc').elim (hx c) (hy c)
theorem low_sub {x y : Str} (hx : low x) (h : ∀ c ∈ y.cps.toList, c ∈ x.cps.toList) : low y := fun c hc => hx c (h c hc)
theorem cut_mem (z : Str) (lo hi : Option Int) : ∀ c ∈ (cutS z lo hi).cps.toList, c ∈ z.cps.toList := fun c hc => by
  unfold cutS at hc
  exact List.mem_of_mem_drop (List.mem_of_mem_take (by simpa using hc))
theorem cut_to (z : Str) (i : Nat) (h : i ≤ z.length) : (cutS z none (some (i : Int))).length = i := by
  have e : z.cps.toList.length = z.length := by simp [Str.length]
  unfold cutS
  rw [HT.sIx_none, HT.sIx_nat]
  show (((z.cps.toList.drop 0).take (min i z.length - 0)).toArray).size = i
  rw [List.size_toArray, List.length_take, List.length_drop]
  omega
theorem cut_from (z : Str) (i : Nat) (h : i ≤ z.length) : (cutS z (some (i : Int)) none).length = z.length - i := by
  have e : z.cps.toList.length = z.length := by simp [Str.length]
  unfold cutS
  rw [HT.sIx_none, HT.sIx_nat]
  show (((z.cps.toList.drop (min i z.length)).take (z.length - min i z.length)).toArray).size = _
  rw [List.size_toArray, List.length_take, List.length_drop]
  omega
theorem join_nil_tl (ss : List Str) : tl (PySem.Txt.join "" ss) = (ss.map tl).flatten := by
  rw [join_eq, tl_join]
  have e : tl ("" : Str) = [] := by decide +kernel
  rw [e]
  generalize ss.map tl = l
  induction l with
  | nil => rfl
  | cons a l ih =>
    cases l with
    | nil => simp [joinL]
    | cons b l =>
      show a ++ ([] ++ joinL [] (b :: l)) = _
      rw [ih]; simp
/-- what a word is: a stem with one more letter -/
theorem stem_of {ss : List Str} (h : ∀ s ∈ ss, ∃ c, s = ⟨#[c]⟩ ∧ c ∈ letters.cps.toList) : (PySem.Txt.join "" ss).length = ss.length ∧ low (PySem.Txt.join "" ss) := by
  have e := join_nil_tl ss
  constructor
  · rw [len_tl, e]
    clear e
    induction ss with
    | nil => rfl
    | cons a l ih =>
      obtain ⟨c, rfl, _⟩ := h a List.mem_cons_self
      have := ih fun s hs => h s (List.mem_cons_of_mem _ hs)
      have e1 : (tl (⟨#[c]⟩ : Str)).length = 1 := rfl
      simp only [List.map_cons, List.flatten_cons, List.length_append, List.length_cons, e1, this]
      omega
  · intro c hc
    have hc' : c ∈ tl (PySem.Txt.join "" ss) := hc
    rw [e, List.mem_flatten] at hc'
    obtain ⟨l, hl, hcl⟩ := hc'
    obtain ⟨s, hs, rfl⟩ := List.mem_map.mp hl
    obtain ⟨d, rfl, hd⟩ := h s hs
    have : c ∈ [d] := hcl
    rw [List.mem_singleton.mp this]
    exact hd
theorem split_names {ns : List Str} (hne : ns ≠ []) (h : ∀ n ∈ ns, isNm n = true) : PySem.Txt.split (PySem.Txt.join c_sl ns) c_sl = ns :=
  split_join tl_sl kind_sl hne fun p hp => isNm_sl (h p hp)
theorem join_nil0 : PySem.Txt.join c_sl [] = "" := by decide +kernel
theorem join_ne {ns : List Str} (hne : ns ≠ []) (h : ∀ n ∈ ns, isNm n = true) : PySem.Txt.join c_sl ns ≠ "" := fun e => by
  have h1 := split_names hne h
  rw [e] at h1
  have h2 : PySem.Txt.split "" c_sl = [("" : Str)] := by decide +kernel
  rw [h2] at h1
  have h3 := h "" (by rw [← h1]; exact List.mem_singleton_self _)
  exact absurd h3 (by decide +kernel)
theorem parts_join {ns : List Str} (h : ∀ n ∈ ns, isNm n = true) : parts (PySem.Txt.join c_sl ns) = ns := by
  unfold parts
  by_cases hne : ns = []
  · subst hne
    rw [join_nil0, if_pos rfl]
  · rw [if_neg (join_ne hne h), split_names hne h]
theorem isPt_join {ns : List Str} (h : ∀ n ∈ ns, isNm n = true) : isPt (PySem.Txt.join c_sl ns) = true := by
  unfold isPt
  by_cases hne : ns = []
  · subst hne
    rw [join_nil0]; rfl
  · rw [split_names hne h, List.all_eq_true.mpr h, Bool.or_true]
theorem join_len_le {ns : List Str} (h : ∀ n ∈ ns, isNm n = true) : (PySem.Txt.join c_sl ns).length ≤ 9 * ns.length := by
  rw [len_tl, join_eq, tl_join, tl_sl]
  induction ns with
  | nil => exact Nat.zero_le _
  | cons a l ih =>
    have ha := (isNm_len (h a List.mem_cons_self)).2
    have e : (tl a).length = a.length := (len_tl a).symm
    have il := ih fun n hn => h n (List.mem_cons_of_mem _ hn)
    cases l with
    | nil =>
      show (tl a).length ≤ _
      rw [List.length_singleton]; omega
    | cons b l =>
      show (tl a ++ ([47] ++ joinL [47] ((b :: l).map tl))).length ≤ _
      have e1 : ([47] : List Nat).length = 1 := rfl
      simp only [List.length_append, List.length_cons, e1] at il ⊢
      try simp only [List.length_nil] at il ⊢
      omega
theorem joinL_app (S : List Nat) : ∀ a b : List (List Nat), a ≠ [] → b ≠ [] → joinL S (a ++ b) = joinL S a ++ (S ++ joinL S b)
  | [], _, h, _ => absurd rfl h
  | [p], [], _, h => absurd rfl h
  | [p], q :: r, _, _ => rfl
  | p :: q :: r, b, _, hb => by
    show p ++ (S ++ joinL S ((q :: r) ++ b)) = (p ++ (S ++ joinL S (q :: r))) ++ _
    rw [joinL_app S (q :: r) b (by simp) hb]
    simp only [List.append_assoc]
theorem join_app {a b : List Str} (ha : a ≠ []) (hb : b ≠ []) : PySem.Txt.join c_sl a ++ "/" ++ PySem.Txt.join c_sl b = PySem.Txt.join c_sl (a ++ b) := by
  apply ext_tl
  rw [tl_append, tl_append, join_eq, join_eq, join_eq, tl_join, tl_join, tl_join, List.map_append, joinL_app _ _ _ (by simpa using ha) (by simpa using hb), List.append_assoc]
  rfl
/-- a path: names joined -/
def Pth (k : Nat) (z : Str) : Prop := ∃ ns : List Str, z = PySem.Txt.join c_sl ns ∧ ns.length ≤ k ∧ ∀ n ∈ ns, isNm n = true
def jn (a n : Str) : Str := if a = "" then n else a ++ "/" ++ n
theorem join_one (n : Str) : PySem.Txt.join c_sl [n] = n := by
  apply ext_tl
  rw [join_eq, tl_join]
  rfl
theorem Pth.root {k : Nat} : Pth k "" := ⟨[], join_nil0.symm, Nat.zero_le _, fun _ h => nomatch h⟩
theorem Pth.jn {k : Nat} {a n : Str} (h : Pth k a) (hn : isNm n = true) : Pth (k + 1) (jn a n) := by
  obtain ⟨ns, rfl, hl, hs⟩ := h
  refine ⟨ns ++ [n], ?_, by rw [List.length_append]; simp; omega, fun m hm => ?_⟩
  · unfold LF.jn
    by_cases hne : ns = []
    · subst hne
      rw [if_pos join_nil0]
      exact (join_one n).symm
    · rw [if_neg (join_ne hne hs), ← join_app hne (by simp), join_one]
  · rcases List.mem_append.mp hm with hm | hm
    · exact hs m hm
    · rw [List.mem_singleton.mp hm]; exact hn
theorem Pth.pt {k : Nat} {z : Str} (h : Pth k z) : isPt z = true := by
  obtain ⟨ns, rfl, _, hs⟩ := h
  exact isPt_join hs
theorem Pth.len {k : Nat} {z : Str} (h : Pth k z) : z.length ≤ 9 * k := by
  obtain ⟨ns, rfl, hl, hs⟩ := h
  have := join_len_le hs
  omega
theorem Pth.more {k m : Nat} {z : Str} (h : Pth k z) (hk : k ≤ m) : Pth m z := by
  obtain ⟨ns, e, hl, hs⟩ := h
  exact ⟨ns, e, by omega, hs⟩
end LF

set_option Elab.async false
set_option linter.all false
set_option maxRecDepth 100000
set_option maxHeartbeats 4000000
namespace LF
open PySem PySem.Spec PyProof.Rows L2
open Evl (Ev EvL EvU EvT EvA EvO Ex sq_of st_of)
/-- a list, of so many items at most -/
def LsM (G : V → Hp → Prop) (B : List Addr) (n : Nat) : V → Hp → Prop := fun x H => ∃ p xs, x = .ref p ∧ p ∉ B ∧ H p = some (.lst xs) ∧ (∀ v ∈ xs, G v H) ∧ xs.length ≤ n
/-- a list that is not empty -/
def LsN (G : V → Hp → Prop) (B : List Addr) : V → Hp → Prop := fun x H => ∃ p xs, x = .ref p ∧ p ∉ B ∧ H p = some (.lst xs) ∧ (∀ v ∈ xs, G v H) ∧ 1 ≤ xs.length ∧ xs.length ≤ 100
section
variable {K : PySem.W.Frag} {b : Addr} {B : List Addr} {σ : L2.St} {H H' : Hp} {ta tb te : TE} {tr : TA} {tt : TT} {x y z v : V} {P P' : V → Hp → Prop} {G : V → Hp → Prop} {n n' m m' N : Nat}
theorem lsm_stb (hG : Stb B G) : Stb B (LsM G B n) := fun x H H' ⟨p, xs, e, hp, h, g, l⟩ k => ⟨p, xs, e, hp, k _ _ hp h, fun v hv => hG v H H' (g v hv) k, l⟩
theorem ls_lsm (h : Ls G B n x H) : LsM G B n x H := by
  obtain ⟨p, xs, e, hp, h, g, l⟩ := h
  exact ⟨p, xs, e, hp, h, g, by omega⟩
theorem ls_lsn (h : Ls G B n x H) (h1 : 1 ≤ n ∧ n ≤ 100) : LsN G B x H := by
  obtain ⟨p, xs, e, hp, h, g, l⟩ := h
  exact ⟨p, xs, e, hp, h, g, by omega, by omega⟩
theorem lsm_w {G' : V → Hp → Prop} (h : LsM G B n x H) (hn : n ≤ n') (w : ∀ v, G v H → G' v H) : LsM G' B n' x H := by
  obtain ⟨p, xs, e, hp, h, g, l⟩ := h
  exact ⟨p, xs, e, hp, h, fun v hv => w v (g v hv), by omega⟩
theorem ls_w {G' : V → Hp → Prop} (h : Ls G B n x H) (w : ∀ v, G v H → G' v H) : Ls G' B n x H := by
  obtain ⟨p, xs, e, hp, h, g, l⟩ := h
  exact ⟨p, xs, e, hp, h, fun v hv => w v (g v hv), l⟩
theorem mem_cut {xs : List V} {lo hi : Option Int} {v : V} (h : v ∈ cutV xs lo hi) : v ∈ xs := List.mem_of_mem_drop (List.mem_of_mem_take h)
theorem len_cut {xs : List V} {lo hi : Option Int} : (cutV xs lo hi).length ≤ xs.length := by
  unfold cutV
  rw [List.length_take, List.length_drop]; omega
theorem ek_if (ht : EKT b B m tt σ H) (ha : EK b B m' ta σ H P) (hc : EK b B m' tb σ H P) : EK b B (m + m') (tIf tt ta tb) σ H P := fun N H1 l k g Q q =>
  ht N H1 (by omega) k g _ fun c H2 M lm k2 g2 => by
    have q' : ∀ x H3 M3, M3 ≤ M + m' → Keep b H2 H3 → BgAt b B M3 H3 → P x H3 → Q x H3 := fun x H3 M3 l3 k3 g3 p => q x H3 M3 (by omega) (k2.trans k3) g3 p
    cases c with
    | true => exact iteT (ha M H2 (by omega) (k.trans k2) g2 Q q')
    | false => exact iteF (hc M H2 (by omega) (k.trans k2) g2 Q q')
/-- a test that is known -/
theorem ek_ifB {c : Bool} (ht : ∀ N H1, Keep b H H1 → BgAt b B N H1 → ∀ Q : Bool → Hp → Prop, Q c H1 → tt σ H1 Q) (ha : c = true → EK b B m ta σ H P) (hc : c = false → EK b B m tb σ H P) : EK b B m (tIf tt ta tb) σ H P := fun N H1 l k g Q q =>
  ht N H1 k g _ (by
    cases c with
    | true => exact iteT (ha rfl N H1 l k g Q q)
    | false => exact iteF (hc rfl N H1 l k g Q q))
theorem ek_takeM {i : Nat} {E : XK} {c : Int} (hi : σ[i]? = some (some (.ref b))) (h : EK b B m te σ H (fun x _ => x = .int c)) (h1 : 1 ≤ c ∧ c < 1000000) : EK b B (m + 1) (tCall spTakeC [] E (tCons (tVar i) (tCons te tNil))) σ H (fun x _ => ∃ r, x = .int r ∧ 0 ≤ r ∧ r < c) := fun N H1 l k g Q q =>
  ⟨_, hi, h N H1 (by omega) k g _ fun x H2 M lm k2 g2 e => by
    subst e
    exact ⟨b, c, M, rfl, g2.bag, by omega, h1.1, h1.2, fun H' r k' g' r0 r1 => q _ _ (M + 1) (by omega) (k2.trans k') (g2.keep k' g') ⟨r, rfl, r0, r1⟩⟩⟩
theorem ek_pickN {i : Nat} {E : XK} (hb : b ∈ B) (hG : Stb B G) (hi : σ[i]? = some (some (.ref b))) (h : EK b B m te σ H (LsN G B)) : EK b B (m + 1) (tCall (spPickC K) [] E (tCons (tVar i) (tCons te tNil))) σ H G := fun N H1 l k g Q q =>
  ⟨_, hi, h N H1 (by omega) k g _ fun x H2 M lm k2 g2 p => by
    obtain ⟨l1, xs, rfl, n1, hl, gx, lx, lz⟩ := p
    refine ⟨b, l1, xs, M, rfl, g2.bag, by omega, fun e => n1 (e ▸ hb), SqL.of hl, by omega, by omega, fun H' v k' g' hv => q _ _ (M + 1) (by omega) (k2.trans k') (g2.keep k' g') (hG _ _ _ (gx v hv) (kb hb k'))⟩⟩
/-- one of a list that may change later -/
theorem ek_pickL {i j : Nat} {E : XK} {l0 : Addr} {xs : List V} (hi : σ[i]? = some (some (.ref b))) (hj : σ[j]? = some (some (.ref l0))) (hl : H l0 = some (.lst xs)) (nl : l0 ≠ b) (h1 : 1 ≤ xs.length) (h2 : xs.length < 100000) :
    EK b B 1 (tCall (spPickC K) [] E (tCons (tVar i) (tCons (tVar j) tNil))) σ H (fun x _ => x ∈ xs) := fun N H1 l k g Q q =>
  ⟨_, hi, _, hj, b, l0, xs, N, rfl, g.bag, by omega, nl, SqL.of (k _ _ nl hl), h1, by omega, fun H' v k' g' hv => q _ _ (N + 1) (Nat.le_refl _) k' (g.keep k' g') hv⟩
theorem ek_dgetL {i : Nat} {p : Addr} {kvs : List (Key × V)} {key : Str} (hb : b ∈ B) (hP : Stb B P) (hi : σ[i]? = some (some (.ref p))) (hd : H p = some (.dK kvs)) (np : p ≠ b) (hv : valV kvs (.inr key) = some v) (hl : P v H) : EK b B 0 (tDGet (tVar i) (tC (.str key))) σ H P := fun N H1 l k g Q q => by
  have dg := DGet.k (k := .inr key) (k _ _ np hd)
  rw [hv] at dg
  exact ⟨.ref p, hi, p, v, rfl, dg, q v H1 N (Nat.le_refl _) (Keep.refl b H1) g (hP _ _ _ hl (kb hb k))⟩
/-- a comprehension over range, each item drawn -/
theorem ek_lcR {G : List Addr → V → Hp → Prop} {j : Nat} {c : Int} (hr : EK b B m tb σ H (fun x _ => ∃ r, x = .int r ∧ 0 ≤ r ∧ r < c)) (hc : c ≤ 100) (hG : ∀ D, D ∉ B → Stb (B ++ [D]) (G (B ++ [D])))
    (he : ∀ (i : Nat) D H1, D ∉ B → D ≠ b → Keep b H H1 → H D = none → EK b (B ++ [D]) m' te ((wipe σ [j]).set j (some (.int (0 + (i : Int))))) H1 (G (B ++ [D]))) :
    EK b B (m + c.toNat * m') (tLc (iRng1 (tCons tb tNil)) (gName j) tYes te [j]) σ H (fun x H' => ∃ p xs, x = .ref p ∧ p ∉ B ∧ H' p = some (.lst xs) ∧ (∀ v ∈ xs, G (B ++ [p]) v H') ∧ (xs.length : Int) < c) := fun N H1 l k g Q q =>
  hr N H1 (by omega) k g _ fun x H2 M lm k2 g2 ⟨r, e, r0, r1⟩ => by
    subst e
    refine ⟨r, rfl, by omega, by omega, fun D hD => ?_⟩
    obtain ⟨nD, g3, k3⟩ := g2.new (o := .lst []) hD
    have nDb : D ≠ b := fun e => nD (by rw [e]; exact g.inB)
    have hD0 : H D = none := by
      cases hh : H D with
      | none => rfl
      | some o => rw [(k.trans k2) _ _ nDb hh] at hD; cases hD
    have hs : ∀ i : Nat, (i : Int) < r → (i + 1) * m' ≤ c.toNat * m' := fun i hi => Nat.mul_le_mul_right _ (by omega)
    refine lc_range (lo := 0) (fun i H' => ∃ M', M' ≤ M + i * m' ∧ BgAt b (B ++ [D]) M' H' ∧ Keep b H2 H' ∧ ∃ xs, H' D = some (.lst xs) ∧ (∀ v ∈ xs, G (B ++ [D]) v H') ∧ xs.length = i) ?_ ?_ ?_
    · refine ⟨M, by omega, ⟨g3.bag, by simp [g3.inB], fun a ha => ?_⟩, k3, [], upd_same, (fun v hv => nomatch hv), rfl⟩
      rcases List.mem_append.mp ha with ha | ha
      · exact g3.live a ha
      · rw [List.mem_singleton.mp ha]; exact ⟨_, upd_same⟩
    · rintro i H3 hi ⟨M3, l3, g4, k4, xs, hx, gx, lx⟩
      have hi' := hs i (by omega)
      have e1 : (i + 1) * m' = i * m' + m' := Nat.succ_mul _ _
      refine ⟨wipe_set, ?_⟩
      refine he i D H3 nD nDb ((k.trans k2).trans k4) hD0 M3 H3 (by omega) (Keep.refl b H3) g4 _ fun y H4 M4 l4 k5 g5 py => ?_
      have hx4 := k5 _ _ nDb hx
      have kk : KeepB (B ++ [D]) H4 (upd H4 D (.lst (xs ++ [y]))) := fun a o na e => by
        rw [upd_ne (fun z => na (by rw [z]; simp))]; exact e
      refine ⟨xs, hx4, Evl.sz_lt (by omega), M4, by omega, ⟨?_, g5.inB, fun a ha => ?_⟩, keep_upd hD (k4.trans k5), xs ++ [y], upd_same, fun v hv => ?_, by rw [List.length_append, lx]; rfl⟩
      · obtain ⟨d, x, n, e, rr⟩ := g5.bag
        exact ⟨d, x, n, by rw [upd_ne nDb.symm]; exact e, rr⟩
      · obtain ⟨u, hu⟩ := g5.live a ha
        by_cases e : a = D
        · subst e; exact ⟨_, upd_same⟩
        · exact ⟨u, by rw [upd_ne e]; exact hu⟩
      · rcases List.mem_append.mp hv with hv | hv
        · exact hG D nD _ _ _ (hG D nD _ _ _ (gx v hv) (kb g4.inB k5)) kk
        · rw [List.mem_singleton.mp hv]; exact hG D nD _ _ _ py kk
    · rintro H3 ⟨M3, l3, g4, k4, xs, hx, gx, lx⟩
      have := Nat.mul_le_mul_right m' (show r.toNat ≤ c.toNat by omega)
      exact q _ _ M3 (by omega) (k2.trans k4) ⟨g4.bag, g.inB, fun a ha => g4.live a (by simp [ha])⟩ ⟨D, xs, rfl, nD, hx, gx, by omega⟩
/-- a comprehension over a list, each item drawn -/
theorem ek_lcL {G : List Addr → V → Hp → Prop} {Gi : V → Hp → Prop} {j : Nat} (hb : b ∈ B) (hGi : Stb B Gi) (hr : EK b B m tb σ H (LsM Gi B n)) (hc : n ≤ 100) (hG : ∀ D, D ∉ B → Stb (B ++ [D]) (G (B ++ [D])))
    (he : ∀ (x : V) D H1, D ∉ B → D ≠ b → Keep b H H1 → H D = none → Gi x H1 → EK b (B ++ [D]) m' te ((wipe σ [j]).set j (some x)) H1 (G (B ++ [D]))) (hGi2 : ∀ x H H' D, Gi x H → D ∉ B → KeepB (B ++ [D]) H H' → Gi x H') :
    EK b B (m + n * m') (tLc (iList K tb) (gName j) tYes te [j]) σ H (fun x H' => ∃ p xs, x = .ref p ∧ p ∉ B ∧ H' p = some (.lst xs) ∧ (∀ v ∈ xs, G (B ++ [p]) v H') ∧ xs.length ≤ n) := fun N H1 l k g Q q =>
  hr N H1 (by omega) k g _ fun x H2 M lm k2 g2 ⟨l0, ys, e, nl, hl, gi, ly⟩ => by
    subst e
    refine ⟨l0, rfl, ⟨ys, SqL.of hl⟩, fun D hD => ?_⟩
    obtain ⟨nD, g3, k3⟩ := g2.new (o := .lst []) hD
    have nDb : D ≠ b := fun e => nD (by rw [e]; exact g.inB)
    have nlb : l0 ≠ b := fun e => nl (by rw [e]; exact hb)
    have nlD : l0 ≠ D := fun e => by rw [e, hD] at hl; cases hl
    have hD0 : H D = none := by
      cases hh : H D with
      | none => rfl
      | some o => rw [(k.trans k2) _ _ nDb hh] at hD; cases hD
    have hs : ∀ i : Nat, i < ys.length → (i + 1) * m' ≤ n * m' := fun i hi => Nat.mul_le_mul_right _ (by omega)
    have kb1 : ∀ {H3}, Keep b H2 H3 → KeepB (B ++ [D]) H2 H3 := fun k4 a o na e => k4 a o (fun z => na (by rw [z]; simp [hb])) e
    refine lc_it (walk_list (xs := ys)) (fun i H' => ∃ M', M' ≤ M + i * m' ∧ BgAt b (B ++ [D]) M' H' ∧ Keep b H2 H' ∧ ∃ xs, H' D = some (.lst xs) ∧ (∀ v ∈ xs, G (B ++ [D]) v H') ∧ xs.length = i) ?_ (fun i H' _ ⟨_, _, _, k4, _⟩ => SqL.of (k4 _ _ nlb hl)) ?_ ?_
    · refine ⟨M, by omega, ⟨g3.bag, by simp [g3.inB], fun a ha => ?_⟩, k3, [], upd_same, (fun v hv => nomatch hv), rfl⟩
      rcases List.mem_append.mp ha with ha | ha
      · exact g3.live a ha
      · rw [List.mem_singleton.mp ha]; exact ⟨_, upd_same⟩
    · rintro i x H3' H3 hi ⟨M3, l3, g4, k4, xs, hx, gx, lx⟩ ⟨rfl, hxi⟩
      have hi' := hs i hi
      have e1 : (i + 1) * m' = i * m' + m' := Nat.succ_mul _ _
      have gx3 : Gi x H3 := hGi2 _ _ _ D (gi x (List.mem_of_getElem? hxi)) nD (kb1 k4)
      refine ⟨wipe_set, ?_⟩
      refine he x D H3 nD nDb ((k.trans k2).trans k4) hD0 gx3 M3 H3 (by omega) (Keep.refl b H3) g4 _ fun y H4 M4 l4 k5 g5 py => ?_
      have hx4 := k5 _ _ nDb hx
      have kk : KeepB (B ++ [D]) H4 (upd H4 D (.lst (xs ++ [y]))) := fun a o na e => by
        rw [upd_ne (fun z => na (by rw [z]; simp))]; exact e
      refine ⟨xs, hx4, Evl.sz_lt (by omega), M4, by omega, ⟨?_, g5.inB, fun a ha => ?_⟩, keep_upd hD (k4.trans k5), xs ++ [y], upd_same, fun v hv => ?_, by rw [List.length_append, lx]; rfl⟩
      · obtain ⟨d, x, n, e, rr⟩ := g5.bag
        exact ⟨d, x, n, by rw [upd_ne nDb.symm]; exact e, rr⟩
      · obtain ⟨u, hu⟩ := g5.live a ha
        by_cases e : a = D
        · subst e; exact ⟨_, upd_same⟩
        · exact ⟨u, by rw [upd_ne e]; exact hu⟩
      · rcases List.mem_append.mp hv with hv | hv
        · exact hG D nD _ _ _ (hG D nD _ _ _ (gx v hv) (kb g4.inB k5)) kk
        · rw [List.mem_singleton.mp hv]; exact hG D nD _ _ _ py kk
    · rintro H3 ⟨M3, l3, g4, k4, xs, hx, gx, lx⟩
      have := Nat.mul_le_mul_right m' (show ys.length ≤ n by omega)
      exact q _ _ M3 (by omega) (k2.trans k4) ⟨g4.bag, g.inB, fun a ha => g4.live a (by simp [ha])⟩ ⟨D, xs, rfl, nD, hx, gx, by omega⟩
variable {D : Ends} {tz tu tw : TS}
theorem sk_if (g : BgAt b B N H) (hN : N + m ≤ 900000) (h : EKT b B m tt σ H) (kt : ∀ H2 M, M ≤ N + m → Keep b H H2 → BgAt b B M H2 → tu D σ H2) (kf : ∀ H2 M, M ≤ N + m → Keep b H H2 → BgAt b B M H2 → tw D σ H2) : tIfS tt tu tw D σ H := h N H hN (Keep.refl b H) g _ fun c H2 M lm k2 g2 => by
  cases c with
  | true => exact iteT (kt H2 M lm k2 g2)
  | false => exact iteF (kf H2 M lm k2 g2)
theorem sk_asg1 {i : Nat} (g : BgAt b B N H) (hN : N + m ≤ 900000) (h : EK b B m te σ H P) (k : ∀ x H1 M, M ≤ N + m → Keep b H H1 → BgAt b B M H1 → P x H1 → D.nx (σ.set i (some x)) H1) : tAsg te (gName i) D σ H := h N H hN (Keep.refl b H) g _ k
theorem sk_rng {c : Int} {R : It → Hp → Prop} (g : BgAt b B N H) (hN : N + m ≤ 900000) (hc : c ≤ 100000) (h : EK b B m te σ H (fun x _ => ∃ r, x = .int r ∧ 0 ≤ r ∧ r < c)) (k : ∀ r H2 M, M ≤ N + m → Keep b H H2 → BgAt b B M H2 → 0 ≤ r → r < c → R (Itr 0 r.toNat) H2) :
    iRng1 (tCons te tNil) σ H R := h N H hN (Keep.refl b H) g _ fun x H2 M lm k2 g2 ⟨r, e, r0, r1⟩ => by
  subst e
  exact ⟨r, rfl, by omega, by omega, k r H2 M lm k2 g2 r0 r1⟩
/-- d[y] = e, d among what may change -/
theorem sk_dput1 {i j : Nat} {p : Addr} {key : Key} {kvs : List (Key × V)} (g : BgAt b B N H) (hN : N + m ≤ 900000) (hp : p ∈ B) (np : p ≠ b) (hi : σ[i]? = some (some (.ref p))) (hj : σ[j]? = some (some (kV key))) (hd : H p = some (.dK kvs)) (hl : kvs.length < 1000)
    (hP : Stb B P) (h : EK b B m te σ H P) (k : ∀ v H2 M, M ≤ N + m → BgAt b B M H2 → KeepB B H H2 → (∀ a o, a ≠ b → a ≠ p → H a = some o → H2 a = some o) → H2 p = some (.dK (putK kvs key v)) → P v H2 → D.nx σ H2) :
    sDPut (tVar i) (tVar j) te D σ H :=
  h N H hN (Keep.refl b H) g _ fun v H1 M lm k1 g1 pv => ⟨_, hi, _, hj, p, _, rfl, DPut.k (k := key) (k1 _ _ np hd) (Nat.lt_of_lt_of_le hl (by decide)), by
    have kk : KeepB B H1 (upd H1 p (.dK (putK kvs key v))) := fun a u n e => by
      rw [upd_ne (fun z => n (by rw [z]; exact hp))]; exact e
    refine k v _ M lm ⟨?_, g1.inB, fun a ha => ?_⟩ ((kb g1.inB k1).trans kk) (fun a o n1 n2 e => by rw [upd_ne n2]; exact k1 a o n1 e) upd_same (hP _ _ _ pv kk)
    · obtain ⟨d, x, n, e, r⟩ := g1.bag
      exact ⟨d, x, n, by rw [upd_ne np.symm]; exact e, r⟩
    · by_cases e : a = p
      · subst e; exact ⟨_, upd_same⟩
      · obtain ⟨u, hu⟩ := g1.live a ha
        exact ⟨u, by rw [upd_ne e]; exact hu⟩⟩
/-- xs.append(e), xs among what may change -/
theorem sk_appB {i : Nat} {l : Addr} {xs : List V} (g : BgAt b B N H) (hN : N + m ≤ 900000) (hp : l ∈ B) (np : l ≠ b) (hi : σ[i]? = some (some (.ref l))) (hd : H l = some (.lst xs)) (hl : xs.length < 1000)
    (hP : Stb B P) (h : EK b B m te σ H P) (k : ∀ v H2 M, M ≤ N + m → BgAt b B M H2 → KeepB B H H2 → (∀ a o, a ≠ b → a ≠ l → H a = some o → H2 a = some o) → H2 l = some (.lst (xs ++ [v])) → P v H2 → D.nx σ H2) :
    tDrop (tBM K "list" rAppend (tVar i) (tCons te tNil)) D σ H :=
  ⟨_, hi, Or.inl ⟨rfl, _, SqL.of hd⟩, h N H hN (Keep.refl b H) g _ fun v H1 M lm k1 g1 pv => ⟨l, xs, v, rfl, rfl, k1 _ _ np hd, Evl.sz_lt (by omega), by
    have kk : KeepB B H1 (upd H1 l (.lst (xs ++ [v]))) := fun a u n e => by
      rw [upd_ne (fun z => n (by rw [z]; exact hp))]; exact e
    refine k v _ M lm ⟨?_, g1.inB, fun a ha => ?_⟩ ((kb g1.inB k1).trans kk) (fun a o n1 n2 e => by rw [upd_ne n2]; exact k1 a o n1 e) upd_same (hP _ _ _ pv kk)
    · obtain ⟨d, x, n, e, r⟩ := g1.bag
      exact ⟨d, x, n, by rw [upd_ne np.symm]; exact e, r⟩
    · by_cases e : a = l
      · subst e; exact ⟨_, upd_same⟩
      · obtain ⟨u, hu⟩ := g1.live a ha
        exact ⟨u, by rw [upd_ne e]; exact hu⟩⟩⟩
end
end LF

set_option Elab.async false
set_option linter.all false
set_option maxRecDepth 100000
set_option maxHeartbeats 4000000
namespace KC
open PySem PySem.Spec PyProof.Rows L2 LF
open Evl (Ex sq_of st_of)
def spJoined : Sp := fun vs H Q _ => ∃ a n : Str, vs = [.str a, .str n] ∧ a.length ≤ 10000 ∧ n.length ≤ 10000 ∧ Q (.str (jn a n)) H
/-- an entry of a package -/
def EnK (k : Nat) (kvs : List (Key × V)) : Prop := ∀ kv ∈ kvs, (∃ z, kv.1 = .inr z ∧ Pth k z) ∧ (kv.2 = .non ∨ (∃ i, kv.2 = .int i) ∨ ∃ s, kv.2 = .str s)
theorem EnK.put {k : Nat} {kvs : List (Key × V)} {z : Str} {v : V} (h : EnK k kvs) (hz : Pth k z) (hv : v = .non ∨ (∃ i, v = .int i) ∨ ∃ s, v = .str s) : EnK k (putK kvs (.inr z) v) := fun kv m => by
  rcases mem_put m with e | m
  · rw [e]; exact ⟨⟨z, rfl, hz⟩, hv⟩
  · exact h kv m
theorem EnK.more {k m : Nat} {kvs : List (Key × V)} (h : EnK k kvs) (hk : k ≤ m) : EnK m kvs := fun kv i => by
  obtain ⟨⟨z, e, hz⟩, hv⟩ := h kv i
  exact ⟨⟨z, e, hz.more hk⟩, hv⟩
def spEntries : Sp := fun vs H Q _ => ∃ (b p : Addr) (most : Int) (r : Bool) (N : Nat), vs = [.ref b, .ref p, .int most, .bl r] ∧ BagC H b N ∧ N + 200 ≤ 900000 ∧ Wd [b] p H ∧ 0 ≤ most ∧ most ≤ 20 ∧
  ∀ H' e kvs M, M ≤ N + 200 → Keep b H H' → BagC H' b M → e ≠ b → (∀ a o, a ≠ b → H a = some o → a ≠ e) → H' e = some (.dK kvs) → EnK 30 kvs → kvs.length ≤ 20 → Q (.ref e) H'
abbrev s__law_joined : Stmt := topS 22
abbrev N__law_joined : List Str := ["_law_path", "_law_name"]
theorem sc__law_joined : FnScope ["_law_path", "_law_name"] ["_law_path", "_law_name"] (defScope s__law_joined) := ⟨rfl, rfl, rfl, by decide +kernel, rfl, by decide +kernel, by decide +kernel⟩
abbrev s__law_entries : Stmt := topS 23
abbrev N__law_entries : List Str := ["_law_bag_here", "_law_words_here", "_law_most", "_law_has_references", "_law_folders", "_law_found", "_law_turn", "_law_base", "_law_way", "_law_name", "_law_path", "_law_own_names", "_law_step"]
theorem sc__law_entries : FnScope ["_law_bag_here", "_law_words_here", "_law_most", "_law_has_references", "_law_folders", "_law_found", "_law_turn", "_law_base", "_law_way", "_law_name", "_law_path", "_law_own_names", "_law_step"] ["_law_bag_here", "_law_words_here", "_law_most", "_law_has_references"] (defScope s__law_entries) := ⟨rfl, rfl, rfl, by decide +kernel, rfl, by decide +kernel, by decide +kernel⟩
theorem sif_known {tt : TT} {tu tw : TS} {D : Ends} {σ : L2.St} {H : Hp} {c : Bool} (ht : ∀ Q : Bool → Hp → Prop, Q c H → tt σ H Q) (h1 : c = true → tu D σ H) (h2 : c = false → tw D σ H) : tIfS tt tu tw D σ H := ht _ (by
  cases c with
  | true => exact iteT (h1 rfl)
  | false => exact iteF (h2 rfl))
theorem strs_of {k : Nat} : ∀ {xs : List V}, (∀ v ∈ xs, ∃ z, v = .str z ∧ z.length ≤ k) → ∃ ys : List Str, xs = ys.map V.str ∧ ∀ y ∈ ys, y.length ≤ k
  | [], _ => ⟨[], rfl, fun _ h => nomatch h⟩
  | v :: xs, h => by
    obtain ⟨z, e, hz⟩ := h v List.mem_cons_self
    obtain ⟨ys, e2, hy⟩ := strs_of fun u hu => h u (List.mem_cons_of_mem _ hu)
    exact ⟨z :: ys, by rw [e, e2]; rfl, fun y hy' => by
      rcases List.mem_cons.mp hy' with rfl | hy'
      · exact hz
      · exact hy y hy'⟩
theorem sum_len {k : Nat} : ∀ {ys : List Str}, (∀ y ∈ ys, y.length ≤ k) → (ys.map (·.length)).sum ≤ k * ys.length
  | [], _ => Nat.zero_le _
  | y :: ys, h => by
    have h1 := h y List.mem_cons_self
    have h2 := sum_len fun u hu => h u (List.mem_cons_of_mem _ hu)
    have h3 : (y :: ys).length = ys.length + 1 := rfl
    rw [List.map_cons, List.sum_cons, h3, Nat.mul_succ]; omega
section
variable {P : Program} {w : World} {K : PySem.W.Frag} {mg : Str → Option Value} {base : Heap} {tk1 tk2 : Tok}
theorem ok_joined {f : Addr} {fd : FuncData} (F : Fun K "_law_joined" "_law_joined" s__law_joined f fd) : FnOk P w K mg base CX0 1 f fd ["_law_path", "_law_name"] spJoined := by
  refine F.ok sc__law_joined (fun vs H Q E h => ?_) (fun cdv A outer s H vs Q E hr h => ?_)
  · obtain ⟨a, n, rfl, _⟩ := h
    rfl
  refine ⟨_, (pss_one (ps_ret (pe_ifExp (pt_cmpR op_eq (pv 0) pe_str (nomark _)) (pv 1) (pe_op op_add_str (pe_op op_add_str (pv 0) pe_str) (pv 1))))), ?_⟩
  obtain ⟨a, n, rfl, ha, hn, hq⟩ := h
  have hbig : (100000 : Nat) ≤ sizeLine := by decide
  have c1 : ("/" : Str).length = 1 := by decide +kernel
  unfold jn at hq
  refine ⟨_, rfl, rfl, _, rfl, ?_⟩
  by_cases e : a = ""
  · rw [if_pos e] at hq
    have : decide (V.str a = V.str "") = true := decide_eq_true (by rw [e])
    rw [this]
    exact iteT ⟨_, rfl, hq⟩
  · rw [if_neg e] at hq
    have : decide (V.str a = V.str "") = false := decide_eq_false fun h => e (V.str.inj h)
    rw [this]
    refine iteF ⟨_, rfl, _, _, rfl, rfl, by rw [c1]; omega, _, rfl, _, _, rfl, rfl, by rw [len_app, c1]; omega, hq⟩
theorem ok_entries {f f1 f2 f3 : Addr} {fd fd1 fd2 fd3 : FuncData} (F : Fun K "_law_entries" "_law_entries" s__law_entries f fd) (T : Txt K mg tk1 tk2) (d__law_take : DefAt P w K mg base "_law_take" 1 f1 fd1 ["_law_bag_here", "_law_many"] spTakeC)
    (d__law_pick : DefAt P w K mg base "_law_pick" 2 f2 fd2 ["_law_bag_here", "_law_items"] (spPickC K)) (d__law_joined : DefAt P w K mg base "_law_joined" 1 f3 fd3 ["_law_path", "_law_name"] spJoined) :
    FnOk P w K mg base CX0 3 f fd ["_law_bag_here", "_law_words_here", "_law_most", "_law_has_references"] spEntries := by
  refine F.ok sc__law_entries (fun vs H Q E h => ?_) (fun cdv A outer s H vs Q E hr h => ?_)
  · obtain ⟨b, p, most, r, N, rfl, _⟩ := h
    rfl
  have hu1 := hu_of hr
  refine ⟨_, (pss_cons (ps_par (i := 4) (j := 5) (by rfl) sc__law_entries.nd rfl rfl (by decide) rfl rfl (pa_cons (pe_lst (pa_cons pe_str pa_nil)) (pa_cons pe_dnewK pa_nil)) (by rfl))
    (Evl.pss_cut (ps_for PassesOwn.never rfl (pi_range1 (by rfl) T.n_range (pa_cons (pe_callD d__law_take (hr.mono (by decide)) (pa_cons (pv 0) (pa_cons (pe_op op_add (pv 2) pe_int) pa_nil))) pa_nil)) (pg_name (i := 6) sc__law_entries.nd rfl (Or.inl rfl)) (pss_cons (ps_par (i := 7) (j := 8) (by rfl) sc__law_entries.nd rfl rfl (by decide) rfl rfl (pa_cons (pe_callD d__law_pick (hr.mono (by decide)) (pa_cons (pv 0) (pa_cons (pv 4) pa_nil))) (pa_cons (pe_callD d__law_take (hr.mono (by decide)) (pa_cons (pv 0) (pa_cons pe_int pa_nil))) pa_nil)) (by rfl))
    (pss_cons (ps_set (i := 9) sc__law_entries.nd rfl (Or.inl rfl) (pe_callD d__law_pick (hr.mono (by decide)) (pa_cons (pv 0) (pa_cons (pe_ifExp (pt_cmpR op_lt (pv 8) pe_int (nomark _)) (pe_dget hu1 (pv 1) pe_str (fun _ _ => rfl)) (pe_dget hu1 (pv 1) pe_str (fun _ _ => rfl))) pa_nil))))
    (pss_cons (ps_set (i := 10) sc__law_entries.nd rfl (Or.inl rfl) (pe_callD d__law_joined (hr.mono (by decide)) (pa_cons (pv 7) (pa_cons (pv 9) pa_nil))))
    (pss_cons (ps_if (PW.pt (pw_or (pt_cmp (pc_din hu1 (pv 10) (pv 5))) (pw_or1 (pt_cmpR op_gt (pe_bm PySem.F.plainAttrs_str PySem.F.slot_str_count PySem.F.type_str_count mt_count (pv 10) (pa_cons pe_str pa_nil)) pe_int (nomark _))))) (pss_one ps_continue) pss_nil)
    (pss_one (ps_if (pt_cmpR op_lt (pv 8) pe_int (nomark _)) (pss_one (ps_dput hu1 (pv 5) (pv 10) (pe_dget hu1 (pe_dget hu1 (pv 1) pe_str (fun _ _ => rfl)) (pv 9) (fun _ _ => rfl)) rfl)) (pss_one (ps_if (PW.pt (pw_and (pt_cmpR op_eq (pv 8) pe_int (nomark _)) (pw_and1 (pt_val (pv 3))))) (pss_cons (ps_setLc (i := 11) (own := [("_law_step", 12)]) rfl sc__law_entries.nd rfl rfl (sw_true rfl rfl rfl (by decide +kernel)) (pi_range1 (by rfl) T.n_range (pa_cons (pe_callD d__law_take (hr.mono (by decide)) (pa_cons (pv 0) (pa_cons pe_int pa_nil))) pa_nil)) (blkOk_by (N := N__law_entries) (sc := defScope s__law_entries) (by decide +kernel)) (fun _ _ _ _ _ => pg_name (i := 12) sc__law_entries.nd rfl (Or.inl rfl)) (fun _ _ _ _ _ => pts_nil) (fun _ _ _ _ _ => (pe_callD d__law_pick (hr.mono (by decide)) (pa_cons (pv 0) (pa_cons (pe_dget hu1 (pv 1) pe_str (fun _ _ => rfl)) pa_nil)))))
    (pss_one (ps_dput hu1 (pv 5) (pv 10) (pe_join pe_str (pv 11)) rfl))) (pss_cons (ps_dput hu1 (pv 5) (pv 10) pe_non rfl)
    (pss_one (ps_expr (pe_bm PySem.F.plainAttrs_list PySem.F.slot_list_append PySem.F.type_list_append mt_append (pv 4) (pa_cons (pv 10) pa_nil))))))))))))))
    (pss_one (ps_ret (pv 5))))), ?_⟩
  obtain ⟨b, p, most, r, N, rfl, hbag, hN, hw, hm0, hm20, hq⟩ := h
  obtain ⟨wkvs, vf, vi, vk, lc, cs, w1, w2, w3, w4, w5, w6, w7, w8, w9, w10, w11⟩ := hw
  have npb : p ≠ b := fun e => w2 (by rw [e]; simp)
  have nlb : lc ≠ b := fun e => w9 (by rw [e]; simp)
  have hb1 : b ∈ [b] := List.mem_singleton.mpr rfl
  -- folders, found
  refine sk_par (B := [b]) (m := 0) (m' := 0) (P := fun x H' => ∃ fo, x = .ref fo ∧ fo ≠ b ∧ H' fo = some (.lst [.str ""]) ∧ ∀ a o, a ≠ b → H a = some o → a ≠ fo) (P' := fun x H' => ∃ e, x = .ref e ∧ e ≠ b ∧ H' e = some (.dK []) ∧ ∀ a o, a ≠ b → H a = some o → a ≠ e) (bgAt1 hbag) (by omega) hb1
    (fun x H1 H2 ⟨fo, e, n, h, r⟩ k => ⟨fo, e, n, k _ _ (by simpa using n) h, r⟩) (fun N1 H1 l1 k1 g1 Q1 q1 => ⟨by show 1 ≤ sizeLine; decide, fun q hq' => by
      obtain ⟨n2, g2, k2⟩ := g1.new (o := .lst [.str ""]) hq'
      exact q1 _ _ N1 (Nat.le_refl _) k2 g2 ⟨q, rfl, by simpa using n2, upd_same, fun a o na e z => by
        have := k1 a o na e
        rw [z, hq'] at this; cases this⟩⟩) (fun N1 H1 l1 k1 g1 Q1 q1 q hq' => by
      obtain ⟨n2, g2, k2⟩ := g1.new (o := .dK []) hq'
      exact q1 _ _ N1 (Nat.le_refl _) k2 g2 ⟨q, rfl, by simpa using n2, upd_same, fun a o na e z => by
        have := k1 a o na e
        rw [z, hq'] at this; cases this⟩) fun x y H1 M1 l1 k1 g1 ⟨fo, e1, nfo, hfo, ffo⟩ ⟨e, e2, neb, he, fe⟩ => ?_
  subst e1
  subst e2
  have nef : fo ≠ e := fun z => by rw [z, he] at hfo; cases hfo
  have g1' : BgAt b [b, fo, e] M1 H1 := ⟨g1.bag, by simp, fun a ha => by
    simp only [List.mem_cons, List.not_mem_nil, or_false] at ha
    rcases ha with rfl | rfl | rfl
    · exact g1.live _ hb1
    · exact ⟨_, hfo⟩
    · exact ⟨_, he⟩⟩
  have hb : b ∈ [b, fo, e] := by simp
  have less : ∀ a ∈ [b], a ∈ [b, fo, e] := fun a ha => by rw [List.mem_singleton.mp ha]; simp
  -- what stands as it was
  have kK : ∀ {H'}, (∀ a o, a ≠ b → H a = some o → H' a = some o) → KeepB [b] H H' := fun k a o n e => k a o (by simpa using n) e
  have inB : ∀ {a o}, a ≠ b → H a = some o → a ∉ [b, fo, e] := fun n h => by simp [n, ffo _ _ n h, fe _ _ n h]
  have upN : ∀ {G : V → Hp → Prop} {n : Nat} {v : V} {H'}, (∀ v H H', G v H → G v H') → Ls G [b] n v H → (∀ a o, a ≠ b → H a = some o → H' a = some o) → Ls G [b, fo, e] n v H' := fun hG ⟨q, xs, ev, nq, h, g, l⟩ k => by
    have nqb : q ≠ b := fun z => nq (by rw [z]; simp)
    exact ⟨q, xs, ev, inB nqb h, k _ _ nqb h, fun v hv => hG _ _ _ (g v hv), l⟩
  refine ⟨fun σ' H' => ∃ v6 v7 v8 v9 v10 v11 M kvs, M ≤ N + 150 ∧ σ' = [some (.ref b), some (.ref p), some (.int most), some (.bl r), some (.ref fo), some (.ref e), v6, v7, v8, v9, v10, v11, none] ∧ BagC H' b M ∧ (∀ a o, a ≠ b → H a = some o → H' a = some o) ∧ H' e = some (.dK kvs) ∧ EnK 30 kvs ∧ kvs.length ≤ 20, ?_, ?_⟩
  · refine sk_rng (c := most + 1) (m := 1) g1' (by omega) (by omega) (ek_takeM (m := 0) rfl (fun N1 H1 l1 k1 g1 Q1 q1 => ⟨_, rfl, _, _, rfl, rfl, q1 _ H1 N1 (Nat.le_refl _) (Keep.refl b H1) g1 rfl⟩) ⟨by omega, by omega⟩) fun n H2 M2 l2 k2 g2 n0 n1 => ?_
    refine for_range (lo := 0) (fun i σ' H' => ∃ v6 v7 v8 v9 v10 v11 M kvs xs, M ≤ M2 + 7 * i ∧ σ' = [some (.ref b), some (.ref p), some (.int most), some (.bl r), some (.ref fo), some (.ref e), v6, v7, v8, v9, v10, v11, none] ∧ BgAt b [b, fo, e] M H' ∧ (∀ a o, a ≠ b → H a = some o → H' a = some o) ∧
      H' e = some (.dK kvs) ∧ EnK 30 kvs ∧ kvs.length ≤ i ∧ H' fo = some (.lst xs) ∧ (∀ v ∈ xs, ∃ z, v = .str z ∧ Pth i z) ∧ 1 ≤ xs.length ∧ xs.length ≤ 1 + i) ?_ ?_ ?_
    · exact ⟨_, _, _, _, _, _, M2, [], _, by omega, rfl, g2, fun a o n e => k2 a o n (k1 a o n e), k2 _ _ neb he, fun _ h => (nomatch h), Nat.le_refl _, k2 _ _ nfo hfo, fun v hv => ⟨_, List.mem_singleton.mp hv, Pth.root⟩, by decide, by decide⟩
    · rintro i σ' H3 hi ⟨v6, v7, v8, v9, v10, v11, M3, kvs, xs, l3, rfl, g3, k3, he3, hen, hel, hfo3, hfx, hx1, hx2⟩
      have li : i < 21 := by omega
      refine sk_par (B := [b, fo, e]) (m := 1) (m' := 1) (P := fun x _ => x ∈ xs) (P' := fun x _ => ∃ r, x = .int r ∧ 0 ≤ r ∧ r < 6) g3 (by omega) hb (fun _ _ _ h _ => h) (ek_pickL rfl rfl hfo3 nfo hx1 (by omega)) (ek_take (c := 6) rfl (by decide)) fun x4 y4 H4 M4 l4 k4 g4 p4 ⟨way, e4, wy0, wy6⟩ => ?_
      subst e4
      obtain ⟨zb, rfl, hzb⟩ := hfx x4 p4
      have k4' : ∀ a o, a ≠ b → H a = some o → H4 a = some o := fun a o n e => k4 a o n (k3 a o n e)
      refine sk_asg (m := 1) (P := fun x _ => ∃ z, x = .str z ∧ isNm z = true ∧ (way < 2 → ∃ i, valV cs (.inr z) = some (.int i))) g4 (by omega) (by
        refine ek_pickN (K := K) (m := 0) (G := fun x _ => ∃ z, x = .str z ∧ isNm z = true ∧ (way < 2 → ∃ i, valV cs (.inr z) = some (.int i))) hb (fun _ _ _ h _ => h) rfl ?_
        refine ek_ifB (c := decide (way < 2)) (fun N1 H1 k1 g1 Q1 q1 => ⟨_, rfl, _, _, rfl, rfl, _, rfl, q1⟩) (fun c => ?_) (fun c => ?_)
        · refine ek_dgetL hb (fun x H H' h k => ?_) rfl (k4' _ _ npb w1) npb w4 (ls_lsn (ls_w (upN (fun _ _ _ h => h) w11 k4') fun v ⟨z, e, h1, h2, h3⟩ => ⟨z, e, nw_nm h1, fun _ => h3⟩) (by decide))
          obtain ⟨q, ys, e, nq, h, r⟩ := h
          exact ⟨q, ys, e, nq, k _ _ nq h, r⟩
        · refine ek_dgetL hb (fun x H H' h k => ?_) rfl (k4' _ _ npb w1) npb w3 (ls_lsn (ls_w (upN (fun _ _ _ h => h) w7 k4') fun v ⟨z, e, h1, h2⟩ => ⟨z, e, nw_nm h1, fun hh => absurd hh (of_decide_eq_false c)⟩) (by decide))
          obtain ⟨q, ys, e, nq, h, r⟩ := h
          exact ⟨q, ys, e, nq, k _ _ nq h, r⟩) fun x5 H5 M5 l5 k5 g5 ⟨zn, e5, hzn, hcs⟩ => ?_
      subst e5
      have k5' : ∀ a o, a ≠ b → H a = some o → H5 a = some o := fun a o n e => k5 a o n (k4' a o n e)
      have hpt : Pth (i + 1) (jn zb zn) := hzb.jn hzn
      have lzb := hzb.len
      have lzn := (isNm_len hzn).2
      have he5 := k5 _ _ neb (k4 _ _ neb he3)
      have hfo5 := k5 _ _ nfo (k4 _ _ nfo hfo3)
      refine ⟨_, rfl, _, rfl, zb, zn, rfl, by omega, by omega, ?_⟩
      have stay : ∀ {v11} {σ'}, σ' = [some (V.ref b), some (.ref p), some (.int most), some (.bl r), some (.ref fo), some (.ref e), some (.int (0 + (i : Int))), some (.str zb), some (.int way), some (.str zn), some (.str (jn zb zn)), v11, none] → ∀ {H6 M6 kvs6 xs6}, M6 ≤ M5 + 4 → BgAt b [b, fo, e] M6 H6 → (∀ a o, a ≠ b → H a = some o → H6 a = some o) → H6 e = some (.dK kvs6) → EnK 30 kvs6 → kvs6.length ≤ i + 1 → H6 fo = some (.lst xs6) → (∀ v ∈ xs6, ∃ z, v = .str z ∧ Pth (i + 1) z) → 1 ≤ xs6.length → xs6.length ≤ 1 + (i + 1) →
          ∃ v6 v7 v8 v9 v10 v11 M kvs xs, M ≤ M2 + 7 * (i + 1) ∧ σ' = [some (.ref b), some (.ref p), some (.int most), some (.bl r), some (.ref fo), some (.ref e), v6, v7, v8, v9, v10, v11, none] ∧ BgAt b [b, fo, e] M H6 ∧ (∀ a o, a ≠ b → H a = some o → H6 a = some o) ∧ H6 e = some (.dK kvs) ∧ EnK 30 kvs ∧ kvs.length ≤ i + 1 ∧ H6 fo = some (.lst xs) ∧ (∀ v ∈ xs, ∃ z, v = .str z ∧ Pth (i + 1) z) ∧ 1 ≤ xs.length ∧ xs.length ≤ 1 + (i + 1) :=
        by intro v11 σ' hs H6 M6 kvs6 xs6 a1 a2 a3 a4 a5 a6 a7 a8 a9 a10; exact ⟨_, _, _, _, _, _, M6, kvs6, xs6, by omega, hs, a2, a3, a4, a5, a6, a7, a8, a9, a10⟩
      have same : ∀ {H6 : Hp} {M6 : Nat}, Keep b H5 H6 → BgAt b [b, fo, e] M6 H6 → M6 ≤ M5 + 4 → _ := fun {H6 M6} k g l => stay (v11 := v11) rfl l g (fun a o n e => k a o n (k5' a o n e)) (k _ _ neb he5) hen (by omega) (k _ _ nfo hfo5) (fun v hv => by
        obtain ⟨z, e, h⟩ := hfx v hv
        exact ⟨z, e, h.more (by omega)⟩) hx1 (by omega)
      refine ⟨_, rfl, _, rfl, e, _, rfl, DGet.k (k := .inr (jn zb zn)) he5, _, rfl, ?_⟩
      cases hv : valV kvs (.inr (jn zb zn)) with
      | some v0 => exact same (Keep.refl b H5) g5 (by omega)
      | none =>
      refine ⟨_, rfl, rfl, _, _, rfl, rfl, _, _, rfl, rfl, _, rfl, ?_⟩
      refine ifD (fun _ => same (Keep.refl b H5) g5 (by omega)) (fun _ => ?_)
      refine ⟨_, rfl, _, _, rfl, rfl, _, rfl, ?_⟩
      have hfx' : ∀ v ∈ xs, ∃ z, v = .str z ∧ Pth (i + 1) z := fun v hv => by
        obtain ⟨z, e, h⟩ := hfx v hv
        exact ⟨z, e, h.more (by omega)⟩
      have hpt30 := hpt.more (show i + 1 ≤ 30 by omega)
      have heB : e ∈ [b, fo, e] := by simp
      have hfB : fo ∈ [b, fo, e] := by simp
      refine ifD (fun hw2 => ?_) (fun hw2 => ?_)
      · refine sk_dput1 (m := 0) (P := fun v _ => ∃ i, v = .int i) (key := .inr (jn zb zn)) g5 (by omega) heB neb rfl rfl he5 (by omega) (fun _ _ _ h _ => h) (fun N1 H1 l1 k1 g1 Q1 q1 => ?_) fun v H6 M6 l6 g6 _ k6 d6 ⟨i6, e6⟩ => ?_
        · obtain ⟨i6, hi6⟩ := hcs hw2
          have dg1 := DGet.k (k := .inr "contents") (k1 _ _ npb (k5' _ _ npb w1))
          rw [w6] at dg1
          have dg2 := DGet.k (k := .inr zn) (k1 _ _ nlb (k5' _ _ nlb w10))
          rw [hi6] at dg2
          exact ⟨_, rfl, p, .ref lc, rfl, dg1, _, rfl, lc, _, rfl, dg2, q1 _ H1 N1 (Nat.le_refl _) (Keep.refl b H1) g1 ⟨i6, rfl⟩⟩
        · exact stay (v11 := v11) rfl (by omega) g6 (fun a o n ha => k6 a o n (fe a o n ha) (k5' a o n ha)) d6 (hen.put hpt30 (Or.inr (Or.inl ⟨i6, e6⟩))) (Nat.le_trans len_put (by omega)) (k6 _ _ nfo nef hfo5) hfx' hx1 (by omega)
      refine sif_known (c := decide (V.int way = V.int 5) && r) (fun Q q => ?_) (fun _ => ?_) (fun _ => ?_)
      · refine ⟨_, rfl, rfl, _, rfl, ?_⟩
        revert q
        generalize decide (V.int way = V.int 5) = dd
        cases dd with
        | false => exact fun q => iteF q
        | true => exact fun q => iteT ⟨_, rfl, r, rfl, q⟩
      · refine sk_asg (B := [b, fo, e]) (m := 4) g5 (by omega) (ek_lcR (b := b) (B := [b, fo, e]) (m := 1) (m' := 1) (c := 3) (j := 12) (G := fun _ v _ => ∃ z, v = .str z ∧ z.length ≤ 8) (ek_take rfl (by decide)) (by decide) (fun _ _ _ _ _ h _ => h) (fun i6 D H1 nD nDb kD hD => ?_)) fun y6 H6 M6 l6 k6 g6 ⟨q6, xs6, ey6, nq6, hq6, hx6, hl6⟩ => ?_
        · refine ek_w (ek_pickN (K := K) (m := 0) (G := okN) (by simp) okN_stb rfl (ek_dgetL (v := vf) (by simp) (fun x H H' h k => ?_) rfl (kD _ _ npb (k5' _ _ npb w1)) npb w3 ?_)) fun x H ⟨z, e, hz, _⟩ => ⟨z, e, (isNm_len (nw_nm hz)).2⟩
          · obtain ⟨q, ys, e, nq, h, r⟩ := h
            exact ⟨q, ys, e, nq, k _ _ nq h, r⟩
          · obtain ⟨q, ys, ev, nq, h, gx, l⟩ := w7
            have nqb : q ≠ b := fun z => nq (by rw [z]; simp)
            have nqD : q ≠ D := fun z => by
              have := k5' _ _ nqb h
              rw [z, hD] at this; cases this
            exact ⟨q, ys, ev, by have := inB nqb h; simp at this; simp [this, nqD], kD _ _ nqb (k5' _ _ nqb h), gx, by omega, by omega⟩
        subst ey6
        obtain ⟨ys, rfl, hys⟩ := strs_of hx6
        have he6 := k6 _ _ neb he5
        have nq6b : q6 ≠ b := fun z => nq6 (by rw [z]; simp)
        refine sk_dput1 (m := 0) (P := fun v _ => ∃ s, v = .str s) (key := .inr (jn zb zn)) g6 (by omega) heB neb rfl rfl he6 (by omega) (fun _ _ _ h _ => h) (fun N1 H1 l1 k1 g1 Q1 q1 => ?_) fun v H7 M7 l7 g7 _ k7 d7 ⟨i7, e7⟩ => ?_
        · have hsum := sum_len hys
          have c1 : ("/" : Str).length = 1 := by decide +kernel
          rw [List.length_map] at hl6
          exact ⟨⟨_, rfl⟩, _, rfl, _, q6, ys, rfl, rfl, Or.inl (SqL.of (k1 _ _ nq6b hq6)), by rw [c1]; omega, q1 _ H1 N1 (Nat.le_refl _) (Keep.refl b H1) g1 ⟨_, rfl⟩⟩
        · exact stay rfl (by omega) g7 (fun a o n ha => k7 a o n (fe a o n ha) (k6 a o n (k5' a o n ha))) d7 (hen.put hpt30 (Or.inr (Or.inr ⟨i7, e7⟩))) (Nat.le_trans len_put (by omega)) (k7 _ _ nfo nef (k6 _ _ nfo hfo5)) hfx' hx1 (by omega)
      · refine sk_dput1 (m := 0) (P := fun v _ => v = .non) (key := .inr (jn zb zn)) g5 (by omega) heB neb rfl rfl he5 (by omega) (fun _ _ _ h _ => h) (ek_c fun _ => rfl) fun v H6 M6 l6 g6 _ k6 d6 e6 => ?_
        refine sk_appB (m := 0) (P := fun v _ => v = .str (jn zb zn)) g6 (by omega) hfB nfo rfl (k6 _ _ nfo nef hfo5) (by omega) (fun _ _ _ h _ => h) (ek_v rfl fun _ _ => rfl) fun v' H7 M7 l7 g7 _ k7 d7 e7 => ?_
        subst e7
        exact stay (v11 := v11) rfl (by omega) g7 (fun a o n ha => k7 a o n (ffo a o n ha) (k6 a o n (fe a o n ha) (k5' a o n ha))) (k7 _ _ neb nef.symm d6) (hen.put hpt30 (Or.inl e6)) (Nat.le_trans len_put (by omega)) d7 (fun u hu => by
          rcases List.mem_append.mp hu with hu | hu
          · exact hfx' u hu
          · exact ⟨_, List.mem_singleton.mp hu, hpt⟩) (by simp) (by rw [List.length_append]; simp; omega)
    · rintro σ' H3 ⟨v6, v7, v8, v9, v10, v11, M3, kvs, xs, l3, rfl, g3, k3, he3, hen, hel, hfo3, hfx, hx1, hx2⟩
      exact ⟨v6, v7, v8, v9, v10, v11, M3, kvs, by omega, rfl, g3.bag, k3, he3, hen, by omega⟩
  · rintro σ' H3 ⟨v6, v7, v8, v9, v10, v11, M, kvs, l3, rfl, g3, k3, he3, hen, hel⟩
    exact ⟨_, rfl, hq H3 e kvs M (by omega) (fun a o n e => k3 a o n e) g3 neb fe he3 hen hel⟩
end
end KC

set_option Elab.async false
set_option linter.all false
set_option maxRecDepth 100000
set_option maxHeartbeats 4000000
namespace LF
open PySem PySem.Spec PyProof.Rows L2
open Evl (Ev EvL EvU EvT EvA EvO Ex sq_of st_of)
section
variable {K : PySem.W.Frag} {b : Addr} {B : List Addr} {σ : L2.St} {H H' : Hp} {ta tb te : TE} {tr : TA} {tt : TT} {x y z v : V} {P P' : V → Hp → Prop} {G : V → Hp → Prop} {n n' m m' N : Nat}
/-- a part, drawn or not -/
def EKO (b : Addr) (B : List Addr) (m : Nat) (to : TO) (σ : L2.St) (H : Hp) (R : Option Int → Prop) : Prop := ∀ N H1, N + m ≤ 900000 → Keep b H H1 → BgAt b B N H1 → ∀ Q : Option Int → Hp → Prop, (∀ x H2 M, M ≤ N + m → Keep b H1 H2 → BgAt b B M H2 → R x → Q x H2) → to σ H1 Q
theorem eko_none {R : Option Int → Prop} (h : R none) : EKO b B 0 tNoPart σ H R := fun N H1 l k g Q q => q none H1 N (Nat.le_refl _) (Keep.refl b H1) g h
theorem eko_some {R : Option Int → Prop} (h : EK b B m te σ H (fun x _ => ∃ i, x = .int i ∧ R (some i))) : EKO b B m (tPart te) σ H R := fun N H1 l k g Q q => h N H1 l k g _ fun x H2 M lm k2 g2 ⟨i, e, r⟩ => ⟨i, e, q _ H2 M lm k2 g2 r⟩
/-- xs[..] : which part is told by R1, R2 -/
theorem ek_slR {tl th : TO} {R1 R2 : Option Int → Prop} {P : V → Hp → Prop} (hb : b ∈ B) (hG : Stb B G) (h : EK b B 0 te σ H (LsM G B n)) (h1 : EKO b B m tl σ H R1) (h2 : EKO b B m' th σ H R2)
    (hP : ∀ r xs lo hi H, R1 lo → R2 hi → r ∉ B → H r = some (.lst (cutV xs lo hi)) → (∀ v ∈ xs, G v H) → xs.length ≤ n → P (.ref r) H) : EK b B (m + m') (tSl (rSlL K) te tl th) σ H P := fun N H1 l k g Q q =>
  h N H1 (by omega) k g _ fun x H2 M lm k2 g2 p => h1 M H2 (by omega) (k.trans k2) g2 _ fun lo H3 M3 l3 k3 g3 r1 => h2 M3 H3 (by omega) ((k.trans k2).trans k3) g3 _ fun hi H4 M4 l4 k4 g4 r2 => by
    obtain ⟨a, xs, rfl, na, ha, gx, lx⟩ := lsm_stb hG _ _ _ p ((kb hb k3).trans (kb hb k4))
    refine ⟨a, xs, rfl, SqL.of ha, fun r hr => ?_⟩
    obtain ⟨n1, g5, k5⟩ := g4.new (o := .lst (cutV xs lo hi)) hr
    exact q _ _ M4 (by omega) (((k2.trans k3).trans k4).trans k5) g5 (hP r xs lo hi _ r1 r2 n1 upd_same (fun v hv => hG _ _ _ (gx v hv) (kb hb k5)) lx)
theorem ek_slM {tl th : TO} (hb : b ∈ B) (hG : Stb B G) (h : EK b B 0 te σ H (LsM G B n)) (h1 : EKO b B m tl σ H fun _ => True) (h2 : EKO b B m' th σ H fun _ => True) : EK b B (m + m') (tSl (rSlL K) te tl th) σ H (LsM G B n) :=
  ek_slR hb hG h h1 h2 fun r xs lo hi H _ _ nr hr gx lx => ⟨r, _, rfl, nr, hr, fun v hv => gx v (mem_cut hv), Nat.le_trans len_cut lx⟩
theorem ek_catM (hb : b ∈ B) (hG : Stb B G) (h : EK b B m ta σ H (LsM G B n)) (h' : EK b B m' tb σ H (LsM G B n')) (hn : n + n' ≤ 1000) : EK b B (m + m') (tOp rCat ta tb) σ H (LsM G B (n + n')) := fun N H1 l k g Q q =>
  h N H1 (by omega) k g _ fun x H2 M lm k2 g2 p => h' M H2 (by omega) (k.trans k2) g2 _ fun y H3 M3 lm3 k3 g3 p' => by
    obtain ⟨l1, xs, rfl, n1, hl, gx, lx⟩ := lsm_stb hG _ _ _ p (kb hb k3)
    obtain ⟨l2, ys, rfl, n2, hl', gy, ly⟩ := p'
    refine ⟨l1, l2, xs, ys, rfl, rfl, hl, hl', Evl.sz_of (by omega), fun r hr => ?_⟩
    obtain ⟨n3, g4, k4⟩ := g3.new (o := .lst (xs ++ ys)) hr
    refine q _ _ M3 (by omega) ((k2.trans k3).trans k4) g4 ⟨r, xs ++ ys, rfl, n3, upd_same, fun v hv => ?_, by rw [List.length_append]; omega⟩
    rcases List.mem_append.mp hv with hv | hv
    · exact hG _ _ _ (gx v hv) (kb hb k4)
    · exact hG _ _ _ (gy v hv) (kb hb k4)
/-- a built-in of one argument -/
theorem ek_cb1 {r : List V → Hp → VK → Prop} (h : EK b B m te σ H P) (hr : ∀ x H1 N, BgAt b B N H1 → Keep b H H1 → P x H1 → ∀ Q : VK, (∀ y H2, Keep b H1 H2 → BgAt b B N H2 → P' y H2 → Q y H2) → r [x] H1 Q) : EK b B m (tCB r (tCons te tNil)) σ H P' := fun N H1 l k g Q q =>
  h N H1 l k g _ fun x H2 M lm k2 g2 p => hr x H2 M g2 (k.trans k2) p Q fun y H3 k3 g3 p3 => q y H3 M lm (k2.trans k3) g3 p3
/-- a reading that gives a bool, whichever -/
def EvB (te : TE) (σ : L2.St) (H : Hp) : Prop := ∀ H1, Ex H H1 → ∀ Q : VK, (∀ c H2, Ex H1 H2 → Q (.bl c) H2) → te σ H1 Q
theorem EvB.of {c : Bool} (h : Ev te σ H (.bl c)) : EvB te σ H := fun H1 e Q q => h H1 e Q fun H2 e2 => q c H2 e2
theorem evb_and (h1 : EvB ta σ H) (h2 : EvB tb σ H) : EvB (tAndV ta tb) σ H := fun H1 e Q q => h1 H1 e _ fun c H2 e2 => ⟨c, rfl, by
  cases c with
  | true => exact iteT (h2 H2 (e.trans e2) Q fun c H3 e3 => q c H3 (e2.trans e3))
  | false => exact iteF (q false H2 e2)⟩
theorem evb_not (h1 : EvB ta σ H) : EvB (tNotV ta) σ H := fun H1 e Q q => h1 H1 e _ fun c H2 e2 => ⟨c, rfl, q _ H2 e2⟩
end
/-- from pairs in the heap to the pairs themselves -/
theorem pairs_of {Gp : Addr → Key → V → Prop} : ∀ {xs : List V}, (∀ v ∈ xs, ∃ q k u, v = .ref q ∧ Gp q k u) → ∃ L : List (Addr × (Key × V)), xs = (L.map (·.1)).map V.ref ∧ ∀ e ∈ L, Gp e.1 e.2.1 e.2.2
  | [], _ => ⟨[], rfl, fun _ h => nomatch h⟩
  | v :: xs, h => by
    obtain ⟨q, k, u, e, g⟩ := h v List.mem_cons_self
    obtain ⟨L, e2, g2⟩ := pairs_of fun u hu => h u (List.mem_cons_of_mem _ hu)
    exact ⟨(q, (k, u)) :: L, by rw [e, e2]; rfl, fun e he => by
      rcases List.mem_cons.mp he with rfl | he
      · exact g
      · exact g2 e he⟩
theorem paired_of' {α β : Type} {F : α → β → Prop} : ∀ L : List (α × β), (∀ e ∈ L, F e.1 e.2) → Paired F (L.map (·.1)) (L.map (·.2))
  | [], _ => .nil
  | e :: L, h => .cons (h e List.mem_cons_self) (paired_of' L fun x hx => h x (List.mem_cons_of_mem _ hx))
end LF

set_option Elab.async false
set_option linter.all false
set_option maxRecDepth 100000
set_option maxHeartbeats 4000000
namespace KC
open PySem PySem.Spec PyProof.Rows L2 LF
open Evl (Ev EvL EvU EvT EvA Ex sq_of st_of)
/-- the entries of a package, at e -/
def EntA (B : List Addr) (e : Addr) (H : Hp) : Prop := ∃ es, e ∉ B ∧ H e = some (.dK es) ∧ EnK 30 es ∧ es.length ≤ 20
theorem EntA.stb {B : List Addr} {e : Addr} {H H' : Hp} (h : EntA B e H) (k : KeepB B H H') : EntA B e H' := by
  obtain ⟨es, n, h1, h2⟩ := h
  exact ⟨es, n, k _ _ n h1, h2⟩
/-- the farm drawn, at g -/
def Farm (B : List Addr) (g : Addr) (H : Hp) : Prop := ∃ kvs, H g = some (.dK kvs) ∧ g ∉ B ∧ kvs.length ≤ 3 ∧ ∀ kv ∈ kvs, ∃ z e, kv = (.inr z, .ref e) ∧ isNm z = true ∧ PyData.strOk z = true ∧ e ≠ g ∧ EntA B e H
theorem Farm.stb {B : List Addr} {g : Addr} {H H' : Hp} (h : Farm B g H) (k : KeepB B H H') : Farm B g H' := by
  obtain ⟨kvs, h1, h2, h3, h4⟩ := h
  exact ⟨kvs, k _ _ h2 h1, h2, h3, fun kv hkv => by
    obtain ⟨z, e, a, b, c, d, f⟩ := h4 kv hkv
    exact ⟨z, e, a, b, c, d, f.stb k⟩⟩
def spFarm : Sp := fun vs H Q _ => ∃ (b p : Addr) (most : Int) (r : Bool) (N : Nat), vs = [.ref b, .ref p, .int most, .bl r] ∧ BagC H b N ∧ N + 700 ≤ 900000 ∧ Wd [b] p H ∧ 0 ≤ most ∧ most ≤ 20 ∧
  ∀ H' g M, M ≤ N + 700 → Keep b H H' → BagC H' b M → Farm [b] g H' → Q (.ref g) H'
def spPlain : Sp := fun vs H Q _ => ∃ (e : Addr) (z : Str) (o : Obj) (es : List (Key × V)), vs = [.ref e, .str z] ∧ H e = some (.frz o (.dK es)) ∧ EnK 30 es ∧ es.length ≤ 20 ∧ z.length ≤ 1000 ∧ ∀ H' c, Ex H H' → Q (.bl c) H'
abbrev s__law_farm : Stmt := topS 24
abbrev N__law_farm : List Str := ["_law_bag_here", "_law_words_here", "_law_most", "_law_has_references", "_law_labels", "_law_label"]
theorem sc__law_farm : FnScope ["_law_bag_here", "_law_words_here", "_law_most", "_law_has_references", "_law_labels", "_law_label"] ["_law_bag_here", "_law_words_here", "_law_most", "_law_has_references"] (defScope s__law_farm) := ⟨rfl, rfl, rfl, by decide +kernel, rfl, by decide +kernel, by decide +kernel⟩
abbrev s__law_is_plain : Stmt := topS 25
abbrev N__law_is_plain : List Str := ["_law_entries_here", "_law_path", "_law_inner", "_law_one"]
theorem sc__law_is_plain : FnScope ["_law_entries_here", "_law_path", "_law_inner", "_law_one"] ["_law_entries_here", "_law_path"] (defScope s__law_is_plain) := ⟨rfl, rfl, rfl, by decide +kernel, rfl, by decide +kernel, by decide +kernel⟩
/-- a pair of a label and the entries -/
def Gp (B : List Addr) : V → Hp → Prop := fun v H => ∃ q k u, v = .ref q ∧ q ∉ B ∧ H q = some (.tup [kV k, u]) ∧ ∃ z e, (k, u) = (Sum.inr z, .ref e) ∧ isNm z = true ∧ PyData.strOk z = true ∧ EntA B e H
theorem Gp_stb {B : List Addr} : Stb B (Gp B) := fun v H H' ⟨q, k, u, e, n, h, z, e', h1, h2, h3, h4⟩ kk => ⟨q, k, u, e, n, kk _ _ n h, z, e', h1, h2, h3, h4.stb kk⟩
def Farm' (b : Addr) : V → Hp → Prop := fun x H => ∃ g, x = .ref g ∧ Farm [b] g H
section
variable {P : Program} {w : World} {K : PySem.W.Frag} {mg : Str → Option Value} {base : Heap} {tk1 tk2 : Tok}
theorem ok_farm {f f1 f2 : Addr} {fd fd1 fd2 : FuncData} (F : Fun K "_law_farm" "_law_farm" s__law_farm f fd) (T : Txt K mg tk1 tk2) (d__law_take : DefAt P w K mg base "_law_take" 1 f1 fd1 ["_law_bag_here", "_law_many"] spTakeC)
    (d__law_entries : DefAt P w K mg base "_law_entries" 3 f2 fd2 ["_law_bag_here", "_law_words_here", "_law_most", "_law_has_references"] spEntries) :
    FnOk P w K mg base CX0 4 f fd ["_law_bag_here", "_law_words_here", "_law_most", "_law_has_references"] spFarm := by
  refine F.ok sc__law_farm (fun vs H Q E h => ?_) (fun cdv A outer s H vs Q E hr h => ?_)
  · obtain ⟨b, p, most, r, N, rfl, _⟩ := h
    rfl
  have hu1 := hu_of hr
  refine ⟨_, (pss_cons (ps_set (i := 4) sc__law_farm.nd rfl (Or.inl rfl) (pe_slice sl_list (pe_dget hu1 (pv 1) pe_str (fun _ _ => rfl)) po_none (po_some (pe_op op_add pe_int (pe_callD d__law_take (hr.mono (by decide)) (pa_cons (pv 0) (pa_cons pe_int pa_nil)))))))
    (pss_one (ps_ret (pe_callTy (call_dictP rfl) (by rfl) T.n_dict (by decide +kernel) (pa_cons (pe_lc (own := [("_law_label", 5)]) rfl sc__law_farm.nd (pi_list (pv 4)) (blkOk_by (N := N__law_farm) (sc := defScope s__law_farm) (by decide +kernel)) (fun _ _ _ _ _ => pg_name (i := 5) sc__law_farm.nd rfl (Or.inl rfl)) (fun _ _ _ _ _ => pts_nil) (fun _ _ _ _ _ => (pe_tup (pa_cons (pv 5) (pa_cons (pe_callD d__law_entries (hr.mono (by decide)) (pa_cons (pv 0) (pa_cons (pv 1) (pa_cons (pv 2) (pa_cons (pv 3) pa_nil))))) pa_nil))))) pa_nil))))), ?_⟩
  obtain ⟨b, p, most, r, N, rfl, hbag, hN, hw, hm0, hm20, hq⟩ := h
  have hw' := hw
  obtain ⟨wkvs, vf, vi, vk, lc, cs, w1, w2, w3, w4, w5, w6, w7, w8, w9, w10, w11⟩ := hw'
  have npb : p ≠ b := fun e => w2 (by rw [e]; simp)
  have hb : b ∈ [b] := List.mem_singleton.mpr rfl
  refine sk_asg (B := [b]) (m := 1) (P := LsM okN [b] 3) (bgAt1 hbag) (by omega) (by
    exact ek_slM (m := 0) (m' := 1) hb okN_stb (ek_dgetL (v := vk) hb (lsm_stb okN_stb) rfl w1 npb w5 (ls_lsm w8)) (eko_none trivial) (eko_some (fun N1 H1 l1 k1 g1 Q1 q1 => ek_take (B := [b]) (H := H1) (c := 3) rfl (by decide) N1 H1 l1 (Keep.refl b H1) g1 _ fun x H2 M2 lm2 k2 g2 ⟨r, e, _⟩ => by
      subst e
      exact ⟨_, _, rfl, rfl, q1 _ H2 M2 lm2 k2 g2 ⟨_, rfl, trivial⟩⟩))) fun y1 H1 M1 l1 k1 g1 p1 => ?_
  have hw1 := hw.stb (kb hb k1)
  refine sk_ret (m := 600) (P := Farm' b) g1 (by omega) (ek_cb1 (ek_lcL (K := K) (b := b) (B := [b]) (m := 0) (m' := 200) (n := 3) (j := 5) (Gi := okN) (G := Gp) hb okN_stb (ek_v rfl fun H3 k3 => lsm_stb okN_stb _ _ _ p1 (kb hb k3)) (by decide) (fun D nD => Gp_stb) (fun x D H3 nD nDb kD hD gx => ?_) (fun _ _ _ _ h _ _ => h)) fun x H3 M3 g3 k3 ⟨l, xs, ex, nl, hl, gx, lx⟩ Q2 q2 => ?_) fun x H2 M2 l2 k2 g2 ⟨gg, e, hf⟩ => ?_
  · obtain ⟨z, rfl, hz, hzo⟩ := gx
    have hz := nw_nm hz
    intro N4 H4 l4 k4 g4 Q4 q4
    have hw4 := hw1.stb ((kb hb kD).trans (kb hb k4))
    refine ⟨_, rfl, _, rfl, _, rfl, _, rfl, _, rfl, b, p, most, r, N4, rfl, g4.bag, by omega, hw4, hm0, hm20, fun H5 e es M5 l5 k5 b5 neb fresh he hen hel => ?_⟩
    have g5 := g4.keep k5 b5
    have neD : e ≠ D := fun ee => by
      obtain ⟨u, hu⟩ := g4.live D (by simp)
      exact fresh D u nDb hu ee.symm
    refine ⟨by show 2 ≤ sizeLine; decide, fun q hq' => ?_⟩
    obtain ⟨nq, g6, k6⟩ := g5.new (o := .tup [.str z, .ref e]) hq'
    exact q4 _ _ M5 (by omega) (k5.trans k6) g6 ⟨q, .inr z, .ref e, rfl, nq, upd_same, z, e, rfl, hz, hzo, es, by simp [neb, neD], k6 _ _ neb he, hen, hel⟩
  · subst ex
    obtain ⟨L, rfl, hL⟩ := pairs_of (Gp := fun q k u => q ∉ [b] ++ [l] ∧ H3 q = some (.tup [kV k, u]) ∧ ∃ z e, (k, u) = (Sum.inr z, .ref e) ∧ isNm z = true ∧ PyData.strOk z = true ∧ EntA ([b] ++ [l]) e H3) fun v hv => by
      obtain ⟨q, k, u, e, h1, h2, z, e', h3, h4⟩ := gx v hv
      exact ⟨q, k, u, e, h1, h2, z, e', h3, h4⟩
    refine ⟨l, L.map (·.1), L.map (·.2), rfl, SqL.of hl, paired_of' L fun e he => SqT.of (hL e he).2.1, fun r hr' => ?_⟩
    obtain ⟨nr, g4, k4⟩ := g3.new (o := .dK (mergeK [] (L.map (·.2)))) hr'
    refine q2 _ _ k4 g4 ⟨r, rfl, _, upd_same, nr, ?_, fun kv hkv => ?_⟩
    · have := len_merge (kvs := L.map (·.2)) (acc := [])
      simp only [List.length_map, List.length_nil] at lx this; omega
    · rcases mem_merge hkv with h | h
      · exact nomatch h
      · obtain ⟨e, he, rfl⟩ := List.mem_map.mp h
        obtain ⟨_, _, z, e', h1, h2, h3, es, h4, h5, h6⟩ := hL e he
        have ner : e' ≠ r := fun x => by rw [x, hr'] at h5; cases h5
        have neb : e' ≠ b := fun x => h4 (by simp [x])
        exact ⟨z, e', by rw [← h1], h2, h3, ner, es, by simpa using neb, k4 _ _ neb h5, h6⟩
  · subst e
    exact hq H2 gg M2 (by omega) (k1.trans k2) g2.bag hf
end
end KC

set_option Elab.async false
set_option linter.all false
set_option maxRecDepth 100000
set_option maxHeartbeats 4000000
namespace KC
open PySem PySem.Spec PyProof.Rows L2 LF
open Evl (Ev EvL EvU EvT EvA Ex sq_of st_of)
section
variable {P : Program} {w : World} {K : PySem.W.Frag} {mg : Str → Option Value} {base : Heap} {tk1 tk2 : Tok}
theorem ok_plain {f : Addr} {fd : FuncData} (F : Fun K "_law_is_plain" "_law_is_plain" s__law_is_plain f fd) (T : Txt K mg tk1 tk2) : FnOk P w K mg base CX0 1 f fd ["_law_entries_here", "_law_path"] spPlain := by
  refine F.ok sc__law_is_plain (fun vs H Q E h => ?_) (fun cdv A outer s H vs Q E hr h => ?_)
  · obtain ⟨e, z, o, es, rfl, _⟩ := h
    rfl
  have hu1 := hu_of hr
  refine ⟨_, (pss_cons (ps_setLc (i := 2) (own := [("_law_one", 3)]) rfl sc__law_is_plain.nd rfl rfl (sw_true rfl rfl rfl (by decide +kernel)) (pi_keys (pv 0)) (blkOk_by (N := N__law_is_plain) (sc := defScope s__law_is_plain) (by decide +kernel)) (fun _ _ _ _ _ => pg_name (i := 3) sc__law_is_plain.nd rfl (Or.inl rfl)) (fun _ _ _ _ _ => (pts_one (pt_cmpR op_eq (pe_slice sl_str (pv 3) po_none (po_some (pe_op op_add (pe_callB call_len_str (by rfl) T.n_len (by decide +kernel) (pa_cons (pv 1) pa_nil)) pe_int))) (pe_op op_add_str (pv 1) pe_str) (nomark _)))) (fun _ _ _ _ _ => (pv 3)))
    (pss_one (ps_ret (pe_and (pe_cmp (pc_din hu1 (pv 1) (pv 0))) (pe_and (pe_cmpR op_isN (pe_dget hu1 (pv 0) (pv 1) (fun _ _ => rfl)) pe_non (nomark _)) (pe_one (pe_not (pe_callB (cr_any rfl) (by rfl) T.n_any (by decide +kernel) (pa_cons (pe_lc (own := [("_law_one", 3)]) rfl sc__law_is_plain.nd (pi_list (pv 2)) (blkOk_by (N := N__law_is_plain) (sc := defScope s__law_is_plain) (by decide +kernel)) (fun _ _ _ _ _ => pg_name (i := 3) sc__law_is_plain.nd rfl (Or.inl rfl)) (fun _ _ _ _ _ => pts_nil) (fun _ _ _ _ _ => (pe_callB (show CallR _ (.builtin "isinstance") (rIsi K) from call_isi) (by rfl) T.n_isinstance (by decide +kernel) (pa_cons (pe_dget hu1 (pv 0) (pv 3) (fun _ _ => rfl)) (pa_cons (pe_bltn (v := .ty "str") (by rfl) T.n_str (by decide +kernel) rfl) pa_nil))))) pa_nil))))))))), ?_⟩
  obtain ⟨e, z, o, es, rfl, he, hen, hel, hz, hq⟩ := h
  have hbig : (100000 : Nat) ≤ sizeLine := by decide
  have c1 : ("/" : Str).length = 1 := by decide +kernel
  have pt : ∀ {z : Str} {v : V}, (Sum.inr z, v) ∈ es → Pth 30 z ∧ (v = .non ∨ (∃ i, v = .int i) ∨ ∃ s, v = .str s) := fun h => by
    obtain ⟨⟨z', e1, h1⟩, h2⟩ := hen _ h
    cases e1
    exact ⟨h1, h2⟩
  refine ⟨_, rfl, e, o, rfl, Or.inl ⟨es, he, fun D hD => ?_⟩⟩
  have neD : e ≠ D := fun x => by rw [x, hD] at he; cases he
  refine lc_it (walk_keys (kvs := es)) (fun i H' => Ex H H' ∧ ∃ xs, H' D = some (.lst xs) ∧ xs.length ≤ i ∧ ∀ v ∈ xs, ∃ z', v = .str z' ∧ (Sum.inr z' : Key) ∈ es.map (·.1)) ⟨Ex.new hD, [], upd_same, Nat.le_refl _, fun _ h => nomatch h⟩ (fun i H' _ h => h.1 _ _ he) ?_ ?_
  · rintro i x H1' H1 hi ⟨e1, xs, hx, lx, gx⟩ ⟨rfl, k, v, hk, rfl⟩
    have hm := List.mem_of_getElem? hk
    obtain ⟨⟨z', ek, hz'⟩, hv⟩ := hen _ hm
    cases ek
    have lz := hz'.len
    refine ⟨wipe_set, ?_⟩
    refine ⟨_, rfl, _, rfl, z, rfl, by omega, _, _, rfl, rfl, _, rfl, z', rfl, by omega, ?_⟩
    refine ⟨_, rfl, _, _, rfl, rfl, by rw [c1]; omega, rfl, _, rfl, ?_⟩
    refine ifD (fun _ => ⟨_, rfl, xs, hx, Evl.sz_lt (by omega), Ex.mut e1 hD, xs ++ [.str z'], upd_same, by rw [List.length_append]; simp; omega, fun u hu => ?_⟩) (fun _ => ⟨e1, xs, hx, by omega, gx⟩)
    rcases List.mem_append.mp hu with hu | hu
    · exact gx u hu
    · exact ⟨z', List.mem_singleton.mp hu, List.mem_map.mpr ⟨_, hm, rfl⟩⟩
  · rintro H1 ⟨e1, xs, hx, lx, gx⟩
    have he1 := e1 _ _ he
    have dget : ∀ {H2}, Ex H H2 → ∀ k, DGet H2 e (kV k) (valV es k) := fun e2 k => Or.inl ⟨es, k, Or.inr ⟨o, e2 _ _ he⟩, rfl, rfl⟩
    refine ⟨_, rfl, _, rfl, e, _, rfl, dget e1 (.inr z), _, rfl, ?_⟩
    cases hv : valV es (.inr z) with
    | none => exact iteF (hq H1 _ e1)
    | some v0 =>
      refine iteT ?_
      have hv0 : DGet H1 e (.str z) (some v0) := by
        have := dget e1 (.inr z)
        rw [hv] at this; exact this
      refine ⟨_, rfl, _, rfl, e, v0, rfl, hv0, rfl, _, rfl, ?_⟩
      refine ifD (fun _ => ?_) (fun _ => hq H1 _ e1)
      refine ⟨_, rfl, D, rfl, ⟨xs, SqL.of hx⟩, fun D2 hD2 => ?_⟩
      have nD2 : D ≠ D2 := fun x => by rw [x, hD2] at hx; cases hx
      refine lc_it (walk_list (xs := xs)) (fun i H' => Ex H1 H' ∧ ∃ bs : List Bool, H' D2 = some (.lst (bs.map V.bl)) ∧ bs.length = i) ⟨Ex.new hD2, [], upd_same, rfl⟩ (fun i H' _ h => SqL.of (h.1 _ _ hx)) ?_ ?_
      · rintro i x H2' H2 hi ⟨e2, bs, hbs, lbs⟩ ⟨rfl, hxi⟩
        obtain ⟨z', rfl, hz'⟩ := gx x (List.mem_of_getElem? hxi)
        obtain ⟨v, hv', hm⟩ := val_some hz'
        have hty : ∃ t c, TyX K H2 v (.type t) ∧ PySem.W.kitOne K (.type t) (.type "str") = some c := by
          rcases (pt hm).2 with rfl | ⟨i, rfl⟩ | ⟨s, rfl⟩
          · exact ⟨"NoneType", false, .base .non, kit_ty (by decide +kernel)⟩
          · exact ⟨"int", false, .base (.int i), kit_ty (by decide +kernel)⟩
          · exact ⟨"str", true, .base (.str s), kit_ty (by decide +kernel)⟩
        obtain ⟨t, c, ht, hk⟩ := hty
        have hv2 : DGet H2 e (.str z') (some v) := by
          have := dget (e1.trans e2) (.inr z')
          rw [hv'] at this; exact this
        refine ⟨wipe_set, ?_⟩
        refine ⟨_, rfl, _, rfl, e, v, rfl, hv2, v, .ty "str", _, _, c, rfl, .ty _, ht, hk, bs.map V.bl, hbs, Evl.sz_lt (by rw [List.length_map]; omega), Ex.mut e2 hD2, bs ++ [c], ?_, by rw [List.length_append]; simp; omega⟩
        rw [upd_same, List.map_append]; rfl
      · rintro H2 ⟨e2, bs, hbs, lbs⟩
        exact ⟨D2, bs, rfl, SqL.of hbs, _, rfl, hq H2 _ (e1.trans e2)⟩
end
end KC

set_option Elab.async false
set_option linter.all false
set_option maxRecDepth 100000
set_option maxHeartbeats 4000000
namespace LF
open PySem PySem.Spec PyProof.Rows L2
/-! sets of texts: made of a list, sorted -/
def tkey (e : Int × Value) : Str := match e.2 with | .str z _ => z | _ => ""
def Tx (w : World) (e : Int × Value) : Prop := ∃ z q, e.2 = Value.str z q ∧ e.1 = hashStr w z
/-- the set at a holds just the texts of L; its table can be walked -/
structure TSet (w : World) (h : Heap) (a : Addr) (L : List Str) (o : Obj) (es : Array (Int × Value)) (ep : Nat) (t : SetTable) : Prop where
  ob : h.get? a = some o
  ex : o.ExactSet
  dat : o.data = .set es ep t
  tx : ∀ e ∈ es.toList, Tx w e
  pm : (es.toList.map tkey).Perm L
  nd : L.Nodup
  few : es.size < scanBound
  fit : t.fits es.size = true
  ris : Ris t.place.toList
  led : w.params.followText "set-order" = true ∨ t.led = true
def TSetAt (w : World) (h : Heap) (a : Addr) (L : List Str) : Prop := ∃ o es ep t, TSet w h a L o es ep t
section
variable {P : Program} {w : World} {h h' : Heap} {a : Addr} {L : List Str} {o : Obj} {es : Array (Int × Value)} {ep : Nat} {t : SetTable}
theorem TSetAt.at (R : TSetAt w h a L) (k : ∀ o, h.get? a = some o → h'.get? a = some o) : TSetAt w h' a L := by
  obtain ⟨o, es, ep, t, T⟩ := R
  exact ⟨o, es, ep, t, { T with ob := k o T.ob }⟩
theorem Tx.is {e : Int × Value} (x : Tx w e) (z : Str) : (strKind P w).is z e.2 = true ↔ tkey e = z := by
  obtain ⟨y, q, e1, _⟩ := x
  unfold tkey
  rw [e1]
  constructor
  · intro hz
    have := (strKind P w).inj _ _ _ hz (strKind_is P w y q)
    exact this.symm
  · rintro rfl
    exact strKind_is P w _ q
theorem TSet.elems (T : TSet w h a L o es ep t) : ElemsOf (strKind P w) es.toList := fun e he => by
  obtain ⟨y, q, e1, e2⟩ := T.tx e he
  exact ⟨⟨y, by rw [e1]; exact strKind_is P w y q, e2⟩, by rw [e1]; rfl⟩
theorem TSet.size (T : TSet w h a L o es ep t) : es.size = L.length := by
  have q := T.pm.length_eq
  rw [List.length_map, Array.length_toList] at q
  exact q
theorem tset_new (w : World) : TSetAt w (h.push { cls := .type "set", dict := none, data := .set #[] 0 (.fresh 0 0 (!w.params.followText "set-order")) }) h.objs.size [] :=
  ⟨_, #[], 0, _, ⟨Heap.get?_push_size _ rfl, ⟨rfl, rfl, rfl⟩, rfl, fun e he => by simp at he, by simp, List.nodup_nil, by decide, rfl, List.Pairwise.nil, by
    cases hq : w.params.followText "set-order"
    · exact Or.inr rfl
    · exact Or.inl rfl⟩⟩
end
section
variable {P : Program} {w : World} {A : Around} {E : Value → Shared → Prop} {s : Shared} {a : Addr} {L : List Str}
/-- what stands at a set's place when its table is laid anew -/
theorem put_set {h : Heap} {o : Obj} {es es' : Array (Int × Value)} {ep : Nat} {t t' : SetTable} (ho : h.get? a = some o) (hd : o.data = .set es ep t) : (h.update a (Obj.putSet es' t')).get? a = some { o with data := .set es' (ep + 1) t' } := L2.store_at ho hd
/-- the new text is laid: the table is stored, and grown if it is too full -/
theorem tset_lay {g : Bool → Sem Unit} (hg : ∀ (b : Bool) (u : Shared) (W : Unit → Shared → Prop), W () u → wpAny (model P w) A (g b) W E u)
    {o : Obj} {es : Array (Int × Value)} {ep : Nat} {t : SetTable} (ho : s.heap.get? a = some o) (hx : o.ExactSet) (hd : o.data = .set es ep t)
    {fs : Array (Int × Value)} {u : SetTable} (tx : ∀ e ∈ fs.toList, Tx w e) (pm : (fs.toList.map tkey).Perm L) (nd : L.Nodup) (few : fs.size < scanBound) (fit : u.fits fs.size = true) (ris : Ris u.place.toList)
    (led : w.params.followText "set-order" = true ∨ u.led = true) {dm : Bool} {R : Option Bool → Shared → Prop} (hR : ∀ h', Heap.SameBut a s.heap h' → TSetAt w h' a L → R (some true) { s with heap := h' }) :
    wpAny (model P w) A (do
        storeSet a fs u
        if (!dm && u.tooFull) = true then do
            g (relayAll u fs (SetTable.grown fs.size)).2.2
            storeSet a (relayAll u fs (SetTable.grown fs.size)).1 (relayAll u fs (SetTable.grown fs.size)).2.1
            pure (some true)
          else pure (some true)) R E s := by
  have h1 := put_set (es' := fs) (t' := u) ho hd
  have b1 := Heap.SameBut.update s.heap a (Obj.putSet fs u)
  refine wpAny_bind (wpAny_storeSet_of ho hd ?_ (fits_of_scanBound few))
  by_cases hc : (!dm && u.tooFull) = true
  · rw [if_pos hc]
    have p2 := relayAll_perm u fs (SetTable.grown fs.size)
    have f2 := relayAll_fits u fs (SetTable.grown fs.size)
    have r2 := relayAll_ris u fs (SetTable.grown fs.size)
    have l2 := relayAll_led u fs (SetTable.grown fs.size)
    generalize relayAll u fs (SetTable.grown fs.size) = Y at p2 f2 r2 l2 ⊢
    obtain ⟨gs, v, gv⟩ := Y
    dsimp only at p2 f2 r2 l2 ⊢
    have z2 : gs.size = fs.size := by rw [← Array.length_toList, ← Array.length_toList]; exact p2.length_eq
    have few2 : gs.size < scanBound := by rw [z2]; exact few
    refine wpAny_bind (hg _ _ _ (wpAny_bind (wpAny_storeSet_of h1 rfl ?_ (fits_of_scanBound few2))))
    refine wpAny_pure (hR _ (b1.trans (Heap.SameBut.update _ a _)) ⟨_, gs, _, v, ⟨put_set (es' := gs) (t' := v) h1 rfl, hx, rfl, fun e he => tx e (p2.mem_iff.mp he), (p2.map tkey).trans pm, nd, few2, f2, r2, ?_⟩⟩)
    rcases led with q | q
    · exact Or.inl q
    · exact Or.inr (by rw [l2]; exact q)
  · rw [if_neg hc]
    exact wpAny_pure (hR _ b1 ⟨_, fs, _, u, ⟨h1, hx, rfl, tx, pm, nd, few, fit, ris, led⟩⟩)
/-- a text is added -/
theorem tset_hashed {z : Str} {q : Tok} {Q : Bool → Shared → Prop} (R : TSetAt w s.heap a L) (room : L.length + 1 < scanBound)
    (hQ : ∀ h', Heap.SameBut a s.heap h' → TSetAt w h' a (if z ∈ L then L else z :: L) → Q (!decide (z ∈ L)) { s with heap := h' }) :
    wpAny (model P w) A (setAddHashed a (.str z q) (hashStr w z)) Q E s := by
  obtain ⟨o, es, ep, t, T⟩ := R
  have hkey : (strKind P w).is z (.str z q) = true := strKind_is P w z q
  have hsc : (Value.str z q).scannable = true := rfl
  have hel : ElemsOf (strKind P w) es.toList := T.elems
  have hsize := T.size
  unfold setAddHashed setAddHashedIn
  refine wpAny_holding (wpAny_bind (wpAny_setState_of T.ob T.dat T.fit ?_))
  dsimp only
  rw [byScan_of hsc T.few hel, if_pos rfl]
  unfold setAddByScan
  refine wpAny_bind (wpAny_bind (wpAny_rule (wpAny_bind (wpAny_setScan_of hkey T.ob T.dat T.fit hel ?_))))
  cases hf : List.findIdx? (fun e => (strKind P w).is z e.2) es.toList with
  | some j =>
    dsimp only
    obtain ⟨hj, pj, _⟩ := List.findIdx?_eq_some_iff_getElem.mp hf
    have hz : z ∈ L := T.pm.mem_iff.mp (List.mem_map.mpr ⟨es.toList[j], List.getElem_mem hj, ((T.tx _ (List.getElem_mem hj)).is (P := P) z).mp pj⟩)
    have hh := hQ s.heap (Heap.SameBut.refl a s.heap)
    rw [if_pos hz, decide_eq_true hz] at hh
    exact wpAny_pure (wpAny_pure (hh ⟨o, es, ep, t, T⟩))
  | none =>
    dsimp only
    have hz : z ∉ L := fun hm => by
      obtain ⟨e, he, e1⟩ := List.mem_map.mp (T.pm.mem_iff.mpr hm)
      have c := List.findIdx?_eq_none_iff.mp hf e he
      rw [((T.tx e he).is (P := P) z).mpr e1] at c
      cases c
    have fin : ∀ h', Heap.SameBut a s.heap h' → TSetAt w h' a (z :: L) → Q true { s with heap := h' } := fun h' sb r => by
      have hh := hQ h' sb
      rw [if_neg hz, decide_eq_false hz] at hh
      exact hh r
    have hgw : ∀ (b : Bool) {u : Shared} {W : Unit → Shared → Prop}, W () u → wpAny (model P w) A (match b with | true => rule "set.scan.the-table-gave-way" | false => pure ()) W E u := fun b u W c => by
      cases b
      · exact wpAny_pure c
      · exact wpAny_rule c
    have p1 := layNew_perm t es ((strKind P w).hash z) (.str z q)
    have f1 := layNew_fits t es ((strKind P w).hash z) (.str z q)
    have r1 := layNew_ris t es ((strKind P w).hash z) (.str z q) T.ris
    have l1 := layNew_led t es ((strKind P w).hash z) (.str z q)
    show wpAny _ _ _ _ _ _
    have eh : hashStr w z = (strKind P w).hash z := rfl
    rw [eh]
    generalize layNew t es ((strKind P w).hash z) (.str z q) = Y at p1 f1 r1 l1 ⊢
    obtain ⟨fs, u, dm, gv⟩ := Y
    dsimp only at p1 f1 r1 l1 ⊢
    rw [Array.toList_push] at p1
    have pc : fs.toList.Perm ((hashStr w z, Value.str z q) :: es.toList) := p1.trans (List.perm_append_singleton _ _)
    have tx : ∀ e ∈ fs.toList, Tx w e := fun e he => by
      rcases List.mem_cons.mp (pc.mem_iff.mp he) with c | c
      · exact ⟨z, q, by rw [c], by rw [c]⟩
      · exact T.tx e c
    have pk : (fs.toList.map tkey).Perm (z :: L) := (pc.map tkey).trans (List.Perm.cons z T.pm)
    have zs : fs.size = L.length + 1 := by
      have c := pk.length_eq
      rw [List.length_map, Array.length_toList, List.length_cons] at c
      exact c
    have few : fs.size < scanBound := by rw [zs]; exact room
    have nd : (z :: L).Nodup := List.nodup_cons.mpr ⟨hz, T.nd⟩
    have led : w.params.followText "set-order" = true ∨ u.led = true := T.led.imp id fun c => by rw [l1]; exact c
    refine wpAny_bind (hgw _ ?_)
    have hg : ∀ (b : Bool) (u : Shared) (W : Unit → Shared → Prop), W () u → wpAny (model P w) A (match b with | true => rule "set.scan.the-table-gave-way" | false => pure ()) W E u := fun b u W c => hgw b c
    split
    · refine wpAny_bind ?_
      rw [hashByValue_scannable 8 hsc]
      refine wpAny_pure ?_
      refine tset_lay (L := z :: L) ?_ T.ob T.ex T.dat tx pk nd few ?_ ?_ ?_ ?_
      · intro b u W c
        cases b
        · exact wpAny_pure c
        · exact wpAny_rule c
      · first | exact f1 | (split <;> first | exact f1 | exact SetTable.fits_plain_off f1)
      · first | exact r1 | (split <;> exact r1)
      · first | exact led | (split <;> exact led)
      · intro h' sb r
        dsimp only
        exact wpAny_pure (fin h' sb r)
    · refine wpAny_bind (wpAny_pure ?_)
      simp only [↓reduceIte]
      refine tset_lay (L := z :: L) ?_ T.ob T.ex T.dat tx pk nd few f1 r1 led ?_
      · intro b u W c
        cases b
        · exact wpAny_pure c
        · exact wpAny_rule c
      · intro h' sb r
        dsimp only
        exact wpAny_pure (fin h' sb r)
end
end LF

set_option Elab.async false
set_option linter.all false
set_option maxRecDepth 100000
set_option maxHeartbeats 4000000
namespace LF
open PySem PySem.Spec PyProof.Rows L2
/-- the texts of a list, each once: the last that came stands first -/
def once : List Str → List Str → List Str
  | L, [] => L
  | L, z :: r => once (if z ∈ L then L else z :: L) r
theorem once_app : ∀ (xs ys L : List Str), once L (xs ++ ys) = once (once L xs) ys
  | [], _, _ => rfl
  | x :: xs, ys, L => once_app xs ys _
theorem mem_once : ∀ (xs L : List Str) (z : Str), z ∈ once L xs ↔ z ∈ L ∨ z ∈ xs
  | [], L, z => by simp [once]
  | x :: xs, L, z => by
    unfold once
    rw [mem_once xs]
    by_cases h : x ∈ L
    · rw [if_pos h, List.mem_cons]
      constructor
      · rintro (q | q)
        · exact Or.inl q
        · exact Or.inr (Or.inr q)
      · rintro (q | rfl | q)
        · exact Or.inl q
        · exact Or.inl h
        · exact Or.inr q
    · rw [if_neg h, List.mem_cons, List.mem_cons]
      constructor
      · rintro ((q | q) | q)
        · exact Or.inr (Or.inl q)
        · exact Or.inl q
        · exact Or.inr (Or.inr q)
      · rintro (q | q | q)
        · exact Or.inl (Or.inr q)
        · exact Or.inl (Or.inl q)
        · exact Or.inr q
theorem once_len : ∀ (xs L : List Str), (once L xs).length ≤ L.length + xs.length
  | [], L => Nat.le_refl _
  | x :: xs, L => by
    unfold once
    refine Nat.le_trans (once_len xs _) ?_
    rw [List.length_cons]
    split
    · omega
    · rw [List.length_cons]; omega
theorem once_nodup : ∀ (xs L : List Str), L.Nodup → (once L xs).Nodup
  | [], L, h => h
  | x :: xs, L, h => by
    unfold once
    refine once_nodup xs _ ?_
    split
    · exact h
    · rename_i q
      exact List.nodup_cons.mpr ⟨q, h⟩
theorem once_next {ws : List Str} {i : Nat} {z : Str} (h : ws[i]? = some z) (L : List Str) : once L (ws.take (i + 1)) = (if z ∈ once L (ws.take i) then once L (ws.take i) else z :: once L (ws.take i)) := by
  rw [List.take_add_one, h]
  show once L (ws.take i ++ [z]) = _
  rw [once_app]; rfl
section
variable {P : Program} {w : World} {A : Around} {E : Value → Shared → Prop} {s : Shared}
/-- the loop of set.update: one text a turn -/
theorem tset_loop {I : Addr} {fp wr : List Addr} {G : Array GenState → Array GenState → Prop} {n : Nat} {Pv : Nat → Value → Prop} {St : Nat → Shared → Prop} {R : Result → Shared → Prop}
    (W : WalksS P w A.in1 I fp wr G n Pv St) (S : Addr) (apart : S ∉ fp) (ws : List Str) (hn : n = ws.length) (room : ws.length + 1 < scanBound) (val : ∀ i v, Pv i v → ∃ z q, ws[i]? = some z ∧ v = .str z q) :
    ∀ (left i : Nat) (u : Shared), n - i = left → i ≤ n → St i u → TSetAt w u.heap S (once [] (ws.take i)) →
      (∀ u', Moved (S :: wr) G u u' → TSetAt w u'.heap S (once [] ws) → R (.ok (.ret .none)) u') → codeAny (model P w) A (.builtin "set.update.loop" ⟨[.ref S, .ref I], []⟩) R u := by
  have Swr : S ∉ wr := fun c => apart (W.sub _ c)
  have wide : ∀ b ∈ wr, b ∈ S :: wr := fun b c => List.mem_cons_of_mem _ c
  intro left
  induction left with
  | zero =>
    intro i u hl hi st T hR
    obtain rfl : i = n := by omega
    refine codeAny_builtin F.entry_set_update_loop ?_
    rw [Around.under_plainId F.plain_set_update_loop _]
    show wpAny _ A.in1 (pyNext (.ref I) >>= _) _ _ u
    refine wpAny_bind (W.done u _ _ st fun u' mv => ?_)
    show wpAny _ A.in1 (ret Value.none) _ _ u'
    rw [hn, List.take_length] at T
    exact wpAny_pure (hR u' (mv.mono wide) (T.at fun o e => mv.heap S o Swr e))
  | succ left ih =>
    intro i u hl hi st T hR
    have lt : i < n := by omega
    refine codeAny_builtin F.entry_set_update_loop ?_
    rw [Around.under_plainId F.plain_set_update_loop _]
    show wpAny _ A.in1 (pyNext (.ref I) >>= _) _ _ u
    refine wpAny_bind (W.item i u _ _ lt st fun v u' hv st' mv => ?_)
    obtain ⟨z, q, hz, rfl⟩ := val i v hv
    have T' := T.at (h' := u'.heap) fun o e => mv.heap S o Swr e
    have nx := once_next hz []
    have few := once_len (ws.take i) []
    rw [List.length_take] at few
    generalize once [] (ws.take i) = D at T' nx few
    show wpAny _ A.in1 (holding [Value.str z q] (setAdd S (.str z q)) >>= _) _ _ u'
    refine wpAny_bind (wpAny_holding ?_)
    unfold setAdd
    refine wpAny_holding ?_
    refine wpAny_bind ((strKind P w).pyHash (strKind_is P w z q) ?_)
    refine tset_hashed (s := { u' with toks := u'.toks + 1 }) T' (by have h0 : ([] : List Str).length = 0 := rfl; omega) fun h' sb T2 => ?_
    rw [← nx] at T2
    have off : ∀ b o, b ≠ S → u'.heap.get? b = some o → h'.get? b = some o := fun b o c e => (sb.2 b c).trans e
    refine wpAny_pure ⟨plainId_quiet F.plain_set_update_loop _, ih (i + 1) _ (by omega) lt (W.frame _ u' _ _ st' (Nat.le_succ _) fun b c o e => off b o (fun c2 : b = S => apart (by rw [← c2]; exact c)) e) T2 fun u2 mv2 T3 => ?_⟩
    refine hR u2 (Moved.trans W.gtrans ((mv.mono wide).then_heap (Nat.le_succ _) fun b o c e => off b o (fun c2 : b = S => c (by rw [c2]; exact List.mem_cons_self)) e) mv2) T3
end
end LF

set_option Elab.async false
set_option linter.all false
set_option maxRecDepth 100000
set_option maxHeartbeats 4000000
namespace LF
open PySem PySem.Spec PyProof.Rows L2
section
variable {P : Program} {w : World} {A : Around} {E : Value → Shared → Prop} {s : Shared}
set_option maxHeartbeats 8000000 in
/-- set(xs), xs a list of texts -/
theorem tset_call {l : Addr} {items : Array Value} (ws : List Str) {Q : Value → Shared → Prop} (calm : A.handled = none) (hl : s.heap.IsList l items) (hit : StrsAre items.toList ws) (room : ws.length + 1 < scanBound)
    (hq : ∀ (h' : Heap) (tk : Nat), TSetAt w h' s.heap.objs.size (once [] ws) → (∀ b o, s.heap.get? b = some o → h'.get? b = some o) → Q (.ref s.heap.objs.size) { s with heap := h', toks := tk }) :
    wpAny (model P w) A (call (.type "set") [.ref l]) Q E s := by
  have isz : items.size = ws.length := by
    have c := hit.length
    rw [Array.length_toList] at c
    exact c
  obtain ⟨c0, t0, mro⟩ := F.called_set.mro
  have m1 := F.called_set.made
  have m2 := F.called_set.sub
  have m3 := F.called_set.notType
  have m4 := F.called_set.canCreate
  have m5 := F.typeCall_set_1 (.ref l)
  refine wpAny_call (codeAny_of_tree ?_)
  show wpAny _ _ (callAny (.type "set") _) _ _ _
  refine wpAny_pure ⟨Code.quiet_builtin _ (by decide +kernel), codeAny_builtin F.entry_type_call ?_⟩
  rw [Around.under_plain (weight_type_call_type "set" [.ref l] []) rfl]
  repeat (any_goals (first | assumption | wp_step))
  generalize ho0 : ({ cls := .type "set", dict := none, data := .set #[] 0 (.fresh 0 0 (!w.params.followText "set-order")) } : Obj) = o0
  have R0 : TSetAt w (s.heap.push o0) s.heap.objs.size [] := by rw [← ho0]; exact tset_new w
  have hcls : o0.cls = .type "set" := by rw [← ho0]
  have hfr : o0.isFreed = false := by rw [← ho0]; rfl
  refine codeAny_mono (code_set_led1 (.ref l) (E := E) (Q₁ := fun ob u => ob = .ref s.heap.objs.size ∧ u = { s with heap := s.heap.push o0 }) (by rw [ho0]; exact ⟨rfl, rfl⟩)) fun r u hr => ?_
  cases r with
  | error e => exact hr
  | ok fl =>
    cases fl with
    | ret ob =>
      obtain ⟨rfl, rfl⟩ := hr
      have hS : (s.heap.push o0).get? s.heap.objs.size = some o0 := Heap.get?_push_size _ hfr
      have hT : Shared.TypeIs { s with heap := s.heap.push o0 } (.ref s.heap.objs.size) "set" := ⟨_, hS, hcls⟩
      have hli := F.called_set.init.lookup
      have hbi := F.called_set.init.bind (.ref s.heap.objs.size)
      repeat (any_goals (first | assumption | wp_step))
      refine codeAny_mono (codeAny_call_builtin (R := wants (fun r u2 => r = .none ∧ ∃ h' tk, u2 = { s with heap := h', toks := tk } ∧ TSetAt w h' s.heap.objs.size (once [] ws) ∧ (∀ b o, s.heap.get? b = some o → h'.get? b = some o)) E) F.called_set.init.plain F.entry_set_init (check_set_init_1 hT ?_)) fun r2 u2 hr2 => ?_
      · obtain ⟨ol, hol, hcl, nl, hdl⟩ := hl
        obtain ⟨oc, od, oda, osl⟩ := ol
        simp only at hcl hdl
        subst hcl
        subst hdl
        have hol1 : (s.heap.push o0).get? l = some { cls := .type "list", dict := od, data := .seq items nl, slots := osl } := Heap.get?_push_of_some _ hol
        have n1 := F.sub_list_set
        have n2 := F.sub_list_frozenset
        have n3 : (Value.type "list" == Value.type "dict") = false := by decide
        have hl1 : (s.heap.push o0).IsList l items := ⟨_, hol1, rfl, nl, rfl⟩
        have lt : l < s.heap.objs.size := Heap.lt_size hol
        have c3 : A.in1.in1.in1.handled = none := by simp [calm]
        have z1 : (s.heap.push o0).objs.size = s.heap.objs.size + 1 := Heap.size_push ..
        have neI : l ≠ (s.heap.push o0).objs.size := by rw [z1]; exact Nat.ne_of_lt (Nat.lt_succ_of_lt lt)
        have apart : s.heap.objs.size ∉ [(s.heap.push o0).objs.size, l] := by
          rw [z1]
          simp only [List.mem_cons, List.mem_singleton, List.not_mem_nil, or_false, not_or]
          exact ⟨Nat.ne_of_lt (Nat.lt_succ_self _), Nat.ne_of_gt lt⟩
        have val : ∀ (i : Nat) (v : Value), items[i]? = some v → ∃ z q, ws[i]? = some z ∧ v = .str z q := fun i v hv => by
          have e1 : items.toList[i]? = some v := by rw [Array.getElem?_toList]; exact hv
          obtain ⟨z, q, rfl⟩ := hit.all v (List.mem_of_getElem? e1)
          refine ⟨z, q, ?_, rfl⟩
          rw [← hit.strs, List.getElem?_map, e1]; rfl
        have hin : ∀ b o, s.heap.get? b = some o → b < s.heap.objs.size := fun b o e => Heap.lt_size e
        subst ho0
        unfold Builtin.«set.__init__» noKeywords Builtin.Frozenset.updateFrom
        generalize hPI : pyIter = PI
        wp_walk
        subst hPI
        refine wpAny_pyIter_list hl1 ?_
        refine wpAny_bind (wpAny_runValue ?_)
        refine tset_loop ((Walks.list c3 _ l neI items).toS) s.heap.objs.size apart ws isz room val (items.size - 0) 0 _ (by omega) (Nat.zero_le _)
          ⟨⟨_, Heap.get?_push_size _ rfl, rfl, rfl⟩, (hl1.push _)⟩ (R0.at fun o e => Heap.get?_push_of_some _ e) fun u' mv T => ?_
        obtain ⟨h', g', d', tk', os'⟩ := u'
        have eg : g' = s.gens := mv.gens
        have ed : d' = s.drawn := mv.drawn
        have eo : os' = s.os := mv.os
        subst eg
        subst ed
        subst eo
        refine wpAny_pure ?_
        show wpAny _ _ (ret Value.none) _ _ _
        refine wpAny_pure ⟨rfl, h', tk', rfl, T, fun b o e => ?_⟩
        have ltb := Heap.lt_size e
        refine mv.heap b o (fun c => ?_) (Heap.get?_push_of_some _ (Heap.get?_push_of_some _ e))
        rcases List.mem_cons.mp c with c | c
        · exact absurd c (Nat.ne_of_lt ltb)
        · have c1 := List.mem_singleton.mp c
          rw [z1] at c1
          exact absurd c1 (Nat.ne_of_lt (Nat.lt_succ_of_lt ltb))
      · cases r2 with
        | error e => exact hr2
        | ok fl2 =>
          cases fl2 with
          | ret r =>
            obtain ⟨rfl, h', tk, rfl, T, k⟩ := hr2
            repeat (any_goals (first | assumption | wp_step))
            exact hq _ _ T k
          | _ => exact hr2.elim
    | _ => exact hr.elim
/-- sorted(found): its texts in some order, each once -/
theorem tset_sorted {a : Addr} {L : List Str} {Q : Value → Shared → Prop} (R : TSetAt w s.heap a L) (calm : A.handled = none) (hu : A.units + 64 < cLine)
    (hq : ∀ u p (out : List Value) (c : Nat) (ws : List Str), (∀ b o, s.heap.get? b = some o → u.heap.get? b = some o) → u.gens = s.gens → u.os = s.os → s.heap.objs.size ≤ p →
      u.heap.get? p = some (seqObj "list" out.toArray c) → PySem.W.EachIs (fun v z => ∃ q, v = Value.str z q) out ws → ws.Perm L → Q (.ref p) u) :
    wpAny (model P w) A (call (.builtin "sorted") [.ref a]) Q E s := by
  obtain ⟨o, es, ep, t, T⟩ := R
  refine Calls.call_function_entry kind_sorted plain_sorted entry_sorted (args_sorted1 _) ?_
  unfold Builtin.«sorted»
  refine wpAny_bind (m := checkCount "sorted" 1 1 _) (wpAny_pure ?_)
  refine wpAny_bind (collect_set (A := A.in1) calm ⟨o, T.ob, T.ex.1, T.dat⟩ T.fit T.few T.ris T.led fun u vs k1 hz g1 o1 pm => ?_)
  have each : ∀ vs : List Value, (∀ v ∈ vs, ∃ z q, v = Value.str z q) → PySem.W.EachIs (fun v z => ∃ q, v = Value.str z q) vs (vs.map fun v => tkey (0, v)) := by
    intro vs
    induction vs with
    | nil => intro _; exact .nil
    | cons v vs ih =>
      intro hv
      obtain ⟨z, q, rfl⟩ := hv v List.mem_cons_self
      exact .cons ⟨q, rfl⟩ (ih fun x hx => hv x (List.mem_cons_of_mem _ hx))
  have e1 := each vs fun v hv => by
    obtain ⟨e, he, rfl⟩ := List.mem_map.mp (pm.mem_iff.mp hv)
    obtain ⟨z, q, e1, _⟩ := T.tx e he
    exact ⟨z, q, e1⟩
  have p1 : (vs.map fun v => tkey (0, v)).Perm L := by
    refine List.Perm.trans (pm.map _) ?_
    rw [List.map_map]
    exact T.pm
  generalize vs.map (fun v => tkey (0, v)) = zs at e1 p1
  have zl := e1.length
  have ll : zs.length = es.size := by rw [p1.length_eq, T.size]
  have fw := fits_of_scanBound T.few
  refine wpAny_bind (wpAny_newList ?_ (by rw [zl, ll]; exact fw))
  have hoL : (u.heap.push (seqObj "list" vs.toArray 0)).get? u.heap.objs.size = some (seqObj "list" vs.toArray 0) := Heap.get?_push_size _ rfl
  have depth0 : ∀ z : Str, (PyData.str z).depth = 0 := fun z => by simp [PyData.depth]
  have al : PySem.W.AllAlike (zs.map PyData.str) := PySem.W.AllAlike.of fun b b' => by simp [PySem.W.alike]
  have so : PySem.W.Sortable (zs.map PyData.str) := PySem.W.Sortable.others fun b => ⟨fun c => (nomatch c), fun xs c => (nomatch c)⟩
  have er : PySem.W.EachIs (fun v (z : Str) => ∃ as, Reads (u.heap.push (seqObj "list" vs.toArray 0)) v (.str z) as ∧ u.heap.objs.size ∉ as) vs zs := e1.mono fun v z ⟨q, c⟩ => ⟨[], by rw [c]; exact .str _ _, List.not_mem_nil⟩
  refine wpAny_bind (wpAny_holding (PySem.W.list_sort_data (s := { u with heap := u.heap.push (seqObj "list" vs.toArray 0) }) (enc := PyData.str) hoL e1 er al so (by rw [ll]; exact fw) (fun b hb => ?_) fun out hl eo => ?_))
  · show A.units + 1 + 1 + (PyData.str b).depth < cLine
    rw [depth0]
    omega
  · obtain ⟨c, hc⟩ := sortedHeap_at (vs := vs) (out := out.toArray) hoL
    refine wpAny_pure ⟨_, rfl, hq _ u.heap.objs.size out c _ (fun b x e => ?_) g1 o1 hz hc eo ((List.mergeSort_perm zs _).trans p1)⟩
    have q := k1 b x e
    have lt := Heap.lt_size q
    show (sortedHeap (u.heap.push (seqObj "list" vs.toArray 0)) u.heap.objs.size vs out.toArray).get? b = some x
    rw [sortedHeap_old (Nat.ne_of_lt lt) (by rw [size_push']; exact Nat.lt_succ_of_lt lt)]
    exact Heap.get?_push_of_some _ q
end
/-- a set of texts in the heap -/
def SetTx (w : World) (a : Addr) (L : List Str) : HO := .ext fun h => TSetAt w h a L
theorem setTx_new {w : World} {P : Program} {H : Hp} {h : Heap} {a : Addr} {L : List Str} (R : TSetAt w h a L) : ObjOk P w H h a (SetTx w a L) := by
  have R' := R
  obtain ⟨o, es, ep, t, T⟩ := R'
  exact ⟨R, ⟨o, T.ob⟩, fun h1 h2 p k => TSetAt.at p k⟩
section
variable {X : Cx}
/-- set(xs), xs a list of texts -/
def rSetTx (K : PySem.W.Frag) (w : World) : List V → Hp → VK → Prop := fun xs H Q => ∃ (l : Addr) (ws : List Str), xs = [V.ref l] ∧ SqL K H l (ws.map V.str) ∧ ws.length + 1 < scanBound ∧ ∀ p, H p = none → Q (.ref p) (upd H p (SetTx w p (once [] ws)))
theorem call_setTx (hc : X.calm = true) : CallR X (.type "set") (rSetTx X.K X.w) := by
  intro pins s σ H xs us Q I r h
  obtain ⟨l, ws, rfl, hl, few, q⟩ := h
  rw [Vals.ref1 r]
  obtain ⟨its, rv, pl, hz⟩ := I.list hl
  refine tset_call (P := X.prog) (w := X.w) ws (I.ok.hd hc) pl.isList (by simpa using rv.strs) few fun h' tk R k => ?_
  exact ⟨.ref s.heap.objs.size, upd H s.heap.objs.size (SetTx X.w s.heap.objs.size (once [] ws)), I.laid (t' := tk) k (Nat.le_refl _) (setTx_new R), rfl, q _ (I.hok.fresh (Nat.le_refl _))⟩
theorem each_strs : ∀ {us : List Value} {ws : List Str}, PySem.W.EachIs (fun v z => ∃ q, v = Value.str z q) us ws → Vals (ws.map V.str) us
  | _, _, .nil => .nil
  | _, _, .cons ⟨q, e⟩ t => .cons ⟨q, e⟩ (each_strs t)
/-- sorted(found), found a set of texts -/
def rSortTx (w : World) : List V → Hp → VK → Prop := fun xs H Q => ∃ (a : Addr) (L : List Str), xs = [V.ref a] ∧ H a = some (SetTx w a L) ∧ L.length ≤ sizeLine ∧ ∀ (ws : List Str) (p : Addr), ws.Perm L → H p = none → Q (.ref p) (upd H p (.lst (ws.map V.str)))
theorem call_sortTx (hc : X.calm = true) (hu : X.A.units + 64 < cLine) : CallR X (.builtin "sorted") (rSortTx X.w) := by
  intro pins s σ H vs us Q I r h
  obtain ⟨a, L, rfl, ha, hz, q⟩ := h
  have R : TSetAt X.w s.heap a L := (I.hok a _ ha).1
  rw [Vals.ref1 r]
  refine tset_sorted R (I.ok.hd hc) hu fun u p out c ws k g o hp hg eo pm => ?_
  have len : (ws.map V.str).length ≤ sizeLine := by rw [List.length_map, pm.length_eq]; exact hz
  have new : H p = none := I.hok.fresh hp
  have J : Inv X pins σ (upd H p (.lst (ws.map V.str))) { s with heap := u.heap, gens := u.gens, drawn := u.drawn, toks := u.toks } :=
    I.call (ch := []) (Un.laid k hp new) (I.hok.laid k hp ⟨len, out, c, each_strs eo, hg⟩) (by rw [g]; exact I.bare) (fun _ z => nomatch z)
  have e : u = { s with heap := u.heap, gens := u.gens, drawn := u.drawn, toks := u.toks } := by
    cases u
    cases s
    cases o
    rfl
  rw [e]
  exact ⟨.ref p, _, J, rfl, q ws p pm new⟩
end
end LF

set_option Elab.async false
set_option linter.all false
set_option maxRecDepth 100000
set_option maxHeartbeats 4000000
namespace LF
open PySem PySem.Spec PyProof.Rows L2
open PySem.W (EachIs dataLe AllAlike Sortable)
/-- sorted(xs), xs values that read as alike data: rv tells what each stands for -/
def rSortD {β : Type} (K : PySem.W.Frag) (enc : β → PyData) : List V → Hp → VK → Prop := fun vs H Q => ∃ (rv : V → β → Prop) (a : Addr) (xs : List V) (bs : List β), vs = [.ref a] ∧ SqL K H a xs ∧ EachIs rv xs bs ∧
  EachIs (fun x b => Dp K H x (enc b)) xs bs ∧ AllAlike (bs.map enc) ∧ Sortable (bs.map enc) ∧ (∀ b ∈ bs, (enc b).depth ≤ 60) ∧
  ∀ ys p, EachIs rv ys (bs.mergeSort (dataLe false enc)) → H p = none → Q (.ref p) (upd H p (.lst ys))
theorem vals_back {β : Type} {rv : V → β → Prop} : ∀ {us : List Value} {bs : List β}, EachIs (fun u b => ∃ x, RelV x u ∧ rv x b) us bs → ∃ ys, Vals ys us ∧ EachIs rv ys bs
  | _, _, .nil => ⟨[], .nil, .nil⟩
  | _, _, .cons ⟨x, r, h⟩ t => by
    obtain ⟨ys, v, e⟩ := vals_back t
    exact ⟨x :: ys, .cons r v, .cons h e⟩
theorem each_both {β : Type} {rv rw : V → β → Prop} : ∀ {xs : List V} {us : List Value} {bs : List β}, Vals xs us → EachIs rv xs bs → EachIs rw xs bs → EachIs (fun u b => ∃ x, RelV x u ∧ rv x b) us bs ∧ EachIs (fun u b => ∃ x, RelV x u ∧ rw x b) us bs
  | _, _, _, .nil, .nil, .nil => ⟨.nil, .nil⟩
  | _, _, _, .cons r v, .cons h t, .cons h2 t2 => by
    obtain ⟨e1, e2⟩ := each_both v t t2
    exact ⟨.cons ⟨_, r, h⟩ e1, .cons ⟨_, r, h2⟩ e2⟩
section
variable {X : Cx}
theorem call_sortD {β : Type} {enc : β → PyData} (hu : X.A.units + 64 < cLine) : CallR X (.builtin "sorted") (rSortD X.K enc) := by
  intro pins s σ H vs us Q I r h
  obtain ⟨rv, a, xs, bs, rfl, hs, e1, e2, al, so, dep, q⟩ := h
  obtain ⟨its, rvs, hl, hz⟩ := I.list hs
  rw [Vals.ref1 r]
  obtain ⟨f1, f2⟩ := each_both rvs e1 e2
  have f3 : EachIs (fun u b => ∃ as, Reads s.heap u (enc b) as) its bs := f2.mono fun u b ⟨x, rx, d⟩ => Dp.reads I _ _ _ d rx
  have hzb : bs.length ≤ sizeLine := by rw [← e1.length]; exact hz
  refine PySem.W.sorted_data (R := fun u b => ∃ x, RelV x u ∧ rv x b) hl.isList f1 f3 al so hzb (fun b hb => ?_) fun out ho eo => ?_
  · have := dep b hb
    omega
  · obtain ⟨c, hc⟩ := PyProof.Rows.sortedAll_at s.heap its out.toArray
    obtain ⟨ys, v, ey⟩ := vals_back eo
    have hlen : ys.length ≤ sizeLine := by rw [v.length, ho]; exact hzb
    exact ⟨.ref _, upd H (s.heap.objs.size + 1) (.lst ys), I.laid (t' := s.toks) (fun _ _ => PyProof.Rows.sortedAll_old) (Nat.le_succ _) ⟨hlen, out, c, v, hc⟩, rfl, q ys _ ey (I.hok.fresh (Nat.le_succ _))⟩
end
end LF

set_option Elab.async false
set_option linter.all false
set_option maxRecDepth 100000
set_option maxHeartbeats 4000000
namespace KC
open PySem PySem.Spec PyProof.Rows L2 LF
open Evl (Ev EvL EvU EvT EvA Ex sq_of st_of)
open PySem.W (EachIs dataLe AllAlike Sortable)
theorem keep_unlock {b d : Addr} {H H' : Hp} {u : HO} {o : Obj} (h : H d = some u) (s : Keep b (upd H d (.frz o u)) H') : Keep b H (upd H' d u) := fun a x n e => by
  by_cases hb : a = d
  · subst hb
    rw [upd_same, ← e, h]
  · rw [upd_ne hb]
    exact s a x n (by rw [upd_ne hb]; exact e)
/-- places: pairs of a name and a path -/
def PlA (H : Hp) : V → Prop := fun v => ∃ q z t, v = .ref q ∧ H q = some (.tup [.str z, .str t]) ∧ isNm z = true ∧ Pth 30 t
def PlF (f : Addr) (xs : List V) (H : Hp) : Prop := ∀ v ∈ xs, ∃ q z t, v = .ref q ∧ q ≠ f ∧ H q = some (.tup [.str z, .str t]) ∧ isNm z = true ∧ Pth 30 t
theorem PlF.keep {f : Addr} {xs : List V} {H H' : Hp} (h : PlF f xs H) (k : Keep f H H') : PlF f xs H' := fun v hv => by
  obtain ⟨q, z, t, a, b, c, d⟩ := h v hv
  exact ⟨q, z, t, a, b, k _ _ b c, d⟩
theorem PlF.unlock {f d : Addr} {xs : List V} {H : Hp} {o : Obj} {u w : HO} (h : PlF f xs H) (hd : H d = some (.frz o u)) : PlF f xs (upd H d w) := fun v hv => by
  obtain ⟨q, z, t, a, b, c, e⟩ := h v hv
  refine ⟨q, z, t, a, b, ?_, e⟩
  rw [upd_ne (fun x => by rw [x, hd] at c; cases c)]; exact c
def encP (p : Str × Str) : PyData := .tuple [.str p.1, .str p.2]
theorem each_mem {α β : Type} {R : α → β → Prop} : ∀ {xs : List α} {bs : List β}, EachIs R xs bs → ∀ x ∈ xs, ∃ b, b ∈ bs ∧ R x b
  | _, _, .nil, _, h => nomatch h
  | _, _, .cons h t, x, hx => by
    rcases List.mem_cons.mp hx with rfl | hx
    · exact ⟨_, List.mem_cons_self, h⟩
    · obtain ⟨b, hb, r⟩ := each_mem t x hx
      exact ⟨b, List.mem_cons_of_mem _ hb, r⟩
theorem each_of {α β : Type} {R : α → β → Prop} : ∀ {xs : List α}, (∀ x ∈ xs, ∃ b, R x b) → ∃ bs, EachIs R xs bs
  | [], _ => ⟨[], .nil⟩
  | x :: xs, h => by
    obtain ⟨b, hb⟩ := h x List.mem_cons_self
    obtain ⟨bs, hs⟩ := each_of fun y hy => h y (List.mem_cons_of_mem _ hy)
    exact ⟨b :: bs, .cons hb hs⟩
def spPlaces : Sp := fun vs H Q _ => ∃ g, vs = [.ref g] ∧ Farm [] g H ∧ ∀ H' p xs, Ex H H' → H p = none → H' p = some (.lst xs) → (∀ v ∈ xs, PlA H' v) → xs.length ≤ 60 → Q (.ref p) H'
abbrev s__law_places : Stmt := topS 26
abbrev N__law_places : List Str := ["_law_farm_here", "_law_found", "_law_label", "_law_path", "_law_item"]
theorem sc__law_places : FnScope ["_law_farm_here", "_law_found", "_law_label", "_law_path", "_law_item"] ["_law_farm_here"] (defScope s__law_places) := ⟨rfl, rfl, rfl, by decide +kernel, rfl, by decide +kernel, by decide +kernel⟩
section
variable {P : Program} {w : World} {K : PySem.W.Frag} {mg : Str → Option Value} {base : Heap} {tk1 tk2 : Tok}
theorem ok_places {f f1 : Addr} {fd fd1 : FuncData} (F : Fun K "_law_places" "_law_places" s__law_places f fd) (T : Txt K mg tk1 tk2) (d__law_is_plain : DefAt P w K mg base "_law_is_plain" 1 f1 fd1 ["_law_entries_here", "_law_path"] spPlain) :
    FnOk P w K mg base CX0 2 f fd ["_law_farm_here"] spPlaces := by
  refine F.ok sc__law_places (fun vs H Q E h => ?_) (fun cdv A outer s H vs Q E hr h => ?_)
  · obtain ⟨g, rfl, _⟩ := h
    rfl
  have hu1 := hu_of hr
  have hu := hr.units
  refine ⟨_, (pss_cons (ps_set (i := 1) sc__law_places.nd rfl (Or.inl rfl) (pe_lst pa_nil))
    (Evl.pss_cut (ps_lock (ps_for PassesOwn.never rfl (pi_keys (pv 0)) (pg_name (i := 2) sc__law_places.nd rfl (Or.inl rfl)) (pss_one (ps_lock (ps_for PassesOwn.never rfl (pi_keys (pe_dget hu1 (pv 0) (pv 2) (fun _ _ => rfl))) (pg_name (i := 3) sc__law_places.nd rfl (Or.inl rfl)) (pss_cons (ps_set (i := 4) sc__law_places.nd rfl (Or.inl rfl) (pe_dget hu1 (pe_dget hu1 (pv 0) (pv 2) (fun _ _ => rfl)) (pv 3) (fun _ _ => rfl)))
    (pss_one (ps_if (PW.pt (pw_or (pt_val (pe_callB call_isi (by rfl) T.n_isinstance (by decide +kernel) (pa_cons (pv 4) (pa_cons (pe_bltn (v := .ty "int") (by rfl) T.n_int (by decide +kernel) rfl) pa_nil)))) (pw_or1 (pt_val (pe_callD d__law_is_plain (hr.mono (by decide)) (pa_cons (pe_dget hu1 (pv 0) (pv 2) (fun _ _ => rfl)) (pa_cons (pv 3) pa_nil))))))) (pss_one (ps_expr (pe_bm PySem.F.plainAttrs_list PySem.F.slot_list_append PySem.F.type_list_append mt_append (pv 1) (pa_cons (pe_tup (pa_cons (pv 2) (pa_cons (pv 3) pa_nil))) pa_nil)))) pss_nil))))))))
    (pss_one (ps_ret (pe_callB (call_sortD (enc := encP) hu) (by rfl) T.n_sorted (by decide +kernel) (pa_cons (pv 1) pa_nil)))))), ?_⟩
  obtain ⟨g, rfl, ⟨kvs, hg, _, hl3, hk⟩, hq⟩ := h
  refine ⟨by show 0 ≤ sizeLine; decide, fun fl nf => ?_⟩
  have nfg : g ≠ fl := fun x => by rw [x, nf] at hg; cases hg
  have x1 : Ex H (upd H fl (.lst [])) := Ex.new nf
  have hg1 := x1 _ _ hg
  have fl1 : (upd H fl (.lst [])) fl = some (.lst []) := upd_same
  have old : ∀ {a o}, H a = some o → a ≠ fl := fun h x => by rw [x, nf] at h; cases h
  generalize upd H fl (.lst []) = H1 at *
  refine ⟨fun σ' H' => ∃ v2 v3 v4 xs, σ' = [some (.ref g), some (.ref fl), v2, v3, v4] ∧ Keep fl H1 H' ∧ H' fl = some (.lst xs) ∧ PlF fl xs H' ∧ xs.length ≤ 60, ?_, ?_⟩
  · refine ⟨g, .dK kvs, hg1, trivial, fun od => ?_⟩
    refine ⟨_, rfl, g, od, rfl, Or.inl ⟨kvs, upd_same, ?_⟩⟩
    refine for_it walk_keys (fun i σ' H' => ∃ v2 v3 v4 xs, σ' = [some (.ref g), some (.ref fl), v2, v3, v4] ∧ Keep fl (upd H1 g (.frz od (.dK kvs))) H' ∧ H' fl = some (.lst xs) ∧ PlF fl xs H' ∧ xs.length ≤ 20 * i) ⟨_, _, _, [], rfl, Keep.refl _ _, by rw [upd_ne nfg.symm]; exact fl1, (fun _ h => nomatch h), Nat.zero_le _⟩ (fun i σ' H' _ ⟨_, _, _, _, _, k, _⟩ => k _ _ nfg upd_same) ?_ ?_
    · rintro i x σ' H2' H2 hi ⟨v2, v3, v4, xs, rfl, k2, hx, gx, lx⟩ ⟨rfl, kk, vv, hkv, rfl⟩
      obtain ⟨z, _, e0, hz, _, _, _⟩ := hk _ (List.mem_of_getElem? hkv)
      cases e0
      obtain ⟨vv', hv', hm'⟩ := val_some (kvs := kvs) (k := .inr z) (List.mem_map.mpr ⟨_, List.mem_of_getElem? hkv, rfl⟩)
      obtain ⟨z', e', e1, _, _, neg, es, _, hes, hen, hel⟩ := hk _ hm'
      cases e1
      have nef := old hes
      have he2 := k2 _ _ nef (by rw [upd_ne neg]; exact x1 _ _ hes)
      have hg2 := k2 _ _ nfg upd_same
      refine ⟨e', .dK es, he2, trivial, fun od2 => ?_⟩
      have dgg : ∀ {H3}, Keep fl (upd H2 e' (.frz od2 (.dK es))) H3 → DGet H3 g (.str z) (some (.ref e')) := fun k => by
        have : DGet _ g (kV (.inr z)) (valV kvs (.inr z)) := Or.inl ⟨kvs, .inr z, Or.inr ⟨od, k _ _ nfg (by rw [upd_ne neg.symm]; exact hg2)⟩, rfl, rfl⟩
        rw [hv'] at this; exact this
      refine ⟨_, rfl, _, rfl, g, .ref e', rfl, dgg (Keep.refl _ _), e', od2, rfl, Or.inl ⟨es, upd_same, ?_⟩⟩
      refine for_it walk_keys (fun j σ' H' => ∃ v3 v4 ys, σ' = [some (.ref g), some (.ref fl), some (.str z), v3, v4] ∧ Keep fl (upd H2 e' (.frz od2 (.dK es))) H' ∧ H' fl = some (.lst ys) ∧ PlF fl ys H' ∧ ys.length ≤ 20 * i + j) ⟨_, _, xs, rfl, Keep.refl _ _, by rw [upd_ne nef.symm]; exact hx, ?_, lx⟩ (fun j σ' H' _ ⟨_, _, _, _, k, _⟩ => k _ _ nef upd_same) ?_ ?_
      · intro v hv
        obtain ⟨q, z, t, a, b, c, d⟩ := gx v hv
        exact ⟨q, z, t, a, b, by rw [upd_ne (fun x => by rw [x, he2] at c; cases c)]; exact c, d⟩
      · rintro j x σ' H3' H3 hj ⟨v3, v4, ys, rfl, k3, hy, gy, ly⟩ ⟨rfl, kk, u, hku, rfl⟩
        have lj : j < es.length := hj
        have li : i < kvs.length := hi
        obtain ⟨⟨t, ek, ht⟩, _⟩ := hen _ (List.mem_of_getElem? hku)
        cases ek
        obtain ⟨v, hv, hm⟩ := val_some (kvs := es) (k := .inr t) (List.mem_map.mpr ⟨_, List.mem_of_getElem? hku, rfl⟩)
        have lt := ht.len
        have he3 := k3 _ _ nef upd_same
        have dge : DGet H3 e' (.str t) (some v) := by
          have : DGet H3 e' (kV (.inr t)) (valV es (.inr t)) := Or.inl ⟨es, .inr t, Or.inr ⟨od2, he3⟩, rfl, rfl⟩
          rw [hv] at this; exact this
        refine ⟨_, rfl, _, rfl, g, .ref e', rfl, dgg k3, _, rfl, e', v, rfl, dge, ?_⟩
        have hty : ∃ ty c, TyX K H3 v (.type ty) ∧ PySem.W.kitOne K (.type ty) (.type "int") = some c := by
          rcases (hen _ hm).2 with h | ⟨i, h⟩ | ⟨s, h⟩
          · cases h; exact ⟨"NoneType", false, .base .non, kit_ty (by decide +kernel)⟩
          · cases h; exact ⟨"int", true, .base (.int i), kit_ty (by decide +kernel)⟩
          · cases h; exact ⟨"str", false, .base (.str s), kit_ty (by decide +kernel)⟩
        obtain ⟨ty, c, hty, hkit⟩ := hty
        have stay : ∀ {H4}, Ex H3 H4 → ∃ v3 v4 ys, [some (V.ref g), some (.ref fl), some (.str z), some (.str t), some v] = [some (.ref g), some (.ref fl), some (.str z), v3, v4] ∧ Keep fl (upd H2 e' (.frz od2 (.dK es))) H4 ∧ H4 fl = some (.lst ys) ∧ PlF fl ys H4 ∧ ys.length ≤ 20 * i + (j + 1) := fun e4 => ⟨_, _, ys, rfl, k3.trans (Same.keep e4), e4 _ _ hy, gy.keep (Same.keep e4), by omega⟩
        have app : ∀ {D : Ends} {H4}, Ex H3 H4 → (∀ σ2 H5, (∃ v3 v4 ys, σ2 = [some (.ref g), some (.ref fl), some (.str z), v3, v4] ∧ Keep fl (upd H2 e' (.frz od2 (.dK es))) H5 ∧ H5 fl = some (.lst ys) ∧ PlF fl ys H5 ∧ ys.length ≤ 20 * i + (j + 1)) → D.nx σ2 H5) →
            tDrop (tBM K "list" rAppend (tVar 1) (tCons (tTup (tCons (tVar 2) (tCons (tVar 3) tNil))) tNil)) D [some (V.ref g), some (.ref fl), some (.str z), some (.str t), some v] H4 := fun e4 k => by
          have hy4 := e4 _ _ hy
          refine ⟨_, rfl, Or.inl ⟨rfl, _, SqL.of hy4⟩, _, rfl, _, rfl, by show 2 ≤ sizeLine; decide, fun q hq2 => ?_⟩
          have nqf : q ≠ fl := fun x => by rw [x, hy4] at hq2; cases hq2
          refine ⟨fl, ys, .ref q, rfl, rfl, by rw [upd_ne nqf.symm]; exact hy4, Evl.sz_lt (by omega), k _ _ ⟨_, _, ys ++ [.ref q], rfl, keep_put ((k3.trans (Same.keep e4)).trans (Same.keep (Ex.new hq2))), upd_same, fun u hu => ?_, by rw [List.length_append]; simp; omega⟩⟩
          rcases List.mem_append.mp hu with hu | hu
          · obtain ⟨q', z', t', a, b, c, d⟩ := gy u hu
            exact ⟨q', z', t', a, b, by rw [upd_ne b]; exact Ex.new hq2 _ _ (e4 _ _ c), d⟩
          · exact ⟨q, z, t, List.mem_singleton.mp hu, nqf, by rw [upd_ne nqf]; exact upd_same, hz, ht⟩
        refine ⟨_, rfl, v, .ty "int", _, _, c, rfl, .ty _, hty, hkit, _, rfl, ?_⟩
        cases c with
        | true => exact app (Ex.refl _) fun _ _ h => h
        | false =>
          refine ⟨_, rfl, _, rfl, g, .ref e', rfl, dgg k3, _, rfl, e', t, od2, es, rfl, he3, hen, hel, by omega, fun H4 c e4 => ⟨c, rfl, ?_⟩⟩
          cases c with
          | true => exact app e4 fun _ _ h => h
          | false => exact stay e4
      · rintro σ' H3 ⟨v3, v4, ys, rfl, k3, hy, gy, ly⟩
        have he3 := k3 _ _ nef upd_same
        refine ⟨he3, _, _, _, ys, rfl, k2.trans (keep_unlock he2 k3), by rw [upd_ne nef.symm]; exact hy, gy.unlock he3, by omega⟩
    · rintro σ' H3 ⟨v2, v3, v4, ys, rfl, k3, hy, gy, ly⟩
      have hg3 := k3 _ _ nfg upd_same
      exact ⟨hg3, v2, v3, v4, ys, rfl, keep_unlock hg1 k3, by rw [upd_ne nfg.symm]; exact hy, gy.unlock hg3, by omega⟩
  · rintro σ' H2 ⟨v2, v3, v4, xs, rfl, k2, hx, gx, lx⟩
    obtain ⟨bs, hbs⟩ := each_of (R := fun v (p : Str × Str) => ∃ q, v = V.ref q ∧ H2 q = some (.tup [.str p.1, .str p.2]) ∧ isNm p.1 = true ∧ Pth 30 p.2) (xs := xs) fun v hv => by
      obtain ⟨q, z, t, a, _, c, d, e⟩ := gx v hv
      exact ⟨(z, t), q, a, c, d, e⟩
    refine ⟨_, rfl, _, fl, xs, bs, rfl, SqL.of hx, hbs, hbs.mono fun v p ⟨q, e, h, _⟩ => ?_, AllAlike.of fun x y => by simp [encP, PySem.W.alike, PySem.W.alikeAll], Sortable.tuples fun p => ⟨_, _, rfl⟩, fun p _ => by simp [encP, PyData.depth, PyData.depthAll], fun ys p hys hp => ?_⟩
    · have hlen : ys.length = xs.length := by rw [hys.length, List.length_mergeSort, ← hbs.length]
      have nfp : H p = none := by
        cases hh : H p with
        | none => rfl
        | some o => rw [k2 _ _ (old hh) (x1 _ _ hh)] at hp; cases hp
      refine hq _ p ys (fun a o h => Ex.new hp _ _ (k2 _ _ (old h) (x1 _ _ h))) nfp upd_same (fun v hv => ?_) (by omega)
      obtain ⟨p', _, q, e, h, h1, h2⟩ := each_mem hys v hv
      exact ⟨q, p'.1, p'.2, e, Ex.new hp _ _ h, h1, h2⟩
    · rw [e]
      exact .tup (SqT.of h) (.cons (.str _) (.cons (.str _) .nil))
end
end KC

set_option Elab.async false
set_option linter.all false
set_option maxRecDepth 100000
set_option maxHeartbeats 4000000
namespace LF
open PySem PySem.Spec PyProof.Rows L2 TL KC
theorem strOk_low {z : Str} (h : low z) : PyData.strOk z = true := by
  unfold PyData.strOk
  rw [Array.all_eq_true']
  intro c hc
  have h1 := h c (Array.mem_toList_iff.mpr hc)
  have h2 : ∀ d ∈ letters.cps.toList, d < 0x110000 := by decide +kernel
  exact decide_eq_true (h2 c h1)
theorem strOk_join {ns : List Str} (h : ∀ n ∈ ns, isNm n = true) : PyData.strOk (PySem.Txt.join c_sl ns) = true := by
  unfold PyData.strOk
  rw [Array.all_eq_true']
  intro c hc
  have h1 : c ∈ TL.tl (PySem.Txt.join c_sl ns) := Array.mem_toList_iff.mpr hc
  have h2 : ∀ d ∈ letters.cps.toList, d < 0x110000 := by decide +kernel
  rw [TL.join_eq, TL.tl_join, tl_sl] at h1
  refine decide_eq_true ?_
  clear hc
  induction ns with
  | nil => exact nomatch h1
  | cons a l ih =>
    have ha : c ∈ TL.tl a → c < 0x110000 := fun q => h2 c ((isNm_iff.mp (h a List.mem_cons_self)).2 c q)
    cases l with
    | nil => exact ha h1
    | cons b l =>
      have h3 : c ∈ TL.tl a ++ ([47] ++ TL.joinL [47] ((b :: l).map TL.tl)) := h1
      rcases List.mem_append.mp h3 with q | q
      · exact ha q
      · rcases List.mem_append.mp q with q | q
        · rw [List.mem_singleton.mp q]; decide
        · exact ih (fun n hn => h n (List.mem_cons_of_mem _ hn)) q
theorem strOk_nm {z : Str} (h : isNm z = true) : PyData.strOk z = true := strOk_low (isNm_iff.mp h).2
theorem Pth.strOk {k : Nat} {z : Str} (h : Pth k z) : PyData.strOk z = true := by
  obtain ⟨ns, rfl, _, hs⟩ := h
  exact strOk_join hs
end LF

set_option Elab.async false
set_option linter.all false
set_option maxRecDepth 100000
set_option maxHeartbeats 4000000
namespace LF
open PySem PySem.Spec PyProof.Rows L2
open Evl (Ev EvL EvU EvT EvA EvO Ex sq_of st_of)
theorem TyX.same {K : PySem.W.Frag} {H H' : Hp} {x : V} {t : Value} (h : TyX K H x t) (s : Same H H') : TyX K H' x t := by
  cases h with
  | base b =>
    refine .base ?_
    cases b with
    | non => exact .non
    | bl x => exact .bl x
    | int i => exact .int i
    | str z => exact .str z
    | flt x => exact .flt x
    | lst e => exact .lst (s _ _ e)
    | frz e => exact .frz (s _ _ e)
    | tup e => exact .tup (s _ _ e)
    | dK e => exact .dK (s _ _ e)
    | dT e => exact .dT (s _ _ e)
    | ins e c a n t m => exact .ins (s _ _ e) c a n t m
  | byt b => exact .byt b
  | set e => exact .set (s _ _ e)
  | kList e c => exact .kList e c
  | kTuple e c => exact .kTuple e c
  | kDict e c => exact .kDict e c
  | fTuple e => exact .fTuple (s _ _ e)
  | fDict e => exact .fDict (s _ _ e)
/-- == of data, one of them flat -/
def rEqQ (K : PySem.W.Frag) : R2 := fun x y H Q => ∃ d e, Dp K H x d ∧ Dp K H y e ∧ d.canLay0 = true ∧ e.canLay0 = true ∧ e.depth ≤ 60 ∧ Q (.bl (PyData.eqv d e)) H
theorem op_eqQ {X : Cx} (hu : X.A.units + 64 < cLine) : OpR X (compareOp .Eq) (rEqQ X.K) := by
  intro pins s σ H x y v u Q I rx ry h
  obtain ⟨d, e, hd, he, sd, se, hz, q⟩ := h
  obtain ⟨as, r1⟩ := Dp.reads I d x v hd rx
  obtain ⟨bs, r2⟩ := Dp.reads I e y u he ry
  have h2 : min d.depth e.depth ≤ e.depth := Nat.min_le_right _ _
  exact SeqAt.compareEq_reads r1 r2 sd se (by omega) ⟨.bl _, H, I, rfl, q⟩
section
variable {K : PySem.W.Frag} {σ : L2.St} {H H' : Hp} {ta tb te tx : TE} {t u : TT} {x y z v : V} {d e : PyData}
/-- == '' of anything -/
theorem ev_eqE (h : EvD te σ H d) : Ev (tOp (rEqQ K) te (tC (.str ""))) σ H (.bl (isStr d && decide (txt d = ""))) := by
  obtain ⟨x, h1, h2⟩ := h
  refine Evl.ev_op h1 Evl.ev_c fun H1 e Q q => ⟨d, .str "", Dq.dp _ _ (Dq.same e _ _ h2), .str _, Dq.lay _ _ h2, by simp [PyData.canLay0]; decide +kernel, by simp [PyData.depth], ?_⟩
  have : PyData.eqv d (.str "") = (isStr d && decide (txt d = "")) := by
    cases d <;> simp [PyData.eqv, isStr, txt]
    rw [Bool.eq_iff_iff, beq_iff_eq]; exact decide_eq_true_iff.symm
  rw [this]; exact q H1 (Ex.refl H1)
/-- == () of a tuple -/
theorem ev_eqN (h : EvD te σ H d) (ht : isTup d = true) : Ev (tOp (rEqQ K) te (tTup tNil)) σ H (.bl (decide (((items d).length : Int) = 0))) := by
  obtain ⟨x, h1, h2⟩ := h
  refine Evl.ev_opU h1 (Evl.eu_tup Evl.ea_nil (by simp)) fun p H1 hp e => fun H2 e2 Q q => ⟨d, .tuple [], Dq.dp _ _ (Dq.same (e.trans e2) _ _ h2), .tup (SqT.of (e2 _ _ hp)) .nil, Dq.lay _ _ h2, by simp [PyData.canLay0, PyData.canLayAll0], by simp [PyData.depth, PyData.depthAll], ?_⟩
  have : PyData.eqv d (.tuple []) = decide (((items d).length : Int) = 0) := by
    cases d with
    | tuple ds =>
      cases ds with
      | nil => simp [PyData.eqv, PyData.eqvAll, items]
      | cons a l =>
        simp only [PyData.eqv, PyData.eqvAll, items, List.length_cons]
        exact (decide_eq_false (by omega)).symm
    | _ => cases ht
  rw [this]; exact q H2 (Ex.refl H2)
theorem et_neI {i j : Int} (ha : Ev ta σ H (.int i)) (hb : Ev tb σ H (.int j)) : Ev (tOp rNe ta tb) σ H (.bl (!decide (i = j))) :=
  Evl.ev_is (Evl.ev_op ha hb (Evl.rv_ne rfl)) (by rw [vint_dec])
/-- a comprehension over a text's signs -/
theorem el_lcS {z : Str} {tl : TE} {j : Nat} (ys : List V) (h : Ev tl σ H (.str z)) (hl : ys.length = z.cps.size) (hz : ys.length ≤ 40000)
    (hs : ∀ (i c : Nat) (y : V) (H1 : Hp), Ex H H1 → z.cps[i]? = some c → ys[i]? = some y → Ev te ((wipe σ [j]).set j (some (.str ⟨#[c]⟩))) H1 y) :
    EvL (tLc (iStr tl) (gName j) tYes te [j]) σ H ys := fun H0 e Q q => h H0 e _ fun H1 e1 => ⟨z, rfl, fun Dl hD =>
  ⟨fun i m H' => m = z.cps.size - i ∧ i ≤ z.cps.size ∧ Ex H1 H' ∧ H' Dl = some (.lst (ys.take i)), ⟨z.cps.size, rfl, Nat.zero_le _, Ex.new hD, by rw [List.take_zero]; exact upd_same⟩, fun i m H' hw => by
    obtain ⟨rfl, hi, x1, x2⟩ := hw
    by_cases hlt : i < z.cps.size
    · refine Or.inr ⟨hlt, fun H2 => Ex H1 H2 ∧ H2 Dl = some (.lst (ys.take (i + 1))), fun H2 p => ⟨z.cps.size - (i + 1), by omega, rfl, hlt, p⟩, fun v H2 hy => ?_⟩
      obtain ⟨rfl, c, hc, rfl⟩ := hy
      have hyi : ys[i]? = some ys[i] := List.getElem?_eq_getElem (by omega)
      have key : te ((wipe σ [j]).set j (some (.str ⟨#[c]⟩))) H2 (fun y H4 => ∃ acc, H4 Dl = some (.lst acc) ∧ acc.length < sizeLine ∧ (Ex H1 (upd H4 Dl (.lst (acc ++ [y]))) ∧ upd H4 Dl (.lst (acc ++ [y])) Dl = some (.lst (ys.take (i + 1))))) := by
        refine hs i c _ H2 ((e.trans e1).trans x1) hc hyi H2 (Ex.refl H2) _ fun H4 e4 => ⟨ys.take i, e4 _ _ x2, ?_, Ex.mut (x1.trans e4) hD, ?_⟩
        · rw [List.length_take]; exact Evl.sz_lt (by omega)
        · rw [upd_same, List.take_add_one, hyi]; rfl
      exact ⟨wipe_set, key⟩
    · refine Or.inl ⟨by show z.cps.size ≤ i; omega, q Dl H' (Evl.fresh_back e1 hD) (e1.trans x1) ?_⟩
      rw [List.take_of_length_le (by omega)] at x2
      exact x2⟩⟩
/-- zip(t, t[1:]), t a tuple -/
theorem el_lcZ {tl : TE} {g : TG} {vs : List Nat} {a : Addr} {xs : List V} (ys : List V) (h : ∀ H', Ex H H' → Ev tl σ H' (.ref a)) (hx : H a = some (.tup xs)) (hl : ys.length = xs.length - 1) (hz : xs.length ≤ 40000)
    (hs : ∀ (i : Nat) (x x' y : V) (T : Addr) (H1 : Hp) (R : L2.St → Hp → Prop), Ex H H1 → H1 T = some (.tup [x, x']) → xs[i]? = some x → xs[i + 1]? = some x' → ys[i]? = some y → (∀ σ2, wipe σ2 vs = wipe σ vs → Ev te σ2 H1 y → R σ2 H1) → g (.ref T) (wipe σ vs) H1 R) :
    EvL (tLc (RZ.iZipA K (tCons tl (tCons (tSl (rSlA K) tl (tPart (tC (.int 1))) tNoPart) tNil))) g tYes te vs) σ H ys := fun H0 e0 Q q => by
  refine h H0 e0 H0 (Ex.refl H0) _ fun H1 e1 => ?_
  refine h H1 (e0.trans e1) H1 (Ex.refl H1) _ fun H2 e2 => ⟨1, rfl, ?_⟩
  have hx2 := (e0.trans (e1.trans e2)) _ _ hx
  -- the walk, once the second tuple stands
  have walk : ∀ (b : Addr) (H3 : Hp), Ex H2 H3 → H3 b = some (.tup (xs.drop 1)) → ∀ Dl, H3 Dl = none → ∃ W : Nat → Nat → Hp → Prop, (∃ m, W 0 m (upd H3 Dl (.lst []))) ∧ ∀ i m H, W i m H →
      ((RZ.ItzT K a b).stop i H ∧ Q (.ref Dl) H) ∨ ((RZ.ItzT K a b).go i H ∧ ∃ Nx : Hp → Prop, (∀ H', Nx H' → ∃ m', m' < m ∧ W (i + 1) m' H') ∧ ∀ x H', (RZ.ItzT K a b).yld i H x H' → g x (wipe σ vs) H' fun σ2 H2 => wipe σ2 vs = wipe σ vs ∧ tYes σ2 H2 fun b H3 =>
        if b = true then te σ2 H3 fun y H4 => ∃ acc, H4 Dl = some (.lst acc) ∧ acc.length < sizeLine ∧ Nx (upd H4 Dl (.lst (acc ++ [y]))) else Nx H3) := by
    intro b H3 e3 hb Dl hD
    have e13 := (e1.trans e2).trans e3
    refine ⟨fun i m H' => m = ys.length - i ∧ i ≤ ys.length ∧ Ex H3 H' ∧ H' Dl = some (.lst (ys.take i)), ⟨ys.length, rfl, Nat.zero_le _, Ex.new hD, by rw [List.take_zero]; exact upd_same⟩, fun i m H' hw => ?_⟩
    obtain ⟨rfl, hi, x1, x2⟩ := hw
    have sa : SqT K H' a xs := st_of ((e13.trans x1) _ _ (e0 _ _ hx))
    have sb : SqT K H' b (xs.drop 1) := st_of (x1 _ _ hb)
    by_cases hlt : i < ys.length
    · have g1 : xs[i]? = some xs[i] := List.getElem?_eq_getElem (by omega)
      have g2 : xs[i + 1]? = some xs[i + 1] := List.getElem?_eq_getElem (by omega)
      have g3 : (xs.drop 1)[i]? = some xs[i + 1] := by rw [List.getElem?_drop, Nat.add_comm 1 i]; exact g2
      refine Or.inr ⟨⟨xs, xs.drop 1, _, _, sa, sb, g1, g3⟩, fun H2 => Ex H3 H2 ∧ H2 Dl = some (.lst (ys.take (i + 1))), fun H2 p => ⟨ys.length - (i + 1), by omega, rfl, hlt, p⟩, fun v H4 hy => ?_⟩
      obtain ⟨T, x, x', rfl, hT, rfl, f1, f2⟩ := hy
      have hyi : ys[i]? = some ys[i] := List.getElem?_eq_getElem hlt
      have k1 := (f1 xs sa).symm.trans g1
      have k2 := (f2 _ sb).symm.trans g3
      refine hs i x x' _ T _ _ (e0.trans (e13.trans (x1.trans (Ex.new hT)))) upd_same (f1 xs sa) (by rw [g2, ← k2]) hyi fun σ2 hw hev => ?_
      have key : te σ2 (upd H' T (.tup [x, x'])) (fun y H4 => ∃ acc, H4 Dl = some (.lst acc) ∧ acc.length < sizeLine ∧ (Ex H3 (upd H4 Dl (.lst (acc ++ [y]))) ∧ upd H4 Dl (.lst (acc ++ [y])) Dl = some (.lst (ys.take (i + 1))))) := by
        refine hev _ (Ex.refl _) _ fun H4 e4 => ⟨ys.take i, e4 _ _ ((Ex.new hT) _ _ x2), ?_, Ex.mut (x1.trans ((Ex.new hT).trans e4)) hD, ?_⟩
        · rw [List.length_take]; exact Evl.sz_lt (by omega)
        · rw [upd_same, List.take_add_one, hyi]; rfl
      exact ⟨hw, key⟩
    · refine Or.inl ⟨⟨xs, xs.drop 1, sa, sb, Or.inr (by rw [List.length_drop]; omega)⟩, q Dl H' (Evl.fresh_back e13 hD) (e13.trans x1) ?_⟩
      rw [List.take_of_length_le (by omega)] at x2
      exact x2
  refine ⟨a, xs, rfl, st_of hx2, fun hw => ?_, fun hw p hp => ?_⟩
  · have h0 : xs = [] := by
      have h1 := hw.1
      rw [show (some (1 : Int)) = some ((1 : Nat) : Int) from rfl, HT.sIx_nat] at h1
      exact List.length_eq_zero_iff.mp (by omega)
    refine ⟨a, a, xs, xs, rfl, Or.inr ⟨st_of hx2, st_of hx2, fun Dl hD => ?_⟩⟩
    exact walk a H2 (Ex.refl H2) (by rw [hx2, h0]; rfl) Dl hD
  · have hc : cutV xs (some 1) none = xs.drop 1 := by
      unfold cutV
      rw [HT.sIx_none, show (some (1 : Int)) = some ((1 : Nat) : Int) from rfl, HT.sIx_nat]
      by_cases h0 : 1 ≤ xs.length
      · rw [Nat.min_eq_left h0]
        exact List.take_of_length_le (by rw [List.length_drop]; omega)
      · have : xs = [] := List.length_eq_zero_iff.mp (by omega)
        subst this; rfl
    refine ⟨a, p, xs, xs.drop 1, rfl, Or.inr ⟨st_of ((Ex.new hp) _ _ hx2), st_of (by rw [upd_same, hc]), fun Dl hD => ?_⟩⟩
    exact walk p _ (Ex.new hp) (by rw [upd_same, hc]) Dl hD
/-- all([.. for a, b in zip(t, t[1:])]) -/
theorem ev_allZ {j k : Nat} {tl : TE} (gg : PyData → PyData → Bool) (hxd : Dq H x d) (hvm : ∀ H', Ex H H' → Ev tl σ H' x) (ht : isTup d = true)
    (hw : ∀ x y, wipe ((((wipe σ [j, k]).set j (some x)).set k (some y))) [j, k] = wipe σ [j, k])
    (hs : ∀ x y p q H1, Ex H H1 → p ∈ items d → q ∈ items d → Dq H1 x p → Dq H1 y q → Ev te (((wipe σ [j, k]).set j (some x)).set k (some y)) H1 (.bl (gg p q))) :
    Ev (tCB (rAll K) (tCons (tLc (RZ.iZipA K (tCons tl (tCons (tSl (rSlA K) tl (tPart (tC (.int 1))) tNoPart) tNil))) (gTup K 2 (gCons (gName j) (gCons (gName k) gNil))) tYes te [j, k]) tNil)) σ H
      (.bl ((List.range ((items d).length - 1)).all fun i => gg ((items d).getD i .none) ((items d).getD (i + 1) .none))) := by
  obtain ⟨a, xs, rfl, ha, hd, hz, hl⟩ := hxd.tupE ht
  refine Evl.ev_is (ev_allB (bs := (List.range ((items d).length - 1)).map fun i => gg ((items d).getD i .none) ((items d).getD (i + 1) .none)) ?_) (by rw [List.all_map]; rfl)
  refine el_lcZ (K := K) _ hvm ha (by rw [List.length_map, List.length_map, List.length_range, hl]) (by omega) fun i x x' y T H1 R e hT hx hx' hy kk => ?_
  obtain ⟨p, hp, dp⟩ := hd.get i hx
  obtain ⟨q, hq, dq⟩ := hd.get (i + 1) hx'
  have hi : i < (items d).length - 1 := by
    have := (List.getElem?_eq_some_iff.mp hq).1
    omega
  rw [List.getElem?_map, List.getElem?_map, List.getElem?_eq_getElem (by rw [List.length_range]; exact hi)] at hy
  simp only [List.getElem_range, Option.map_some, Option.some.injEq] at hy
  rw [List.getD_eq_getElem?_getD, List.getD_eq_getElem?_getD, hp, hq] at hy
  subst hy
  exact ⟨T, [x, x'], rfl, st_of hT, rfl, x, [x'], rfl, x', [], rfl, rfl, kk _ (hw x x') (hs x x' p q H1 e (List.mem_of_getElem? hp) (List.mem_of_getElem? hq) (Dq.same e _ _ dp) (Dq.same e _ _ dq))⟩
end
end LF

set_option Elab.async false
set_option linter.all false
set_option maxRecDepth 100000
set_option maxHeartbeats 16000000
namespace KC
open PySem PySem.Spec PyProof.Rows L2 LF
open Evl (Ev EvL EvU EvT EvA Ex sq_of st_of)
open PySem.W (EachIs)
/-- a target: a joint, or a place in a package -/
abbrev Tg := Int ⊕ (Str × Str)
def TgA (b : Addr) (H : Hp) (v : V) : Tg → Prop
  | .inl i => v = .int i
  | .inr p => ∃ q, v = .ref q ∧ q ≠ b ∧ H q = some (.tup [.str p.1, .str p.2])
def TgOk (js : List Int) : Tg → Prop
  | .inl i => i ∈ js
  | .inr p => isNm p.1 = true ∧ Pth 30 p.2
theorem TgA.old {b : Addr} {H H' : Hp} {v : V} {x : Tg} (h : TgA b H v x) (k : ∀ a o, a ≠ b → H a = some o → H' a = some o) : TgA b H' v x := by
  cases x with
  | inl i => exact h
  | inr p =>
    obtain ⟨q, e, n, h⟩ := h
    exact ⟨q, e, n, k _ _ n h⟩
def RowA (b : Addr) (H : Hp) (e : Addr) (r : List (Str × Tg)) : Prop := ∃ kvs : List (Key × V), e ≠ b ∧ H e = some (.dK kvs) ∧ EachIs (fun kv (x : Str × Tg) => kv.1 = Sum.inr x.1 ∧ TgA b H kv.2 x.2) kvs r
def TabA (b : Addr) (H : Hp) (t : Addr) (tabs : List (Int × List (Str × Tg))) : Prop := ∃ kvs : List (Key × V), t ≠ b ∧ H t = some (.dK kvs) ∧ EachIs (fun kv (x : Int × List (Str × Tg)) => kv.1 = Sum.inl x.1 ∧ ∃ e, kv.2 = .ref e ∧ e ≠ t ∧ RowA b H e x.2) kvs tabs ∧ (kvs.map (·.2)).Nodup
theorem RowA.keep {b : Addr} {H H' : Hp} {e : Addr} {r : List (Str × Tg)} (h : RowA b H e r) (k : Keep b H H') : RowA b H' e r := by
  obtain ⟨kvs, n, h1, h2⟩ := h
  exact ⟨kvs, n, k _ _ n h1, h2.mono fun kv x ⟨e, t⟩ => ⟨e, t.old k⟩⟩
theorem TabA.keep {b : Addr} {H H' : Hp} {t : Addr} {tabs : List (Int × List (Str × Tg))} (h : TabA b H t tabs) (k : Keep b H H') : TabA b H' t tabs := by
  obtain ⟨kvs, n, h1, h2, h3⟩ := h
  exact ⟨kvs, n, k _ _ n h1, h2.mono fun kv x ⟨e, a, h4, h5, h6⟩ => ⟨e, a, h4, h5, h6.keep k⟩, h3⟩
def RowOk (js : List Int) (r : List (Str × Tg)) : Prop := (r.map (·.1)).Nodup ∧ r.length ≤ 10 ∧ ∀ y ∈ r, isNm y.1 = true ∧ TgOk js y.2
def TabOk (tabs : List (Int × List (Str × Tg))) : Prop := (tabs.map (·.1)).Nodup ∧ 1 ≤ tabs.length ∧ tabs.length ≤ 6 ∧ ∀ x ∈ tabs, (0 ≤ x.1 ∧ x.1 < 100) ∧ RowOk (tabs.map (·.1)) x.2
/-- a row under way -/
def RowQ (b : Addr) (js : List Int) (H : Hp) (kvs : List (Key × V)) : Prop := (kvs.map (·.1)).Nodup ∧ ∀ kv ∈ kvs, ∃ z x, kv.1 = Sum.inr z ∧ nwN z = true ∧ TgA b H kv.2 x ∧ TgOk js x
theorem RowQ.put {b : Addr} {js : List Int} {H : Hp} {kvs : List (Key × V)} {z : Str} {v : V} {x : Tg} (h : RowQ b js H kvs) (hz : nwN z = true) (hx : TgA b H v x) (ho : TgOk js x) : RowQ b js H (putK kvs (.inr z) v) :=
  ⟨nodup_put h.1, fun kv m => by
    rcases mem_put m with e | m
    · rw [e]; exact ⟨z, x, rfl, hz, hx, ho⟩
    · exact h.2 kv m⟩
theorem each_map {α β γ : Type} {R : α → β → Prop} {f : α → γ} {g : β → γ} (h : ∀ a b, R a b → f a = g b) : ∀ {xs : List α} {bs : List β}, EachIs R xs bs → xs.map f = bs.map g
  | _, _, .nil => rfl
  | _, _, .cons r t => by rw [List.map_cons, List.map_cons, h _ _ r, each_map h t]
theorem each_back {α β : Type} {R : α → β → Prop} : ∀ {xs : List α} {bs : List β}, EachIs R xs bs → ∀ b ∈ bs, ∃ x, x ∈ xs ∧ R x b
  | _, _, .nil, _, h => nomatch h
  | _, _, .cons h t, x, hx => by
    rcases List.mem_cons.mp hx with rfl | hx
    · exact ⟨_, List.mem_cons_self, h⟩
    · obtain ⟨b, hb, r⟩ := each_back t x hx
      exact ⟨b, List.mem_cons_of_mem _ hb, r⟩
theorem nodup_of_map {α β : Type} {f : α → β} : ∀ {l : List α}, (l.map f).Nodup → l.Nodup
  | [], _ => .nil
  | a :: l, h => by
    rw [List.map_cons, List.nodup_cons] at h
    exact List.nodup_cons.mpr ⟨fun m => h.1 (List.mem_map.mpr ⟨a, m, rfl⟩), nodup_of_map h.2⟩
theorem RowQ.row {b : Addr} {js : List Int} {H H' : Hp} {kvs : List (Key × V)} {e : Addr} (h : RowQ b js H kvs) (hn : e ≠ b) (he : H' e = some (.dK kvs)) (hl : kvs.length ≤ 9) (k : ∀ a o, a ≠ b → H a = some o → H' a = some o) : ∃ r, RowA b H' e r ∧ RowOk js r ∧ r.length ≤ 9 ∧ ∀ y ∈ r, ¬ y.1 = "new" := by
  obtain ⟨r, hr⟩ := each_of (R := fun (kv : Key × V) (x : Str × Tg) => kv.1 = Sum.inr x.1 ∧ TgA b H kv.2 x.2 ∧ nwN x.1 = true ∧ TgOk js x.2) (xs := kvs) fun kv m => by
    obtain ⟨z, x, h1, h2, h3, h4⟩ := h.2 kv m
    exact ⟨(z, x), h1, h3, h2, h4⟩
  refine ⟨r, ⟨kvs, hn, he, hr.mono fun kv x ⟨h1, h2, _⟩ => ⟨h1, h2.old k⟩⟩, ⟨?_, by rw [← hr.length]; omega, fun y hy => ?_⟩, by rw [← hr.length]; exact hl, fun y hy => ?_⟩
  · have e1 : kvs.map (·.1) = (r.map (·.1)).map Sum.inr := by
      rw [List.map_map]
      exact each_map (fun a b r => r.1) hr
    have h1 := h.1
    rw [e1] at h1
    exact nodup_of_map h1
  · obtain ⟨kv, _, _, _, h3, h4⟩ := each_back hr y hy
    exact ⟨nw_nm h3, h4⟩
  · obtain ⟨kv, _, _, _, h3, h4⟩ := each_back hr y hy
    exact nw_ne h3
theorem sk_rngP {K : PySem.W.Frag} {b : Addr} {B : List Addr} {σ : L2.St} {H : Hp} {te : TE} {m N : Nat} {R0 : Int → Prop} {R : It → Hp → Prop} (g : BgAt b B N H) (hN : N + m ≤ 900000) (hc : ∀ r, R0 r → 0 ≤ r ∧ r ≤ 100000) (h : EK b B m te σ H (fun x _ => ∃ r, x = .int r ∧ R0 r)) (k : ∀ r H2 M, M ≤ N + m → Keep b H H2 → BgAt b B M H2 → R0 r → R (Itr 0 r.toNat) H2) :
    iRng1 (tCons te tNil) σ H R := h N H hN (Keep.refl b H) g _ fun x H2 M lm k2 g2 ⟨r, e, r0⟩ => by
  subst e
  have := hc r r0
  exact ⟨r, rfl, by omega, by omega, k r H2 M lm k2 g2 r0⟩
theorem eraseIdx_map' {α β : Type} (f : α → β) : ∀ (l : List α) (k : Nat), (l.map f).eraseIdx k = (l.eraseIdx k).map f
  | [], _ => rfl
  | _ :: _, 0 => rfl
  | a :: l, k + 1 => by simp [List.eraseIdx_cons_succ, eraseIdx_map' f l k]
theorem erase_perm {α : Type} : ∀ {l : List α} {k : Nat} (h : k < l.length), (l[k] :: l.eraseIdx k).Perm l
  | [], _, h => absurd h (by simp)
  | a :: l, 0, _ => List.Perm.refl _
  | a :: l, k + 1, h => (List.Perm.swap a _ _).trans ((erase_perm (l := l) (k := k) (by simpa using h)).cons a)
/-- the tables under way at t: a joint, its row's address, its row -/
def Tb (H4 : Hp) (b t : Addr) (js : List Int) (L : List (Int × Addr × List (Key × V))) (H' : Hp) : Prop := H' t = some (.dK (L.map fun l => (Sum.inl l.1, V.ref l.2.1))) ∧ (L.map (·.2.1)).Nodup ∧ ∀ l ∈ L, H' l.2.1 = some (.dK l.2.2) ∧ RowQ b js H4 l.2.2 ∧ l.2.2.length ≤ 9 ∧ l.2.1 ≠ b ∧ l.2.1 ≠ t
theorem Tb.keep {H4 H H' : Hp} {b t : Addr} {js : List Int} {L : List (Int × Addr × List (Key × V))} (h : Tb H4 b t js L H) (nt : t ≠ b) (k : Keep b H H') : Tb H4 b t js L H' := ⟨k _ _ nt h.1, h.2.1, fun l hl => by
  obtain ⟨a, c, d, e, f⟩ := h.2.2 l hl
  exact ⟨k _ _ e a, c, d, e, f⟩⟩
theorem ek_catX {K : PySem.W.Frag} {b : Addr} {B : List Addr} {σ : L2.St} {H : Hp} {ta tb : TE} {m m' n n' : Nat} {G : V → Hp → Prop} (hb : b ∈ B) (hG : Stb B G) (h : EK b B m ta σ H (Ls G B n)) (h' : EK b B m' tb σ H (LsM G B n')) (hn : n + n' ≤ 1000) :
    EK b B (m + m') (tOp rCat ta tb) σ H (fun x H => ∃ p xs, x = .ref p ∧ p ∉ B ∧ H p = some (.lst xs) ∧ (∀ v ∈ xs, G v H) ∧ n ≤ xs.length ∧ xs.length ≤ n + n') := fun N H1 l k g Q q =>
  h N H1 (by omega) k g _ fun x H2 M lm k2 g2 p => h' M H2 (by omega) (k.trans k2) g2 _ fun y H3 M3 lm3 k3 g3 p' => by
    obtain ⟨l1, xs, rfl, n1, hl, gx, lx⟩ := ls_stb hG _ _ _ p (kb hb k3)
    obtain ⟨l2, ys, rfl, n2, hl', gy, ly⟩ := p'
    refine ⟨l1, l2, xs, ys, rfl, rfl, hl, hl', Evl.sz_of (by omega), fun r hr => ?_⟩
    obtain ⟨n3, g4, k4⟩ := g3.new (o := .lst (xs ++ ys)) hr
    refine q _ _ M3 (by omega) ((k2.trans k3).trans k4) g4 ⟨r, xs ++ ys, rfl, n3, upd_same, fun v hv => ?_, by rw [List.length_append]; omega, by rw [List.length_append]; omega⟩
    rcases List.mem_append.mp hv with hv | hv
    · exact hG _ _ _ (gx v hv) (kb hb k4)
    · exact hG _ _ _ (gy v hv) (kb hb k4)
theorem ek_addC {b : Addr} {B : List Addr} {σ : L2.St} {H : Hp} {te : TE} {m : Nat} {c : Int} {R R' : Int → Prop} (h : EK b B m te σ H (fun x _ => ∃ r, x = .int r ∧ R r)) (hR : ∀ r, R r → R' (c + r)) : EK b B m (tOp (rI0 fun i j => .int (i + j)) (tC (.int c)) te) σ H (fun x _ => ∃ r, x = .int r ∧ R' r) := fun N H1 l k g Q q =>
  h N H1 l k g _ fun x H2 M lm k2 g2 ⟨r, e, r0⟩ => by
    subst e
    exact ⟨_, _, rfl, rfl, q _ H2 M lm k2 g2 ⟨_, rfl, hR r r0⟩⟩
theorem sq_dnew {i : Nat} {tz : TS} {D : Ends} {σ : L2.St} {H : Hp} (h : ∀ e, H e = none → tz D (σ.set i (some (.ref e))) (upd H e (.dK []))) : tSeq (tAsg tDNewK (gName i)) tz D σ H := h
theorem sk_list {K : PySem.W.Frag} {b : Addr} {B : List Addr} {σ : L2.St} {H : Hp} {te : TE} {m n N : Nat} {G : V → Hp → Prop} {R : It → Hp → Prop} (g : BgAt b B N H) (hN : N + m ≤ 900000) (h : EK b B m te σ H (LsM G B n)) (k : ∀ a xs H2 M, M ≤ N + m → Keep b H H2 → BgAt b B M H2 → a ∉ B → H2 a = some (.lst xs) → (∀ v ∈ xs, G v H2) → xs.length ≤ n → R (Itl K a) H2) :
    iList K te σ H R := h N H hN (Keep.refl b H) g _ fun x H2 M lm k2 g2 ⟨a, xs, e, na, ha, gx, lx⟩ => ⟨a, e, ⟨xs, SqL.of ha⟩, k a xs H2 M lm k2 g2 na ha gx lx⟩
theorem sk_forL {K : PySem.W.Frag} {b : Addr} {B : List Addr} {σ : L2.St} {H : Hp} {te : TE} {m n N : Nat} {G : V → Hp → Prop} {g : TG} {tb tz : TS} {D : Ends} (gb : BgAt b B N H) (hN : N + m ≤ 900000) (h : EK b B m te σ H (LsM G B n)) (k : ∀ a xs H2 M, M ≤ N + m → Keep b H H2 → BgAt b B M H2 → a ∉ B → H2 a = some (.lst xs) → (∀ v ∈ xs, G v H2) → xs.length ≤ n → tFor (fun _ H R => R (Itl K a) H) g tb { D with nx := tz D } σ H2) :
    tSeq (tFor (iList K te) g tb) tz D σ H := h N H hN (Keep.refl b H) gb _ fun x H2 M lm k2 g2 ⟨a, xs, e, na, ha, gx, lx⟩ => ⟨a, e, ⟨xs, SqL.of ha⟩, k a xs H2 M lm k2 g2 na ha gx lx⟩
theorem not_mem_take {α : Type} : ∀ {l : List α} {i : Nat} {a : α}, l.Nodup → l[i]? = some a → a ∉ l.take i
  | [], i, a, _, h => by simp at h
  | x :: l, 0, a, _, h => by simp
  | x :: l, i + 1, a, hn, h => by
    rw [List.nodup_cons] at hn
    have h' : l[i]? = some a := h
    rw [List.take_succ_cons, List.mem_cons]
    rintro (rfl | m)
    · exact hn.1 (List.mem_of_getElem? h')
    · exact not_mem_take hn.2 h' m
def PlB (b : Addr) (H : Hp) : V → Prop := fun v => ∃ q z t, v = .ref q ∧ q ≠ b ∧ H q = some (.tup [.str z, .str t]) ∧ isNm z = true ∧ Pth 30 t
theorem each_mapL {α β γ : Type} {R : α → β → Prop} {S : γ → β → Prop} {f : α → γ} : ∀ {xs : List α} {bs : List β}, EachIs R xs bs → (∀ a b, R a b → S (f a) b) → EachIs S (xs.map f) bs
  | _, _, .nil, _ => .nil
  | _, _, .cons r t, h => .cons (h _ _ r) (each_mapL t h)
theorem nodup_map_ref : ∀ {l : List Addr}, l.Nodup → (l.map V.ref).Nodup
  | [], _ => .nil
  | a :: l, h => by
    rw [List.nodup_cons] at h
    refine List.nodup_cons.mpr ⟨fun m => ?_, nodup_map_ref h.2⟩
    obtain ⟨x, hx, e⟩ := List.mem_map.mp m
    exact h.1 (by rw [← V.ref.inj e]; exact hx)
def spDrawn : Sp := fun vs H Q _ => ∃ (b g p : Addr) (most : Int) (N : Nat), vs = [.ref b, .ref g, .ref p, .int most] ∧ BagC H b N ∧ N + 200 ≤ 900000 ∧ Farm [b] g H ∧ Wd [b] p H ∧ 1 ≤ most ∧ most ≤ 6 ∧
  ∀ H' q t tabs head M, M ≤ N + 200 → Keep b H H' → BagC H' b M → q ≠ b → H' q = some (.tup [.ref t, .int head]) → TabA b H' t tabs → TabOk tabs → (∀ x ∈ tabs, x.2.length ≤ 9 ∧ ∀ y ∈ x.2, ¬ y.1 = "new") → head ∈ tabs.map (·.1) → Q (.ref q) H'
abbrev s__law_drawn : Stmt := topS 27
abbrev N__law_drawn : List Str := ["_law_bag_here", "_law_farm_here", "_law_words_here", "_law_most", "_law_pool", "_law_joints", "_law_turn", "_law_places_here", "_law_tables", "_law_own_names", "_law_joint", "_law_table", "_law_name", "_law_way"]
theorem sc__law_drawn : FnScope ["_law_bag_here", "_law_farm_here", "_law_words_here", "_law_most", "_law_pool", "_law_joints", "_law_turn", "_law_places_here", "_law_tables", "_law_own_names", "_law_joint", "_law_table", "_law_name", "_law_way"] ["_law_bag_here", "_law_farm_here", "_law_words_here", "_law_most"] (defScope s__law_drawn) := ⟨rfl, rfl, rfl, by decide +kernel, rfl, by decide +kernel, by decide +kernel⟩
end KC

set_option Elab.async false
set_option linter.all false
set_option maxRecDepth 100000
set_option maxHeartbeats 16000000
namespace KC
open PySem PySem.Spec PyProof.Rows L2 LF
open Evl (Ev EvL EvU EvT EvA Ex sq_of st_of)
open PySem.W (EachIs)
section
variable {P : Program} {w : World} {K : PySem.W.Frag} {mg : Str → Option Value} {base : Heap} {tk1 tk2 : Tok}
theorem ok_drawn {f f1 f2 f3 : Addr} {fd fd1 fd2 fd3 : FuncData} (F : Fun K "_law_drawn" "_law_drawn" s__law_drawn f fd) (T : Txt K mg tk1 tk2) (d__law_take : DefAt P w K mg base "_law_take" 1 f1 fd1 ["_law_bag_here", "_law_many"] spTakeC)
    (d__law_pick : DefAt P w K mg base "_law_pick" 2 f2 fd2 ["_law_bag_here", "_law_items"] (spPickC K)) (d__law_places : DefAt P w K mg base "_law_places" 2 f3 fd3 ["_law_farm_here"] spPlaces) :
    FnOk P w K mg base CX0 3 f fd ["_law_bag_here", "_law_farm_here", "_law_words_here", "_law_most"] spDrawn := by
  refine F.ok sc__law_drawn (fun vs H Q E h => ?_) (fun cdv A outer s H vs Q E hr h => ?_)
  · obtain ⟨b, g, p, most, N, rfl, _⟩ := h
    rfl
  have hu1 := hu_of hr
  have hu := hr.units
  refine ⟨_, (pss_cons (ps_par (i := 4) (j := 5) (by rfl) sc__law_drawn.nd rfl rfl (by decide) rfl rfl (pa_cons (pe_lst (pa_cons pe_int (pa_cons pe_int (pa_cons pe_int (pa_cons pe_int (pa_cons pe_int (pa_cons pe_int pa_nil))))))) (pa_cons (pe_lst pa_nil) pa_nil)) (by rfl))
    (Evl.pss_cut (ps_for PassesOwn.never rfl (pi_range1 (by rfl) T.n_range (pa_cons (pe_op op_add pe_int (pe_callD d__law_take (hr.mono (by decide)) (pa_cons (pv 0) (pa_cons (pv 3) pa_nil)))) pa_nil)) (pg_name (i := 6) sc__law_drawn.nd rfl (Or.inl rfl)) (pss_one (ps_expr (pe_bm PySem.F.plainAttrs_list PySem.F.slot_list_append PySem.F.type_list_append mt_append (pv 5) (pa_cons (pe_bm PySem.F.plainAttrs_list PySem.F.slot_list_pop PySem.F.type_list_pop mt_popAt (pv 4) (pa_cons (pe_callD d__law_take (hr.mono (by decide)) (pa_cons (pv 0) (pa_cons (pe_callB call_len_seq (by rfl) T.n_len (by decide +kernel) (pa_cons (pv 4) pa_nil)) pa_nil))) pa_nil)) pa_nil)))))
    (pss_cons (ps_par (i := 7) (j := 8) (by rfl) sc__law_drawn.nd rfl rfl (by decide) rfl rfl (pa_cons (pe_callD d__law_places (hr.mono (by decide)) (pa_cons (pv 1) pa_nil)) (pa_cons pe_dnewK pa_nil)) (by rfl))
    (pss_cons (ps_set (i := 9) sc__law_drawn.nd rfl (Or.inl rfl) (pe_op op_cat (pe_dget hu1 (pv 2) pe_str (fun _ _ => rfl)) (pe_slice sl_list (pe_dget hu1 (pv 2) pe_str (fun _ _ => rfl)) po_none (po_some pe_int))))
    (Evl.pss_cut (ps_for PassesOwn.never rfl (pi_list (pv 5)) (pg_name (i := 10) sc__law_drawn.nd rfl (Or.inl rfl)) (pss_cons (ps_set (i := 11) sc__law_drawn.nd rfl (Or.inl rfl) pe_dnewK)
    (pss_cons (ps_for PassesOwn.never rfl (pi_list (pe_slice sl_list (pv 9) po_none (po_some (pe_op op_add pe_int (pe_callD d__law_take (hr.mono (by decide)) (pa_cons (pv 0) (pa_cons (pe_callB call_len_seq (by rfl) T.n_len (by decide +kernel) (pa_cons (pv 9) pa_nil)) pa_nil))))))) (pg_name (i := 12) sc__law_drawn.nd rfl (Or.inl rfl)) (pss_cons (ps_set (i := 13) sc__law_drawn.nd rfl (Or.inl rfl) (pe_callD d__law_take (hr.mono (by decide)) (pa_cons (pv 0) (pa_cons pe_int pa_nil))))
    (pss_one (ps_if (PW.pt (pw_or (pt_cmpR op_lt (pv 13) pe_int (nomark _)) (pw_or1 (PW.pt (pw_and (pt_cmpR op_eq (pv 13) pe_int (nomark _)) (pw_and1 (pt_cmpR (op_eqQ hu) (pv 7) (pe_lst pa_nil) (nomark _)))))))) (pss_one (ps_dput hu1 (pv 11) (pv 12) (pe_callD d__law_pick (hr.mono (by decide)) (pa_cons (pv 0) (pa_cons (pv 5) pa_nil))) rfl)) (pss_one (ps_if (pt_cmpR op_eq (pv 13) pe_int (nomark _)) (pss_one (ps_dput hu1 (pv 11) (pv 12) (pe_callD d__law_pick (hr.mono (by decide)) (pa_cons (pv 0) (pa_cons (pv 7) pa_nil))) rfl)) pss_nil))))))
    (pss_one (ps_dput hu1 (pv 8) (pv 10) (pv 11) rfl)))))
    (pss_one (ps_ret (pe_tup (pa_cons (pv 8) (pa_cons (pe_callD d__law_pick (hr.mono (by decide)) (pa_cons (pv 0) (pa_cons (pv 5) pa_nil))) pa_nil)))))))))), ?_⟩
  obtain ⟨b, g, p, most, N, rfl, hbag, hN, hfarm, hw, hm1, hm6, hq⟩ := h
  obtain ⟨wkvs, vf, vi, vk, lc, cs, w1, w2, w3, w4, w5, w6, w7, w8, w9, w10, w11⟩ := hw
  have npb : p ≠ b := fun e => w2 (by rw [e]; simp)
  have hb1 : b ∈ [b] := List.mem_singleton.mpr rfl
  refine sk_par (B := [b]) (m := 0) (m' := 0) (P := fun x H' => ∃ fo, x = .ref fo ∧ fo ≠ b ∧ H' fo = some (.lst ([0, 1, 2, 3, 5, 8].map V.int)) ∧ ∀ a o, a ≠ b → H a = some o → a ≠ fo) (P' := fun x H' => ∃ fo, x = .ref fo ∧ fo ≠ b ∧ H' fo = some (.lst (([] : List Int).map V.int)) ∧ ∀ a o, a ≠ b → H a = some o → a ≠ fo) (bgAt1 hbag) (by omega) hb1
    (fun x H1 H2 ⟨fo, e, n, h, r⟩ k => ⟨fo, e, n, k _ _ (by simpa using n) h, r⟩) (fun N1 H1 l1 k1 g1 Q1 q1 => ⟨by show 6 ≤ sizeLine; decide, fun q hq' => by
      obtain ⟨n2, g2, k2⟩ := g1.new (o := .lst ([0, 1, 2, 3, 5, 8].map V.int)) hq'
      exact q1 _ _ N1 (Nat.le_refl _) k2 g2 ⟨q, rfl, by simpa using n2, upd_same, fun a o na e z => by
        have := k1 a o na e
        rw [z, hq'] at this; cases this⟩⟩) (fun N1 H1 l1 k1 g1 Q1 q1 => ⟨by show 0 ≤ sizeLine; decide, fun q hq' => by
      obtain ⟨n2, g2, k2⟩ := g1.new (o := .lst []) hq'
      exact q1 _ _ N1 (Nat.le_refl _) k2 g2 ⟨q, rfl, by simpa using n2, upd_same, fun a o na e z => by
        have := k1 a o na e
        rw [z, hq'] at this; cases this⟩⟩) fun x y H1 M1 l1 k1 g1 ⟨po, e1, npo, hpo, fpo⟩ ⟨jo, e2, njo, hjo, fjo⟩ => ?_
  subst e1
  subst e2
  have npj : po ≠ jo := fun z => by rw [z, hjo] at hpo; cases hpo
  refine ⟨fun σ' H' => ∃ (v6 : Option V) (M : Nat) (js : List Int), M ≤ N + 8 ∧ σ' = [some (.ref b), some (.ref g), some (.ref p), some (.int most), some (.ref po), some (.ref jo), v6, none, none, none, none, none, none, none] ∧ BagC H' b M ∧ (∀ a o, a ≠ b → H a = some o → H' a = some o) ∧
    H' jo = some (.lst (js.map V.int)) ∧ js.Nodup ∧ (∀ j ∈ js, (0 : Int) ≤ j ∧ j < 100) ∧ 1 ≤ js.length ∧ js.length ≤ 6, ?_, ?_⟩
  · refine sk_rngP (K := K) (B := [b]) (m := 1) (R0 := fun r => 1 ≤ r ∧ r ≤ most) g1 (by omega) (fun r h => by omega) (fun N1 H1 l1 k1 g1 Q1 q1 => ek_takeM (m := 0) (B := [b]) (H := H1) (c := most) rfl (ek_v rfl fun _ _ => rfl) ⟨by omega, by omega⟩ N1 H1 l1 (Keep.refl b H1) g1 _ fun x H2 M2 lm2 k2 g2 ⟨r, e, r0, r1⟩ => by
      subst e
      exact ⟨_, _, rfl, rfl, q1 _ H2 M2 lm2 k2 g2 ⟨_, rfl, by omega⟩⟩) fun n H2 M2 l2 k2 g2 ⟨n0, n1⟩ => ?_
    refine for_range (lo := 0) (fun i σ' H' => ∃ (v6 : Option V) (M : Nat) (js ps : List Int), M ≤ M2 + i ∧ σ' = [some (.ref b), some (.ref g), some (.ref p), some (.int most), some (.ref po), some (.ref jo), v6, none, none, none, none, none, none, none] ∧ BagC H' b M ∧ (∀ a o, a ≠ b → H a = some o → H' a = some o) ∧
      H' jo = some (.lst (js.map V.int)) ∧ H' po = some (.lst (ps.map V.int)) ∧ (js ++ ps).Perm [0, 1, 2, 3, 5, 8] ∧ js.length = i) ⟨_, M2, [], [0, 1, 2, 3, 5, 8], by omega, rfl, g2.bag, fun a o n e => k2 a o n (k1 a o n e), k2 _ _ njo hjo, k2 _ _ npo hpo, List.Perm.refl _, rfl⟩ ?_ ?_
    · rintro i σ' H3 hi ⟨v6, M3, js, ps, l3, rfl, b3, k3, hj3, hp3, perm, hjl⟩
      have hpl : js.length + ps.length = 6 := by
        have := perm.length_eq
        rw [List.length_append] at this; exact this
      have hi6 : i < 6 := by omega
      refine ⟨_, rfl, Or.inl ⟨rfl, _, SqL.of hj3⟩, _, rfl, Or.inl ⟨rfl, _, SqL.of hp3⟩, _, rfl, _, rfl, po, _, rfl, Or.inl (SqL.of hp3), b, _, M3, rfl, b3, by omega, by rw [List.length_map]; omega, by rw [List.length_map]; omega, fun H4 r k4 b4 r0 r1 => ?_⟩
      rw [List.length_map] at r1
      have hk : r.toNat < ps.length := by omega
      have hp4 := k4 _ _ npo hp3
      have hj4 := k4 _ _ njo hj3
      refine ⟨po, ps.map V.int, r, r.toNat, .int ps[r.toNat], rfl, rfl, hp4, by omega, by omega, PySem.seqIndex_of r0 (by rw [List.length_map]; exact r1), by rw [List.getElem?_map, List.getElem?_eq_getElem hk]; rfl, ?_⟩
      refine ⟨jo, js.map V.int, .int ps[r.toNat], rfl, rfl, by rw [upd_ne npj.symm]; exact hj4, Evl.sz_lt (by rw [List.length_map]; omega), ?_⟩
      refine ⟨_, M3 + 1, js ++ [ps[r.toNat]], ps.eraseIdx r.toNat, by omega, rfl, ?_, fun a o n e => ?_, by rw [upd_same, List.map_append]; rfl, ?_, ?_, by rw [List.length_append, hjl]; rfl⟩
      · obtain ⟨d, x, n, e, rr⟩ := b4
        exact ⟨d, x, n, by rw [upd_ne njo.symm, upd_ne npo.symm]; exact e, rr⟩
      · rw [upd_ne (fjo a o n e), upd_ne (fpo a o n e)]
        exact k4 a o n (k3 a o n e)
      · rw [upd_ne npj, upd_same, eraseIdx_map']
      · refine List.Perm.trans ?_ perm
        rw [List.append_assoc]
        exact List.Perm.append_left _ (erase_perm hk)
    · rintro σ' H3 ⟨v6, M3, js, ps, l3, rfl, b3, k3, hj3, hp3, perm, hjl⟩
      have hmem : ∀ j ∈ js, j ∈ ([0, 1, 2, 3, 5, 8] : List Int) := fun j hj => perm.mem_iff.mp (List.mem_append_left _ hj)
      refine ⟨v6, M3, js, by omega, rfl, b3, k3, hj3, ?_, fun j hj => ?_, by omega, by omega⟩
      · have : (js ++ ps).Nodup := perm.symm.nodup (by decide)
        exact (List.nodup_append.mp this).1
      · have := hmem j hj
        simp only [List.mem_cons, List.not_mem_nil, or_false] at this
        omega
  rintro σ' H2 ⟨v6, M2, js, l2, rfl, b2, k2, hj2, hjn, hjb, hj1, hj6⟩
  refine sk_par (B := [b]) (m := 0) (m' := 0) (P := fun x H' => ∃ pl xs, x = .ref pl ∧ pl ≠ b ∧ H' pl = some (.lst xs) ∧ (∀ v ∈ xs, PlB b H' v) ∧ xs.length ≤ 60) (P' := fun x H' => ∃ t, x = .ref t ∧ t ≠ b ∧ H' t = some (.dK []) ∧ ∀ a o, a ≠ b → H2 a = some o → a ≠ t) (bgAt1 b2) (by omega) hb1
    (fun x H1 H2 ⟨pl, xs, e, n, h, gx, l⟩ k => ⟨pl, xs, e, n, k _ _ (by simpa using n) h, fun v hv => by
      obtain ⟨q, z, t, a, c, d, e⟩ := gx v hv
      exact ⟨q, z, t, a, c, k _ _ (by simpa using c) d, e⟩, l⟩) (fun N1 H1 l1 k1 g1 Q1 q1 => ?_) (fun N1 H1 l1 k1 g1 Q1 q1 q hq' => by
      obtain ⟨n2, g2, k2⟩ := g1.new (o := .dK []) hq'
      exact q1 _ _ N1 (Nat.le_refl _) k2 g2 ⟨q, rfl, by simpa using n2, upd_same, fun a o na e z => by
        have := k1 a o na e
        rw [z, hq'] at this; cases this⟩) fun x y H3 M3 l3 k3 g3 ⟨pl, pxs, e1, npl, hpl, hplb, hpll⟩ ⟨t, e2, ntb, ht3, ft⟩ => ?_
  · obtain ⟨kvs, f1, f2, f3, f4⟩ := hfarm.stb ((show KeepB [b] H H2 from fun a o n e => k2 a o (by simpa using n) e).trans (kb hb1 k1))
    refine ⟨_, rfl, g, rfl, ⟨kvs, f1, by simp, f3, fun kv hkv => ?_⟩, fun H3 pl xs e3 np hpl hpla lx => ?_⟩
    · obtain ⟨z, e, a1, a2, a3, a4, es, a5, a6⟩ := f4 kv hkv
      exact ⟨z, e, a1, a2, a3, a4, es, by simp, a6⟩
    · have nplb : pl ≠ b := BagC.ne g1.bag np
      refine q1 _ H3 N1 (Nat.le_refl _) (Same.keep e3) (g1.keep (Same.keep e3) (g1.bag.same e3)) ⟨pl, xs, rfl, nplb, hpl, fun v hv => ?_, lx⟩
      obtain ⟨q, z, t, a, c, d⟩ := hpla v hv
      refine ⟨q, z, t, a, fun x => ?_, c, d⟩
      obtain ⟨_, _, _, hb', _⟩ := g1.bag.same e3
      rw [x, hb'] at c; cases c
  subst e1
  subst e2
  have k3' : ∀ a o, a ≠ b → H a = some o → H3 a = some o := fun a o n e => k3 a o n (k2 a o n e)
  have w3' : Ls okN [b] 3 vf H3 := ls_stb okN_stb _ _ _ w7 (fun a o n e => k3' a o (by simpa using n) e)
  refine sk_asg (B := [b]) (m := 0) (P := fun x H => ∃ p xs, x = .ref p ∧ p ∉ [b] ∧ H p = some (.lst xs) ∧ (∀ v ∈ xs, okN v H) ∧ 3 ≤ xs.length ∧ xs.length ≤ 3 + 2) g3 (by omega) (by
    refine ek_catX (K := K) (m := 0) (m' := 0) (n := 3) (n' := 2) hb1 okN_stb (ek_dgetL (v := vf) hb1 (ls_stb okN_stb) rfl (k3' _ _ npb w1) npb w3 w3') (ek_slM (m := 0) (m' := 0) hb1 okN_stb (ek_dgetL (v := vi) hb1 (lsm_stb okN_stb) rfl (k3' _ _ npb w1) npb w4 ?_) (eko_none trivial) (eko_some (ek_c fun _ => ⟨_, rfl, trivial⟩))) (by decide)
    refine lsm_stb okN_stb _ _ _ (ls_lsm (ls_w w11 fun v ⟨z, e, h1, h2, _⟩ => ⟨z, e, h1, h2⟩)) (fun a o n e => k3' a o (by simpa using n) e)) fun y4 H4 M4 l4 k4 g4 ⟨ow, oxs, e4, now, how, hok, ho3, ho5⟩ => ?_
  subst e4
  have nowb : ow ≠ b := by simpa using now
  have hj4 := k4 _ _ njo (k3 _ _ njo hj2)
  have hpl4 := k4 _ _ npl hpl
  have ht4 := k4 _ _ ntb ht3
  have hplb4 : ∀ v ∈ pxs, PlB b H4 v := fun v hv => by
    obtain ⟨q, z, t, a, c, d, e⟩ := hplb v hv
    exact ⟨q, z, t, a, c, k4 _ _ c d, e⟩
  have ntj : t ≠ jo := fun z => by rw [z, hj4] at ht4; cases ht4
  have nto : t ≠ ow := fun z => by rw [z, how] at ht4; cases ht4
  have ntp : t ≠ pl := fun z => by rw [z, hpl4] at ht4; cases ht4
  have k4' : ∀ a o, a ≠ b → H a = some o → H4 a = some o := fun a o n e => k4 a o n (k3' a o n e)
  have fresht : ∀ a o, a ≠ b → H a = some o → a ≠ t := fun a o n e => ft a o n (k2 a o n e)
  refine ⟨fun σ' H' => ∃ (v10 v11 v12 v13 : Option V) (M : Nat) (L : List (Int × Addr × List (Key × V))), M ≤ N + 150 ∧ σ' = [some (.ref b), some (.ref g), some (.ref p), some (.int most), some (.ref po), some (.ref jo), v6, some (.ref pl), some (.ref t), some (.ref ow), v10, v11, v12, v13] ∧ BagC H' b M ∧
    (∀ a o, a ≠ b → a ≠ t → H4 a = some o → H' a = some o) ∧ Tb H4 b t js L H' ∧ L.map (·.1) = js, ?_, ?_⟩
  · refine ⟨_, rfl, jo, rfl, ⟨_, SqL.of hj4⟩, ?_⟩
    refine for_it (walk_list (xs := js.map V.int)) (fun i σ' H' => ∃ (v10 v11 v12 v13 : Option V) (M : Nat) (L : List (Int × Addr × List (Key × V))), M ≤ M4 + 20 * i ∧ σ' = [some (.ref b), some (.ref g), some (.ref p), some (.int most), some (.ref po), some (.ref jo), v6, some (.ref pl), some (.ref t), some (.ref ow), v10, v11, v12, v13] ∧ BagC H' b M ∧
      (∀ a o, a ≠ b → a ≠ t → H4 a = some o → H' a = some o) ∧ Tb H4 b t js L H' ∧ L.map (·.1) = js.take i) ⟨_, _, _, _, M4, [], by omega, rfl, g4.bag, fun _ _ _ _ h => h, ⟨ht4, .nil, fun _ h => nomatch h⟩, rfl⟩ (fun i σ' H' _ ⟨_, _, _, _, _, _, _, _, _, k, _⟩ => SqL.of (k _ _ njo ntj.symm hj4)) ?_ ?_
    · rintro i x σ' H5' H5 hi ⟨v10, v11, v12, v13, M5, L, l5, rfl, b5, k5, tb5, hL⟩ ⟨rfl, hxi⟩
      rw [List.length_map] at hi
      rw [List.getElem?_map] at hxi
      obtain ⟨j, hji, rfl⟩ := Option.map_eq_some_iff.mp hxi
      refine sq_dnew fun e he => ?_
      have neb : e ≠ b := BagC.ne b5 he
      have x6 : Ex H5 (upd H5 e (.dK [])) := Ex.new he
      have he6 : (upd H5 e (.dK [])) e = some (.dK []) := upd_same
      have old5 : ∀ {a o}, H5 a = some o → a ≠ e := fun h z => by rw [z, he] at h; cases h
      have b6 := b5.same x6
      generalize upd H5 e (.dK []) = H6 at *
      have net : t ≠ e := old5 tb5.1
      have how6 := x6 _ _ (k5 _ _ nowb nto.symm how)
      have nowe : ow ≠ e := old5 (k5 _ _ nowb nto.symm how)
      have njoe : jo ≠ e := old5 (k5 _ _ njo ntj.symm hj4)
      have npe : pl ≠ e := old5 (k5 _ _ npl ntp.symm hpl4)
      have g6 : BgAt b [b, e] M5 H6 := ⟨b6, by simp, fun a ha => by
        simp only [List.mem_cons, List.not_mem_nil, or_false] at ha
        rcases ha with rfl | rfl
        · obtain ⟨_, _, _, h, _⟩ := b6; exact ⟨_, h⟩
        · exact ⟨_, he6⟩⟩
      have hb2 : b ∈ [b, e] := by simp
      have heB : e ∈ [b, e] := by simp
      refine sk_forL (K := K) (B := [b, e]) (m := 1) (n := 5) (G := okN) g6 (by omega) ?_ fun sl nm H7 M7 l7 k7 g7 nsl hsl hnm lnm => ?_
      · refine ek_slM (m := 0) (m' := 1) hb2 okN_stb (ek_v rfl fun H7 k7 => ⟨ow, oxs, rfl, by simp [nowb, nowe], k7 _ _ nowb how6, hok, by omega⟩) (eko_none trivial) (eko_some (ek_addC (R := fun _ => True) (R' := fun _ => True) ?_ fun _ _ => trivial))
        refine ek_w (ek_takeM (m := 0) (c := (oxs.length : Int)) rfl ?_ ⟨by omega, by omega⟩) fun x _ ⟨r, e, _⟩ => ⟨r, e, trivial⟩
        exact fun N2 H2 l2 k2 g2 Q2 q2 => ⟨_, rfl, ow, oxs, rfl, Or.inl (SqL.of (k2 _ _ nowb how6)), q2 _ H2 N2 (Nat.le_refl _) (Keep.refl b H2) g2 rfl⟩
      have nslb : sl ≠ b := fun z => nsl (by rw [z]; simp)
      have nsle : sl ≠ e := fun z => nsl (by rw [z]; simp)
      have he7 := k7 _ _ neb he6
      have o7 : ∀ a o, a ≠ b → a ≠ t → H4 a = some o → H7 a = some o := fun a o n1 n2 h => k7 a o n1 (x6 _ _ (k5 a o n1 n2 h))
      have hj7 := o7 _ _ njo ntj.symm hj4
      have hp7 := o7 _ _ npl ntp.symm hpl4
      refine for_it (walk_list (xs := nm)) (fun c σ' H' => ∃ (v12 v13 : Option V) (M : Nat) (ekvs : List (Key × V)), M ≤ M7 + 3 * c ∧ σ' = [some (.ref b), some (.ref g), some (.ref p), some (.int most), some (.ref po), some (.ref jo), v6, some (.ref pl), some (.ref t), some (.ref ow), some (.int j), some (.ref e), v12, v13] ∧ BgAt b [b, e] M H' ∧
        (∀ a o, a ≠ b → a ≠ e → H7 a = some o → H' a = some o) ∧ H' e = some (.dK ekvs) ∧ RowQ b js H4 ekvs ∧ ekvs.length ≤ c) ⟨_, _, M7, [], by omega, rfl, g7, fun _ _ _ _ h => h, he7, ⟨.nil, fun _ h => nomatch h⟩, Nat.le_refl _⟩ (fun c σ' H' _ ⟨_, _, _, _, _, _, _, k, _⟩ => SqL.of (k _ _ nslb nsle hsl)) ?_ ?_
      · rintro c x σ' H8' H8 hc ⟨v12, v13, M8, ekvs, l8, rfl, g8, k8, he8, hrq, hel⟩ ⟨rfl, hxc⟩
        obtain ⟨z, rfl, hz, _⟩ := hnm x (List.mem_of_getElem? hxc)
        have lc' : c < 5 := by omega
        refine sk_asg (m := 1) g8 (by omega) (ek_take (c := 5) rfl (by decide)) fun y9 H9 M9 l9 k9 g9 ⟨way, e9, wy0, wy5⟩ => ?_
        subst e9
        have he9 := k9 _ _ neb he8
        have o9 : ∀ a o, a ≠ b → a ≠ e → H7 a = some o → H9 a = some o := fun a o n1 n2 h => k9 a o n1 (k8 a o n1 n2 h)
        have stay : ∀ {H10 M10 ekvs10}, M10 ≤ M9 + 1 → BgAt b [b, e] M10 H10 → (∀ a o, a ≠ b → a ≠ e → H7 a = some o → H10 a = some o) → H10 e = some (.dK ekvs10) → RowQ b js H4 ekvs10 → ekvs10.length ≤ c + 1 → ∃ (v12 v13' : Option V) (M : Nat) (ekvs : List (Key × V)), M ≤ M7 + 3 * (c + 1) ∧ [some (V.ref b), some (.ref g), some (.ref p), some (.int most), some (.ref po), some (.ref jo), v6, some (.ref pl), some (.ref t), some (.ref ow), some (.int j), some (.ref e), some (.str z), some (.int way)] = [some (V.ref b), some (.ref g), some (.ref p), some (.int most), some (.ref po), some (.ref jo), v6, some (.ref pl), some (.ref t), some (.ref ow), some (.int j), some (.ref e), v12, v13'] ∧ BgAt b [b, e] M H10 ∧
            (∀ a o, a ≠ b → a ≠ e → H7 a = some o → H10 a = some o) ∧ H10 e = some (.dK ekvs) ∧ RowQ b js H4 ekvs ∧ ekvs.length ≤ c + 1 := by
          intro H10 M10 ekvs10 a1 a2 a3 a4 a5 a6
          exact ⟨_, _, M10, ekvs10, by omega, rfl, a2, a3, a4, a5, a6⟩
        have putJ : ∀ {D : Ends} {H10}, Ex H9 H10 → (∀ H11, (∃ (v12 v13' : Option V) (M : Nat) (ekvs : List (Key × V)), M ≤ M7 + 3 * (c + 1) ∧ [some (V.ref b), some (.ref g), some (.ref p), some (.int most), some (.ref po), some (.ref jo), v6, some (.ref pl), some (.ref t), some (.ref ow), some (.int j), some (.ref e), some (.str z), some (.int way)] = [some (V.ref b), some (.ref g), some (.ref p), some (.int most), some (.ref po), some (.ref jo), v6, some (.ref pl), some (.ref t), some (.ref ow), some (.int j), some (.ref e), v12, v13'] ∧ BgAt b [b, e] M H11 ∧
            (∀ a o, a ≠ b → a ≠ e → H7 a = some o → H11 a = some o) ∧ H11 e = some (.dK ekvs) ∧ RowQ b js H4 ekvs ∧ ekvs.length ≤ c + 1) → D.nx [some (V.ref b), some (.ref g), some (.ref p), some (.int most), some (.ref po), some (.ref jo), v6, some (.ref pl), some (.ref t), some (.ref ow), some (.int j), some (.ref e), some (.str z), some (.int way)] H11) →
            sDPut (tVar 11) (tVar 12) (tCall (spPickC K) [] E0 (tCons (tVar 0) (tCons (tVar 5) tNil))) D [some (V.ref b), some (.ref g), some (.ref p), some (.int most), some (.ref po), some (.ref jo), v6, some (.ref pl), some (.ref t), some (.ref ow), some (.int j), some (.ref e), some (.str z), some (.int way)] H10 := by
          intro D H10 e10 kk
          have g10 := g9.keep (Same.keep e10) (g9.bag.same e10)
          refine sk_dput1 (m := 1) (P := fun v _ => ∃ i, v = .int i ∧ i ∈ js) (key := .inr z) g10 (by omega) heB neb rfl rfl (e10 _ _ he9) (by omega) (fun _ _ _ h _ => h) (ek_w (ek_pickL rfl rfl (e10 _ _ (o9 _ _ njo njoe hj7)) njo (by rw [List.length_map]; omega) (by rw [List.length_map]; omega)) fun v _ hv => by
            obtain ⟨i, hi, rfl⟩ := List.mem_map.mp hv
            exact ⟨i, rfl, hi⟩) fun v H11 M11 l11 g11 _ k11 d11 ⟨iv, ev, hiv⟩ => kk H11 ?_
          exact stay (by omega) g11 (fun a o n1 n2 h => k11 a o n1 n2 (e10 _ _ (o9 a o n1 n2 h))) d11 (hrq.put hz (x := .inl iv) ev hiv) (Nat.le_trans len_put (by omega))
        have second : ∀ {D : Ends} {H10}, Ex H9 H10 → (way = 3 → pxs ≠ []) → (∀ H11, (∃ (v12 v13' : Option V) (M : Nat) (ekvs : List (Key × V)), M ≤ M7 + 3 * (c + 1) ∧ [some (V.ref b), some (.ref g), some (.ref p), some (.int most), some (.ref po), some (.ref jo), v6, some (.ref pl), some (.ref t), some (.ref ow), some (.int j), some (.ref e), some (.str z), some (.int way)] = [some (V.ref b), some (.ref g), some (.ref p), some (.int most), some (.ref po), some (.ref jo), v6, some (.ref pl), some (.ref t), some (.ref ow), some (.int j), some (.ref e), v12, v13'] ∧ BgAt b [b, e] M H11 ∧
            (∀ a o, a ≠ b → a ≠ e → H7 a = some o → H11 a = some o) ∧ H11 e = some (.dK ekvs) ∧ RowQ b js H4 ekvs ∧ ekvs.length ≤ c + 1) → D.nx [some (V.ref b), some (.ref g), some (.ref p), some (.int most), some (.ref po), some (.ref jo), v6, some (.ref pl), some (.ref t), some (.ref ow), some (.int j), some (.ref e), some (.str z), some (.int way)] H11) →
            tIfS (tTest (tOp rEq (tVar 13) (tC (.int 3)))) (sDPut (tVar 11) (tVar 12) (tCall (spPickC K) [] E0 (tCons (tVar 0) (tCons (tVar 7) tNil)))) tNext D [some (V.ref b), some (.ref g), some (.ref p), some (.int most), some (.ref po), some (.ref jo), v6, some (.ref pl), some (.ref t), some (.ref ow), some (.int j), some (.ref e), some (.str z), some (.int way)] H10 := by
          intro D H10 e10 hne kk
          have g10 := g9.keep (Same.keep e10) (g9.bag.same e10)
          have hp10 := e10 _ _ (o9 _ _ npl npe hp7)
          refine sif_known (c := decide (V.int way = V.int 3)) (fun Q q => ⟨_, rfl, rfl, _, rfl, q⟩) (fun hc3 => ?_) (fun hc3 => kk H10 (stay (by omega) g10 (fun a o n1 n2 h => e10 _ _ (o9 a o n1 n2 h)) (e10 _ _ he9) hrq (by omega)))
          have hw3 : way = 3 := V.int.inj (of_decide_eq_true hc3)
          have hne' := hne hw3
          have hpx1 : 1 ≤ pxs.length := by
            cases pxs with
            | nil => exact absurd rfl hne'
            | cons _ _ => simp
          refine sk_dput1 (m := 1) (P := fun v _ => v ∈ pxs) (key := .inr z) g10 (by omega) heB neb rfl rfl (e10 _ _ he9) (by omega) (fun _ _ _ h _ => h) (ek_pickL rfl rfl hp10 npl hpx1 (by omega)) fun v H11 M11 l11 g11 _ k11 d11 hv => kk H11 ?_
          obtain ⟨q, z1, t1, ev, nq, hq1, h1, h2⟩ := hplb4 v hv
          exact stay (by omega) g11 (fun a o n1 n2 h => k11 a o n1 n2 (e10 _ _ (o9 a o n1 n2 h))) d11 (hrq.put hz (x := .inr (z1, t1)) ⟨q, ev, nq, hq1⟩ ⟨h1, h2⟩) (Nat.le_trans len_put (by omega))
        refine ⟨_, rfl, _, _, rfl, rfl, _, rfl, ?_⟩
        refine ifD (fun hw2 => putJ (Ex.refl _) fun _ h => h) (fun hw2 => ?_)
        refine ⟨_, rfl, rfl, _, rfl, ?_⟩
        by_cases hw3 : way = 3
        · have : decide (V.int way = V.int 3) = true := decide_eq_true (by rw [hw3])
          rw [this]
          refine ⟨_, rfl, by show 0 ≤ sizeLine; decide, fun r hr' => ?_⟩
          have hp9 := o9 _ _ npl npe hp7
          have hpr : pl ≠ r := fun x => by rw [x, hr'] at hp9; cases hp9
          have x10 : Ex H9 (upd H9 r (.lst [])) := Ex.new hr'
          obtain ⟨ds, hds⟩ := dqAll_of (H := upd H9 r (.lst [])) (vs := pxs) fun v hv => by
            obtain ⟨q, z1, t1, ev, nq, hq1, h1, h2⟩ := hplb v hv
            have hq9 : H9 q = some (.tup [.str z1, .str t1]) := by
              have h4 := k4 _ _ nq hq1
              have nqt : q ≠ t := fun x => by rw [x, ht4] at h4; cases h4
              have h7 := o7 _ _ nq nqt h4
              have nqe : q ≠ e := fun x => by rw [x, he7] at h7; cases h7
              exact o9 _ _ nq nqe h7
            have l1 := (isNm_len h1).2
            have l2 := h2.len
            exact ⟨.tuple [.str z1, .str t1], by
              rw [ev]
              exact .tup (x10 _ _ hq9) (.cons (.str _ (by omega) (strOk_nm h1)) (.cons (.str _ (by omega) h2.strOk) .nil)) (by show 2 ≤ 1000; decide)⟩
          have hD : Dq (upd H9 r (.lst [])) (.ref pl) (.list ds) := .lst (x10 _ _ hp9) hds (by omega)
          have hl := hds.len
          refine ⟨.list ds, .list [], Dq.dp _ _ hD, .lst (SqL.of upd_same) .nil, Dq.lay _ _ hD, by simp [PyData.canLay0, PyData.canLayAll0], by simp [PyData.depth, PyData.depthAll], _, rfl, ?_⟩
          cases ds with
          | nil =>
            have : PyData.eqv (.list []) (.list []) = true := by simp [PyData.eqv, PyData.eqvAll]
            rw [this]
            exact putJ x10 fun _ h => h
          | cons d ds =>
            have : PyData.eqv (.list (d :: ds)) (.list []) = false := by simp [PyData.eqv, PyData.eqvAll]
            rw [this]
            exact second x10 (fun _ e => by rw [e] at hl; simp at hl) fun _ h => h
        · have : decide (V.int way = V.int 3) = false := decide_eq_false fun h => hw3 (V.int.inj h)
          rw [this]
          exact second (Ex.refl _) (fun h => absurd h hw3) fun _ h => h
      · rintro σ' H8 ⟨v12, v13, M8, ekvs, l8, rfl, g8, k8, he8, hrq, hel⟩
        have o8 : ∀ {a o}, a ≠ b → H5 a = some o → H8 a = some o := fun n h => k8 _ _ n (old5 h) (k7 _ _ n (x6 _ _ h))
        have ht8 := o8 ntb tb5.1
        have hLl : L.length ≤ i := by
          have := congrArg List.length hL
          rw [List.length_map, List.length_take] at this; omega
        have hnew : valV (L.map fun l => ((Sum.inl l.1 : Key), V.ref l.2.1)) (Sum.inl j) = none := by
          cases hv : valV (L.map fun l => ((Sum.inl l.1 : Key), V.ref l.2.1)) (Sum.inl j) with
          | none => rfl
          | some v =>
            obtain ⟨l, hl, el⟩ := List.mem_map.mp (val_mem hv)
            have e1 : l.1 = j := Sum.inl.inj (congrArg Prod.fst el)
            have h1 : j ∈ js.take i := by rw [← hL, ← e1]; exact List.mem_map.mpr ⟨l, hl, rfl⟩
            exact absurd h1 (not_mem_take hjn hji)
        refine ⟨_, rfl, _, rfl, _, rfl, t, _, rfl, DPut.k (k := .inl j) ht8 (Evl.sz_lt (by rw [List.length_map]; omega)), ?_⟩
        rw [putK_new _ hnew]
        have hne8 : ∀ a, a ≠ t → (upd H8 t (.dK ((L.map fun l => ((Sum.inl l.1 : Key), V.ref l.2.1)) ++ [(Sum.inl j, .ref e)]))) a = H8 a := fun a n => upd_ne n
        refine ⟨_, _, _, _, M8, L ++ [(j, e, ekvs)], by omega, rfl, ?_, fun a o n1 n2 h => ?_, ⟨?_, ?_, fun l hl => ?_⟩, ?_⟩
        · obtain ⟨d, x, n, e, rr⟩ := g8.bag
          exact ⟨d, x, n, by rw [hne8 _ ntb.symm]; exact e, rr⟩
        · rw [hne8 _ n2]; exact o8 n1 (k5 a o n1 n2 h)
        · rw [upd_same, List.map_append]; rfl
        · rw [List.map_append, List.nodup_append]
          refine ⟨tb5.2.1, by simp, fun a ha b' hb' => ?_⟩
          obtain ⟨l, hl, rfl⟩ := List.mem_map.mp ha
          rw [List.map_cons, List.map_nil, List.mem_singleton] at hb'
          rw [hb']
          exact old5 (tb5.2.2 l hl).1
        · rcases List.mem_append.mp hl with hl | hl
          · obtain ⟨a1, a2, a3, a4, a5⟩ := tb5.2.2 l hl
            exact ⟨by rw [hne8 _ a5]; exact o8 a4 a1, a2, a3, a4, a5⟩
          · rw [List.mem_singleton.mp hl]
            exact ⟨by rw [hne8 _ net.symm]; exact he8, hrq, by show ekvs.length ≤ 9; omega, neb, net.symm⟩
        · rw [List.map_append, hL, List.take_add_one, hji]; rfl
    · rintro σ' H5 ⟨v10, v11, v12, v13, M5, L, l5, rfl, b5, k5, tb5, hL⟩
      rw [List.length_map] at hL l5
      exact ⟨v10, v11, v12, v13, M5, L, by omega, rfl, b5, k5, tb5, by rw [hL, List.take_length]⟩
  · rintro σ' H5 ⟨v10, v11, v12, v13, M5, L, l5, rfl, b5, k5, tb5, hL⟩
    have o5 : ∀ a o, a ≠ b → H a = some o → H5 a = some o := fun a o n h => k5 a o n (fresht a o n h) (k4' a o n h)
    have hj5 := k5 _ _ njo ntj.symm hj4
    refine sk_ret (B := [b]) (m := 1) (P := fun x H' => ∃ q head, x = .ref q ∧ q ≠ b ∧ H' q = some (.tup [.ref t, .int head]) ∧ head ∈ js) (bgAt1 b5) (by omega) (fun N1 H1 l1 k1 g1 Q1 q1 => ⟨_, rfl, ek_pickL (K := K) (B := [b]) (σ := [some (.ref b), some (.ref g), some (.ref p), some (.int most), some (.ref po), some (.ref jo), v6, some (.ref pl), some (.ref t), some (.ref ow), v10, v11, v12, v13]) (i := 0) (j := 5) (H := H1) (xs := js.map V.int) rfl rfl (k1 _ _ njo hj5) njo (by rw [List.length_map]; omega) (by rw [List.length_map]; omega) N1 H1 l1 (Keep.refl b H1) g1 _ fun x H2 M2 lm2 k2 g2 hx => ⟨by show 2 ≤ sizeLine; decide, fun q hq' => by
      obtain ⟨head, hh, rfl⟩ := List.mem_map.mp hx
      obtain ⟨nq, g3, k3⟩ := g2.new (o := .tup [.ref t, .int head]) hq'
      exact q1 _ _ M2 lm2 (k2.trans k3) g3 ⟨q, head, rfl, by simpa using nq, upd_same, hh⟩⟩⟩) fun x H6 M6 l6 k6 g6 ⟨q, head, ex, nqb, hq6, hh⟩ => ?_
    subst ex
    have tb6 := tb5.keep ntb k6
    have o46 : ∀ l ∈ L, ∃ r, RowA b H6 l.2.1 r ∧ RowOk js r ∧ r.length ≤ 9 ∧ ∀ y ∈ r, ¬ y.1 = "new" := fun l hl => by
      obtain ⟨a1, a2, a3, a4, a5⟩ := tb6.2.2 l hl
      have : RowQ b js H6 l.2.2 := ⟨a2.1, fun kv hkv => by
        obtain ⟨z, x, h1, h2, h3, h4⟩ := a2.2 kv hkv
        refine ⟨z, x, h1, h2, ?_, h4⟩
        cases x with
        | inl i => exact h3
        | inr p =>
          obtain ⟨q, e, n, h⟩ := h3
          have nqt : q ≠ t := fun x => by rw [x, ht4] at h; cases h
          exact ⟨q, e, n, k6 _ _ n (k5 _ _ n nqt h)⟩⟩
      exact this.row a4 a1 a3 fun _ _ _ h => h
    obtain ⟨tabs, ht⟩ := each_of (R := fun (l : Int × Addr × List (Key × V)) (x : Int × List (Str × Tg)) => x.1 = l.1 ∧ l.2.1 ≠ t ∧ RowA b H6 l.2.1 x.2 ∧ RowOk js x.2 ∧ x.2.length ≤ 9 ∧ ∀ y ∈ x.2, ¬ y.1 = "new") (xs := L) fun l hl => by
      obtain ⟨r, h1, h2⟩ := o46 l hl
      exact ⟨(l.1, r), rfl, (tb6.2.2 l hl).2.2.2.2, h1, h2⟩
    have hkeys : tabs.map (·.1) = js := by
      rw [← hL]
      exact (each_map (fun a c h => h.1.symm) ht).symm
    refine hq H6 q t tabs head M6 (by omega) (fun a o n h => k6 a o n (o5 a o n h)) g6.bag nqb hq6 ⟨_, ntb, tb6.1, ?_, ?_⟩ ⟨by rw [hkeys]; exact hjn, by rw [← List.length_map (f := fun x : Int × List (Str × Tg) => x.1), hkeys]; exact hj1, by rw [← List.length_map (f := fun x : Int × List (Str × Tg) => x.1), hkeys]; exact hj6, fun x hx => ?_⟩ (fun x hx => by obtain ⟨l, _, _, _, _, _, h5⟩ := each_back ht x hx; exact h5) (by rw [hkeys]; exact hh)
    · exact each_mapL ht fun l x h => ⟨by rw [h.1], l.2.1, rfl, h.2.1, h.2.2.1⟩
    · rw [List.map_map]
      have : L.map ((fun kv : Key × V => kv.2) ∘ fun l => ((Sum.inl l.1 : Key), V.ref l.2.1)) = (L.map (·.2.1)).map V.ref := by rw [List.map_map]; rfl
      rw [this]
      exact nodup_map_ref tb6.2.1
    · obtain ⟨l, _, h1, h2, h3, h4, _⟩ := each_back ht x hx
      refine ⟨hjb _ (by rw [← hkeys]; exact List.mem_map.mpr ⟨x, hx, rfl⟩), by rw [hkeys]; exact h4⟩
end
end KC

set_option Elab.async false
set_option linter.all false
set_option maxRecDepth 100000
set_option maxHeartbeats 4000000
namespace LF
open PySem PySem.Spec PyProof.Rows L2
open Evl (Ev EvL EvU EvT EvA EvO Ex sq_of st_of)
/-! walks over dicts, under a lock -/
theorem ex_lock {H H1 : Hp} {d : Addr} {u : HO} (e : Ex H H1) : Ex (upd H d u) (upd H1 d u) := fun a o h => by
  by_cases n : a = d
  · subst n; rw [upd_same] at h ⊢; exact h
  · rw [upd_ne n] at h ⊢; exact e a o h
theorem ex_unlock {H H' : Hp} {d : Addr} {u : HO} {o : Obj} (h : H d = some u) (s : Ex (upd H d (.frz o u)) H') : Ex H (upd H' d u) := fun a x e => by
  by_cases hb : a = d
  · subst hb; rw [upd_same, ← e, h]
  · rw [upd_ne hb]; exact s a x (by rw [upd_ne hb]; exact e)
theorem dc_it {J : It} {n : Nat} {G : Hp → Prop} {Y : Nat → Hp → V → Hp → Prop} (wk : Walk J n G Y) {g : TG} {tt : TT} {tk tv : TE} {vs : List Nat} {σ : L2.St} {Ha : Hp} {D : Addr} {Qd : Hp → Prop} (Pv : Nat → Hp → Prop) (start : Pv 0 (upd Ha D (.dK [])))
    (ok : ∀ i Hb, i ≤ n → Pv i Hb → G Hb)
    (turn : ∀ i x Hb Hc, i < n → Pv i Hb → Y i Hb x Hc → g x (wipe σ vs) Hc fun σ2 H2 => wipe σ2 vs = wipe σ vs ∧ tt σ2 H2 fun b H3 =>
      if b = true then tk σ2 H3 fun y H4 => tv σ2 H4 fun z H5 => ∃ kvs k, y = kV k ∧ H5 D = some (.dK kvs) ∧ kvs.length < sizeLine ∧ Pv (i + 1) (upd H5 D (.dK (putK kvs k z))) else Pv (i + 1) H3)
    (fin : ∀ Hb, Pv n Hb → Qd Hb) :
    ∃ W : Nat → Nat → Hp → Prop, (∃ m, W 0 m (upd Ha D (.dK []))) ∧ ∀ i m Hb, W i m Hb →
      (J.stop i Hb ∧ Qd Hb) ∨ (J.go i Hb ∧ ∃ Nx : Hp → Prop, (∀ Hc, Nx Hc → ∃ m', m' < m ∧ W (i + 1) m' Hc) ∧ ∀ x Hc, J.yld i Hb x Hc → g x (wipe σ vs) Hc fun σ2 H2 => wipe σ2 vs = wipe σ vs ∧ tt σ2 H2 fun b H3 =>
        if b = true then tk σ2 H3 fun y H4 => tv σ2 H4 fun z H5 => ∃ kvs k, y = kV k ∧ H5 D = some (.dK kvs) ∧ kvs.length < sizeLine ∧ Nx (upd H5 D (.dK (putK kvs k z))) else Nx H3) := by
  refine ⟨fun i m Hb => m + i = n ∧ Pv i Hb, ⟨n, Nat.add_zero n, start⟩, fun i m Hb hw => ?_⟩
  obtain ⟨hm, hp⟩ := hw
  have hi : i ≤ n := by omega
  rcases Nat.lt_or_ge i n with hlt | hge
  · exact Or.inr ⟨wk.goes i Hb hlt (ok i Hb hi hp), Pv (i + 1), fun Hc hc => ⟨n - (i + 1), by omega, by omega, hc⟩, fun x Hc y => turn i x Hb Hc hlt hp (wk.yields i Hb x Hc hlt (ok i Hb hi hp) y)⟩
  · obtain rfl : i = n := by omega
    exact Or.inl ⟨wk.stops Hb (ok i Hb hi hp), fin Hb hp⟩
section
variable {K : PySem.W.Frag} {σ : L2.St} {H : Hp} {te tk tv : TE} {tt : TT} {d : Addr} {kvs : List (Key × V)} {i j w : Nat} {D : Ends} {tz : TS}
/-- all([.. for k in d]) -/
theorem ev_lockAll (td : TE) (htd : Ev td σ H (.ref d)) (htd2 : ∀ od H1, Ex (upd H d (.frz od (.dK kvs))) H1 → Ev td σ H1 (.ref d)) (hd : H d = some (.dK kvs)) (hz : kvs.length ≤ 1000) (g : Key → Bool)
    (he : ∀ k ∈ kvs.map (·.1), ∀ od H1, Ex (upd H d (.frz od (.dK kvs))) H1 → Ev te ((wipe σ [j]).set j (some (kV k))) H1 (.bl (g k))) :
    Ev (tCB (rAll K) (tCons (tLockE (tLc (iKeys td) (gName j) tYes te [j])) tNil)) σ H (.bl ((kvs.map (·.1)).all g)) := fun H1 e Q q => by
  refine ⟨d, .dK kvs, e _ _ hd, trivial, fun od => ?_⟩
  unfold tLc iKeys
  refine htd2 od _ (ex_lock e) _ (Ex.refl _) _ fun H2 e2 => ?_
  have h2 : H2 d = some (.frz od (.dK kvs)) := e2 _ _ upd_same
  refine ⟨d, od, rfl, Or.inl ⟨kvs, h2, fun Dl hD => ?_⟩⟩
  have nd : Dl ≠ d := fun x => by rw [x, h2] at hD; cases hD
  refine lc_it walk_keys (fun n H' => Ex H2 H' ∧ H' Dl = some (.lst (((kvs.map (·.1)).take n).map fun k => V.bl (g k)))) ⟨Ex.new hD, by rw [upd_same]; rfl⟩ (fun n H' _ h => h.1 _ _ h2) ?_ ?_
  · rintro n x H3' H3 hn ⟨e3, hl⟩ ⟨rfl, k, v, hk, rfl⟩
    refine ⟨wipe_set, ?_⟩
    have hk' : (kvs.map (·.1))[n]? = some k := by rw [List.getElem?_map, hk]; rfl
    refine he k (List.mem_of_getElem? hk') od H3 ((ex_lock e).trans (e2.trans e3)) H3 (Ex.refl H3) _ fun H4 e4 => ?_
    refine ⟨_, e4 _ _ hl, Evl.sz_lt (by rw [List.length_map, List.length_take]; omega), Ex.mut (e3.trans e4) hD, ?_⟩
    rw [upd_same, List.take_add_one, hk', List.map_append]; rfl
  · rintro H3 ⟨e3, hl⟩
    rw [List.take_of_length_le (by rw [List.length_map]; exact Nat.le_refl _)] at hl
    refine ⟨e3 _ _ h2, Dl, (kvs.map (·.1)).map g, rfl, SqL.of (by rw [upd_ne nd, hl]; simp [Function.comp_def]), ?_⟩
    have : ((kvs.map (·.1)).map g).all id = (kvs.map (·.1)).all g := by rw [List.all_map]; rfl
    rw [this]
    exact q _ (ex_unlock (e _ _ hd) (e2.trans e3))
/-- w = [k for k in d if ..], none so -/
theorem sq_lockNone (hi : σ[i]? = some (some (.ref d))) (hd : H d = some (.dK kvs)) (ht : ∀ k ∈ kvs.map (·.1), ∀ od H1, Ex (upd H d (.frz od (.dK kvs))) H1 → EvT tt ((wipe σ [j]).set j (some (kV k))) H1 false)
    (k : ∀ p H1, Ex H H1 → H1 p = some (.lst []) → tz D (σ.set w (some (.ref p))) H1) : tSeq (tLock (tAsg (tLc (iKeys (tVar i)) (gName j) tt te [j]) (gName w))) tz D σ H := by
  refine ⟨d, .dK kvs, hd, trivial, fun od => ?_⟩
  refine ⟨_, hi, d, od, rfl, Or.inl ⟨kvs, upd_same, fun Dl hD => ?_⟩⟩
  have nd : Dl ≠ d := fun x => by rw [x, upd_same] at hD; cases hD
  refine lc_it walk_keys (fun n H' => Ex (upd H d (.frz od (.dK kvs))) H' ∧ H' Dl = some (.lst [])) ⟨Ex.new hD, upd_same⟩ (fun n H' _ h => h.1 _ _ upd_same) ?_ ?_
  · rintro n x H3' H3 hn ⟨e3, hl⟩ ⟨rfl, kk, v, hk, rfl⟩
    refine ⟨wipe_set, ?_⟩
    have hk' : (kvs.map (·.1))[n]? = some kk := by rw [List.getElem?_map, hk]; rfl
    exact ht kk (List.mem_of_getElem? hk') od H3 e3 H3 (Ex.refl H3) _ fun H4 e4 => iteF ⟨e3.trans e4, e4 _ _ hl⟩
  · rintro H3 ⟨e3, hl⟩
    exact ⟨e3 _ _ upd_same, k Dl _ (ex_unlock hd e3) (by rw [upd_ne nd]; exact hl)⟩
end
end LF

set_option Elab.async false
set_option linter.all false
set_option maxRecDepth 100000
set_option maxHeartbeats 4000000
namespace LF
open PySem PySem.Spec PyProof.Rows L2 KC
abbrev leS (a b : Str) : Prop := a.cps.toList ≤ b.cps.toList
theorem not_ltCps {a b : Str} (h : (!ltCps b.cps.toList a.cps.toList) = true) : leS a b := by
  rw [ltCps_eq, Bool.not_eq_true', decide_eq_false_iff_not] at h
  exact List.not_lt.mp h
theorem rising_pw : ∀ (l : List Str) (p : Str), risingS p l = true → (∀ x ∈ l, leS p x) ∧ l.Pairwise leS
  | [], _, _ => ⟨fun _ h => (nomatch h), .nil⟩
  | x :: r, p, h => by
    have h' : (!ltCps x.cps.toList p.cps.toList && risingS x r) = true := h
    rw [Bool.and_eq_true] at h'
    have h1 := not_ltCps h'.1
    obtain ⟨h2, h3⟩ := rising_pw r x h'.2
    refine ⟨fun y hy => ?_, .cons h2 h3⟩
    rcases List.mem_cons.mp hy with rfl | hy
    · exact h1
    · exact List.le_trans h1 (h2 y hy)
theorem sorted_pw {l : List Str} (h : sortedS l = true) : l.Pairwise leS := by
  cases l with
  | nil => exact .nil
  | cons x r =>
    obtain ⟨h1, h2⟩ := rising_pw r x h
    exact .cons h1 h2
theorem sorted_one {l m : List Str} (hl : sortedS l = true) (hm : sortedS m = true) (hp : l.Perm m) : l = m :=
  List.Perm.eq_of_pairwise (le := leS) (fun a b _ _ h1 h2 => str_of_cps' (List.le_antisymm h1 h2)) (sorted_pw hl) (sorted_pw hm) hp
where str_of_cps' {x y : Str} (h : x.cps.toList = y.cps.toList) : x = y := PySem.W.str_of_cps h
end LF

set_option Elab.async false
set_option linter.all false
set_option maxRecDepth 100000
set_option maxHeartbeats 8000000
namespace KC
open PySem PySem.Spec PyProof.Rows L2 LF
open Evl (Ev EvL EvU EvT EvA Ex sq_of st_of)
open PySem.W (EachIs)
def spTgIn : Sp := fun vs H Q _ => ∃ (t b : Addr) (v : V) (x : Tg) (kvs : List (Key × V)) (js : List Int), vs = [.ref t, v] ∧ H t = some (.dK kvs) ∧ kvs.map (·.1) = js.map Sum.inl ∧ (∀ j ∈ js, 0 ≤ j) ∧ TgA b H v x ∧ TgOk js x ∧ ∀ H', Ex H H' → Q (.bl true) H'
def spCheck : Sp := fun vs H Q _ => ∃ (t b : Addr) (tabs : List (Int × List (Str × Tg))) (top : Int), vs = [.ref t, .int top] ∧ TabA b H t tabs ∧ TabOk tabs ∧ top ∈ tabs.map (·.1) ∧ ∀ H', Ex H H' → Q .non H'
/-- a row by the order of its names -/
def SrtR (r s : List (Str × Tg)) : Prop := s.Perm r ∧ sortedS (s.map (·.1)) = true
def spRow : Sp := fun vs H Q _ => ∃ (e b : Addr) (r : List (Str × Tg)), vs = [.ref e] ∧ RowA b H e r ∧ (r.map (·.1)).Nodup ∧ r.length ≤ 10 ∧ ∀ H' p s, Ex H H' → H p = none → (p ≠ b → RowA b H' p s) → SrtR r s → Q (.ref p) H'
abbrev s_is_target_in : Stmt := topS 13
abbrev N_is_target_in : List Str := ["rows", "thing"]
theorem sc_is_target_in : FnScope ["rows", "thing"] ["rows", "thing"] (defScope s_is_target_in) := ⟨rfl, rfl, rfl, by decide +kernel, rfl, by decide +kernel, by decide +kernel⟩
abbrev s_check_tables : Stmt := topS 12
abbrev N_check_tables : List Str := ["tables", "top", "joint", "table", "name", "wrong"]
theorem sc_check_tables : FnScope ["tables", "top", "joint", "table", "name", "wrong"] ["tables", "top"] (defScope s_check_tables) := ⟨rfl, rfl, rfl, by decide +kernel, rfl, by decide +kernel, by decide +kernel⟩
abbrev s_sorted_row : Stmt := topS 14
abbrev N_sorted_row : List Str := ["table", "name"]
theorem sc_sorted_row : FnScope ["table", "name"] ["table"] (defScope s_sorted_row) := ⟨rfl, rfl, rfl, by decide +kernel, rfl, by decide +kernel, by decide +kernel⟩
theorem TgA.dq {b : Addr} {H : Hp} {v : V} {x : Tg} {js : List Int} (h : TgA b H v x) (ho : TgOk js x) : ∃ d, Dq H v d ∧ (match x with | .inl i => d = .int i | .inr p => d = .tuple [.str p.1, .str p.2]) := by
  cases x with
  | inl i => exact ⟨.int i, by rw [show v = .int i from h]; exact .int i, rfl⟩
  | inr p =>
    obtain ⟨q, e, _, hq⟩ := h
    have l1 := (isNm_len ho.1).2
    have l2 := ho.2.len
    exact ⟨_, by rw [e]; exact .tup hq (.cons (.str _ (by omega) (strOk_nm ho.1)) (.cons (.str _ (by omega) ho.2.strOk) .nil)) (by show 2 ≤ 1000; decide), rfl⟩
theorem TgA.lock {b e : Addr} {H H1 : Hp} {v : V} {x : Tg} {u : List (Key × V)} (h : TgA b H v x) (he : H e = some (.dK u)) (k : ∀ a o, a ≠ e → H a = some o → H1 a = some o) : TgA b H1 v x := by
  cases x with
  | inl i => exact h
  | inr p =>
    obtain ⟨q, e1, n, h1⟩ := h
    exact ⟨q, e1, n, k _ _ (fun z => by rw [z, he] at h1; cases h1) h1⟩
theorem nodup_map_inr {l : List Str} (h : l.Nodup) : (l.map (Sum.inr : Str → Key)).Nodup := by
  induction l with
  | nil => exact .nil
  | cons a l ih =>
    rw [List.nodup_cons] at h
    refine List.nodup_cons.mpr ⟨fun m => ?_, ih h.2⟩
    obtain ⟨x, hx, e⟩ := List.mem_map.mp m
    exact h.1 (by rw [← Sum.inr.inj e]; exact hx)
theorem nodup_map_inl {l : List Int} (h : l.Nodup) : (l.map (Sum.inl : Int → Key)).Nodup := by
  induction l with
  | nil => exact .nil
  | cons a l ih =>
    rw [List.nodup_cons] at h
    refine List.nodup_cons.mpr ⟨fun m => ?_, ih h.2⟩
    obtain ⟨x, hx, e⟩ := List.mem_map.mp m
    exact h.1 (by rw [← Sum.inl.inj e]; exact hx)
theorem val_of {kvs : List (Key × V)} {kv : Key × V} (h : (kvs.map (·.1)).Nodup) (hm : kv ∈ kvs) : valV kvs kv.1 = some kv.2 := by
  induction kvs with
  | nil => exact nomatch hm
  | cons p r ih =>
    rw [List.map_cons, List.nodup_cons] at h
    rcases List.mem_cons.mp hm with e | hm
    · subst e; exact valV_pos rfl
    · rw [valV_neg (fun e => h.1 (by rw [e]; exact List.mem_map.mpr ⟨kv, hm, rfl⟩))]
      exact ih h.2 hm
theorem each_mapped {α β : Type} {R : α → β → Prop} {f : β → α} : ∀ {s : List β}, (∀ y ∈ s, R (f y) y) → EachIs R (s.map f) s
  | [], _ => .nil
  | y :: s, h => .cons (h y List.mem_cons_self) (each_mapped fun z hz => h z (List.mem_cons_of_mem _ hz))
theorem keys_val {kvs : List (Key × V)} {js : List Int} {i : Int} (h : kvs.map (·.1) = js.map Sum.inl) (hi : i ∈ js) : ∃ v, valV kvs (.inl i) = some v ∧ ((Sum.inl i : Key), v) ∈ kvs :=
  val_some (by rw [h]; exact List.mem_map.mpr ⟨i, hi, rfl⟩)
section
variable {P : Program} {w : World} {K : PySem.W.Frag} {mg : Str → Option Value} {base : Heap} {tk1 tk2 : Tok}
theorem ok_is_target_in {f f1 f2 : Addr} {fd fd1 fd2 : FuncData} (F : Fun K "is_target_in" "is_target_in" s_is_target_in f fd) (d_is_place_in_package : DefAt P w K mg base "is_place_in_package" 3 f1 fd1 ["thing"] (spD plD)) (d_is_joint : DefAt P w K mg base "is_joint" 2 f2 fd2 ["thing"] (spD jtD)) :
    FnOk P w K mg base CX0 4 f fd ["rows", "thing"] spTgIn := by
  refine F.ok sc_is_target_in (fun vs H Q E h => ?_) (fun cdv A outer s H vs Q E hr h => ?_)
  · obtain ⟨t, b, v, x, kvs, js, rfl, _⟩ := h
    rfl
  have hu1 := hu_of hr
  refine ⟨_, (pss_one (ps_ret (pe_or (pe_callD d_is_place_in_package (hr.mono (by decide)) (pa_cons (pv 1) pa_nil)) (pe_one (pe_and (pe_callD d_is_joint (hr.mono (by decide)) (pa_cons (pv 1) pa_nil)) (pe_one (pe_cmp (pc_din hu1 (pv 1) (pv 0))))))))), ?_⟩
  obtain ⟨t, b, v, x, kvs, js, rfl, ht, hk, h0, ha, ho, hq⟩ := h
  obtain ⟨d, hd, hx⟩ := ha.dq ho
  have v1 : EvD (tVar 1) [some (.ref t), some v] H d := evd_var rfl hd
  cases x with
  | inl i =>
    subst hx
    have c1 : plD (.int i) = false := rfl
    have c2 : jtD (.int i) = true := by
      have := h0 i ho
      unfold jtD intD isNum isBol num
      simp [this]
    refine Evl.s_ret (v := .bl true) (Evl.ev_is (Evl.ev_orV (b := true) (ev_callB1 v1) fun _ => Evl.ev_andV (a := true) (b := true) (Evl.ev_is (ev_callB1 (g := jtD) v1) (by rw [c2])) fun _ => fun H1 e Q q => ?_) (by rw [c1]; rfl)) hq
    obtain ⟨u, hu, _⟩ := keys_val hk ho
    rw [show v = .int i from ha]
    have dg := DGet.k (k := .inl i) (e _ _ ht)
    rw [hu] at dg
    exact ⟨_, rfl, _, rfl, t, _, rfl, dg, q H1 (Ex.refl H1)⟩
  | inr p =>
    subst hx
    have c1 : plD (.tuple [.str p.1, .str p.2]) = true := by
      have h1 := ho.1
      have h2 := ho.2.pt
      simp [plD, isTup, items, at', nmD, ptD, isStr, txt, h1, h2]
    exact Evl.s_ret (v := .bl true) (Evl.ev_is (Evl.ev_orV (b := true) (ev_callB1 v1) fun h => by rw [c1] at h; cases h) (by rw [c1]; rfl)) hq
end
end KC

set_option Elab.async false
set_option linter.all false
set_option maxRecDepth 100000
set_option maxHeartbeats 8000000
namespace KC
open PySem PySem.Spec PyProof.Rows L2 LF
open Evl (Ev EvL EvU EvT EvA Ex sq_of st_of)
open PySem.W (EachIs)
section
variable {P : Program} {w : World} {K : PySem.W.Frag} {mg : Str → Option Value} {base : Heap} {tk1 tk2 : Tok}
theorem ok_check_tables {f f1 f2 f3 : Addr} {fd fd1 fd2 fd3 : FuncData} (F : Fun K "check_tables" "check_tables" s_check_tables f fd) (T : Txt K mg tk1 tk2) (d_is_joint : DefAt P w K mg base "is_joint" 2 f1 fd1 ["thing"] (spD jtD)) (d_is_name : DefAt P w K mg base "is_name" 1 f2 fd2 ["thing"] (spD nmD)) (d_is_target_in : DefAt P w K mg base "is_target_in" 4 f3 fd3 ["rows", "thing"] spTgIn) :
    FnOk P w K mg base CX0 5 f fd ["tables", "top"] spCheck := by
  refine F.ok sc_check_tables (fun vs H Q E h => ?_) (fun cdv A outer s H vs Q E hr h => ?_)
  · obtain ⟨t, b, tabs, top, rfl, _⟩ := h
    rfl
  have hu1 := hu_of hr
  refine ⟨_, (pss_cons (ps_if (PW.pt (pw_or (pt_not (pt_val (pe_callB call_isi (by rfl) T.n_isinstance (by decide +kernel) (pa_cons (pv 0) (pa_cons (pe_bltn (v := .ty "dict") (by rfl) T.n_dict (by decide +kernel) rfl) pa_nil))))) (pw_or1 (pt_not (pt_val (pe_callB (cr_all rfl) (by rfl) T.n_all (by decide +kernel) (pa_cons (pe_lock (pe_lc (own := [("joint", 2)]) rfl sc_check_tables.nd (pi_keys (pv 0)) (blkOk_by (N := N_check_tables) (sc := defScope s_check_tables) (by decide +kernel)) (fun _ _ _ _ _ => pg_name (i := 2) sc_check_tables.nd rfl (Or.inl rfl)) (fun _ _ _ _ _ => pts_nil) (fun _ _ _ _ _ => (pe_callD d_is_joint (hr.mono (by decide)) (pa_cons (pv 2) pa_nil))))) pa_nil))))))) (pss_one ps_never) pss_nil)
    (pss_cons (ps_if (PW.pt (pw_or (pt_not (pt_val (pe_callD d_is_joint (hr.mono (by decide)) (pa_cons (pv 1) pa_nil)))) (pw_or1 (pt_cmp (pc_dnotin hu1 (pv 1) (pv 0)))))) (pss_one ps_never) pss_nil)
    (pss_one (ps_for PassesOwn.never rfl (pi_list (pe_callB (call_sortedDI rfl) (by rfl) T.n_sorted (by decide +kernel) (pa_cons (pv 0) pa_nil))) (pg_name (i := 2) sc_check_tables.nd rfl (Or.inl rfl)) (pss_cons (ps_set (i := 3) sc_check_tables.nd rfl (Or.inr rfl) (pe_dget hu1 (pv 0) (pv 2) (fun _ _ => rfl)))
    (pss_cons (ps_if (PW.pt (pw_or (pt_not (pt_val (pe_callB call_isi (by rfl) T.n_isinstance (by decide +kernel) (pa_cons (pv 3) (pa_cons (pe_bltn (v := .ty "dict") (by rfl) T.n_dict (by decide +kernel) rfl) pa_nil))))) (pw_or1 (pt_not (pt_val (pe_callB (cr_all rfl) (by rfl) T.n_all (by decide +kernel) (pa_cons (pe_lock (pe_lc (own := [("name", 4)]) rfl sc_check_tables.nd (pi_keys (pv 3)) (blkOk_by (N := N_check_tables) (sc := defScope s_check_tables) (by decide +kernel)) (fun _ _ _ _ _ => pg_name (i := 4) sc_check_tables.nd rfl (Or.inl rfl)) (fun _ _ _ _ _ => pts_nil) (fun _ _ _ _ _ => (pe_callD d_is_name (hr.mono (by decide)) (pa_cons (pv 4) pa_nil))))) pa_nil))))))) (pss_one ps_never) pss_nil)
    (pss_cons (ps_lock (ps_setLc (i := 5) (own := [("name", 4)]) rfl sc_check_tables.nd rfl rfl (sw_true rfl rfl rfl (by decide +kernel)) (pi_keys (pv 3)) (blkOk_by (N := N_check_tables) (sc := defScope s_check_tables) (by decide +kernel)) (fun _ _ _ _ _ => pg_name (i := 4) sc_check_tables.nd rfl (Or.inl rfl)) (fun _ _ _ _ _ => (pts_one (pt_not (pt_val (pe_callD d_is_target_in (hr.mono (by decide)) (pa_cons (pv 0) (pa_cons (pe_dget hu1 (pv 3) (pv 4) (fun _ _ => rfl)) pa_nil))))))) (fun _ _ _ _ _ => (pv 4))))
    (pss_one (ps_if (pt_cmpR op_gt (pe_callB call_len_seq (by rfl) T.n_len (by decide +kernel) (pa_cons (pv 5) pa_nil)) pe_int (nomark _)) (pss_one ps_never) pss_nil))))))))), ?_⟩
  obtain ⟨t, b, tabs, top, rfl, ⟨kvs, ntb, ht, heach, _⟩, ⟨hnd, hl1, hl6, hx⟩, htop, hq⟩ := h
  have hkeys : kvs.map (·.1) = (tabs.map (·.1)).map Sum.inl := by
    rw [List.map_map]
    exact each_map (fun a c h => h.1) heach
  have hlen : kvs.length = tabs.length := heach.length
  have hj0 : ∀ j ∈ tabs.map (·.1), (0 : Int) ≤ j := fun j hj => by
    obtain ⟨x, hx', rfl⟩ := List.mem_map.mp hj
    exact (hx x hx').1.1
  have jt : ∀ {j : Int}, 0 ≤ j → jtD (.int j) = true := fun h => by
    unfold jtD intD isNum isBol num
    simp [h]
  have isd : ∀ {σ : L2.St} {i : Nat} {a : Addr} {H1 : Hp} {kv : List (Key × V)}, σ[i]? = some (some (.ref a)) → H1 a = some (.dK kv) → Ev (tCB (rIsi K) (tCons (tVar i) (tCons (tC (.ty "dict")) tNil))) σ H1 (.bl true) := fun hi ha =>
    Evl.ev_cb (vs := [.ref _, .ty "dict"]) (Evl.ea_cons (Evl.ev_var hi) (Evl.ea_cons Evl.ev_c Evl.ea_nil)) fun H1 e Q q => ⟨_, .ty "dict", _, _, true, rfl, .ty _, .base (.dK (e _ _ ha)), kit_ty (by decide +kernel), q H1 (Ex.refl H1)⟩
  refine Evl.q_when (b := false) (Evl.et_is (Evl.et_or (a := false) (b := false) (Evl.et_is (Evl.et_not (Evl.et_B (isd rfl ht))) rfl) fun _ => Evl.et_is (Evl.et_not (Evl.et_B (ev_lockAll (K := K) (kvs := kvs) (tVar 0) (Evl.ev_var rfl) (fun _ _ _ => Evl.ev_var rfl) ht (by omega) (fun _ => true) fun k hk od H1 e1 => ?_))) (by rw [List.all_eq_true.mpr (fun _ _ => rfl)]; rfl)) rfl) (fun h => nomatch h) fun _ H1 e1 => ?_
  · rw [hkeys] at hk
    obtain ⟨j, hj, rfl⟩ := List.mem_map.mp hk
    exact Evl.ev_is (ev_callB1 (g := jtD) (evd_var rfl (.int j))) (by rw [jt (hj0 j hj)])
  have ht1 := e1 _ _ ht
  refine Evl.q_when (b := false) (Evl.et_is (Evl.et_or (a := false) (b := false) (Evl.et_is (Evl.et_not (Evl.et_B (ev_callB1 (g := jtD) (evd_var rfl (.int top))))) (by rw [jt (hj0 top htop)]; rfl)) fun _ => Evl.et_B fun H2 e2 Q q => ?_) rfl) (fun h => nomatch h) fun _ H2 e2 => ?_
  · obtain ⟨u, hu, _⟩ := keys_val hkeys htop
    have dg := DGet.k (k := .inl top) (e2 _ _ ht1)
    rw [hu] at dg
    exact ⟨_, rfl, _, rfl, t, _, rfl, dg, q H2 (Ex.refl H2)⟩
  have x2 : Ex H H2 := e1.trans e2
  have ht2 := x2 _ _ ht
  refine ⟨_, rfl, t, kvs, tabs.map (·.1), rfl, Rd.of ht2, hkeys, by rw [List.length_map]; omega, fun ys p hperm _ hp => ⟨p, rfl, ⟨_, SqL.of upd_same⟩, ?_⟩⟩
  have x3 : Ex H (upd H2 p (.lst (ys.map V.int))) := x2.trans (Ex.new hp)
  have hp3 : (upd H2 p (.lst (ys.map V.int))) p = some (.lst (ys.map V.int)) := upd_same
  generalize upd H2 p (.lst (ys.map V.int)) = H3 at *
  refine for_it (walk_list (xs := ys.map V.int)) (fun i σ' H' => ∃ v2 v3 v4 v5, σ' = [some (.ref t), some (.int top), v2, v3, v4, v5] ∧ Ex H3 H') ⟨_, _, _, _, rfl, Ex.refl H3⟩ (fun i σ' H' _ ⟨_, _, _, _, _, e⟩ => SqL.of (e _ _ hp3)) ?_ ?_
  · rintro i x σ' H4' H4 hi ⟨v2, v3, v4, v5, rfl, e4⟩ ⟨rfl, hxi⟩
    have hxm := List.mem_of_getElem? hxi
    obtain ⟨j, hjy, rfl⟩ := List.mem_map.mp hxm
    have hj := hperm.mem_iff.mp hjy
    obtain ⟨v, hv, hm⟩ := keys_val hkeys hj
    obtain ⟨y, hy, hy1, e, rfl, net, ekvs, neb, he, hrow⟩ := each_mem heach _ hm
    obtain ⟨_, hrn, hrl, hry⟩ := hx y hy
    have x4 : Ex H H4 := x3.trans e4
    have ht4 := x4 _ _ ht
    refine Evl.q_asg (v := .ref e) (fun H5 e5 Q q => ?_) fun H5 e5 => ?_
    · have dg := DGet.k (k := .inl j) (e5 _ _ ht4)
      rw [hv] at dg
      exact ⟨_, rfl, _, rfl, t, _, rfl, dg, q H5 (Ex.refl H5)⟩
    have he5 := e5 _ _ (x4 _ _ he)
    have hek : ∀ k ∈ ekvs.map (·.1), ∃ z y', k = Sum.inr z ∧ y' ∈ y.2 ∧ y'.1 = z := fun k hk => by
      obtain ⟨kv, hkv, rfl⟩ := List.mem_map.mp hk
      obtain ⟨y', hy', h1, _⟩ := each_mem hrow kv hkv
      exact ⟨y'.1, y', h1, hy', rfl⟩
    have hel : ekvs.length ≤ 10 := by rw [hrow.length]; exact hrl
    refine Evl.q_when (b := false) (Evl.et_is (Evl.et_or (a := false) (b := false) (Evl.et_is (Evl.et_not (Evl.et_B (isd rfl he5))) rfl) fun _ => Evl.et_is (Evl.et_not (Evl.et_B (ev_lockAll (K := K) (kvs := ekvs) (tVar 3) (Evl.ev_var rfl) (fun _ _ _ => Evl.ev_var rfl) he5 (by omega) (fun _ => true) fun k hk od H6 e6 => ?_))) (by rw [List.all_eq_true.mpr (fun _ _ => rfl)]; rfl)) rfl) (fun h => nomatch h) fun _ H6 e6 => ?_
    · obtain ⟨z, y', rfl, hy', rfl⟩ := hek k hk
      have hz := (hry y' hy').1
      have l1 := (isNm_len hz).2
      exact Evl.ev_is (ev_callB1 (g := nmD) (evd_var rfl (.str _ (by omega) (strOk_nm hz)))) (by simp [nmD, isStr, txt, hz])
    have x6 : Ex H H6 := (x4.trans e5).trans e6
    have he6 := x6 _ _ he
    refine sq_lockNone (kvs := ekvs) rfl he6 (fun k hk od H7 e7 => ?_) fun pw H7 e7 hw => ?_
    · obtain ⟨v', hv', hm'⟩ := val_some hk
      obtain ⟨y', hy', h1, h2⟩ := each_mem hrow _ hm'
      cases (show k = Sum.inr y'.1 from h1)
      have net2 : t ≠ e := net.symm
      have ht7 : H7 t = some (.dK kvs) := e7 _ _ (by rw [upd_ne net2]; exact x6 _ _ ht)
      have he7 : H7 e = some (.frz od (.dK ekvs)) := e7 _ _ upd_same
      have ta : TgA b H7 v' y'.2 := h2.lock he (fun a o n h => e7 _ _ (by rw [upd_ne n]; exact x6 _ _ h))
      refine Evl.et_is (Evl.et_not (Evl.et_B (Evl.ev_call (z := .bl true) (vs := [.ref t, v']) (Evl.ea_cons (Evl.ev_var rfl) (Evl.ea_cons (fun H8 e8 Q q => ?_) Evl.ea_nil)) fun H8 e8 Q q E' => ?_))) rfl
      · have dg : DGet H8 e (kV (.inr y'.1)) (valV ekvs (.inr y'.1)) := Or.inl ⟨ekvs, .inr y'.1, Or.inr ⟨od, e8 _ _ he7⟩, rfl, rfl⟩
        rw [hv'] at dg
        exact ⟨_, rfl, _, rfl, e, _, rfl, dg, q H8 (Ex.refl H8)⟩
      · exact ⟨t, b, v', y'.2, kvs, tabs.map (·.1), rfl, e8 _ _ ht7, hkeys, hj0, ta.old (fun a o _ h => e8 _ _ h), (hry y' hy').2, fun H9 e9 => q H9 e9⟩
    · refine Evl.s_when (b := false) (Evl.et_is (Evl.et_test (Evl.ev_op (Evl.ev_len (K := K) (xs := []) (Evl.ev_var rfl) (SqL.of hw)) Evl.ev_c Evl.rv_I0)) rfl) (fun h => nomatch h) fun _ H8 e8 => ?_
      exact ⟨_, _, _, _, rfl, (((e4.trans e5).trans e6).trans e7).trans e8⟩
  · rintro σ' H4 ⟨v2, v3, v4, v5, rfl, e4⟩
    exact hq H4 (x3.trans e4)
theorem ok_sorted_row {f : Addr} {fd : FuncData} (F : Fun K "sorted_row" "sorted_row" s_sorted_row f fd) (T : Txt K mg tk1 tk2) : FnOk P w K mg base CX0 1 f fd ["table"] spRow := by
  refine F.ok sc_sorted_row (fun vs H Q E h => ?_) (fun cdv A outer s H vs Q E hr h => ?_)
  · obtain ⟨e, b, r, rfl, _⟩ := h
    rfl
  have hu1 := hu_of hr
  refine ⟨_, (pss_one (ps_ret (pe_dc (own := [("name", 1)]) rfl sc_sorted_row.nd (pi_list (pe_callB (show CallR _ (.builtin "sorted") _ from call_sortedD rfl) (by rfl) T.n_sorted (by decide +kernel) (pa_cons (pv 0) pa_nil))) (blkOk_by (N := N_sorted_row) (sc := defScope s_sorted_row) (by decide +kernel)) (fun _ _ _ _ _ => pg_name (i := 1) sc_sorted_row.nd rfl (Or.inl rfl)) (fun _ _ _ _ _ => pts_nil) (fun _ _ _ _ _ => (pv 1)) (fun _ _ _ _ _ => (pe_dget hu1 (pv 0) (pv 1) (fun _ _ => rfl)))))), ?_⟩
  obtain ⟨e, b, r, rfl, ⟨ekvs, neb, he, hrow⟩, hn, hl, hq⟩ := h
  have hkeys : ekvs.map (·.1) = (r.map (·.1)).map Sum.inr := by
    rw [List.map_map]
    exact each_map (fun a c h => h.1) hrow
  have hkn : (ekvs.map (·.1)).Nodup := by rw [hkeys]; exact nodup_map_inr hn
  refine ⟨_, rfl, e, ekvs, r.map (·.1), rfl, Rd.of he, hkeys, by rw [List.length_map]; omega, fun ys p hperm hsort hp => ⟨p, rfl, ⟨_, SqL.of upd_same⟩, fun D hD => ?_⟩⟩
  obtain ⟨s, hs, hsn⟩ := perm_lift (fun y : Str × Tg => y.1) hperm r rfl
  have x2 : Ex H (upd H p (.lst (ys.map V.str))) := Ex.new hp
  have hp2 : (upd H p (.lst (ys.map V.str))) p = some (.lst (ys.map V.str)) := upd_same
  generalize upd H p (.lst (ys.map V.str)) = H2 at *
  have hyn : ys.Nodup := hperm.symm.nodup hn
  have hval : ∀ y ∈ s, ∃ v, valV ekvs (.inr y.1) = some v ∧ TgA b H v y.2 := fun y hy => by
    obtain ⟨kv, hkv, h1, h2⟩ := each_back hrow y (hs.mem_iff.mp hy)
    exact ⟨kv.2, by rw [← h1]; exact val_of hkn hkv, h2⟩
  have hyl : ys.length ≤ 10 := by rw [hperm.length_eq, List.length_map]; exact hl
  refine dc_it (walk_list (xs := ys.map V.str)) (fun i H' => Ex H2 H' ∧ H' D = some (.dK ((ys.take i).map fun z => ((Sum.inr z : Key), (valV ekvs (.inr z)).getD .non)))) ⟨Ex.new hD, by rw [upd_same]; rfl⟩ (fun i H' _ h => SqL.of (h.1 _ _ hp2)) ?_ ?_
  · rintro i x H3' H3 hi ⟨e3, hd⟩ ⟨rfl, hxi⟩
    rw [List.getElem?_map] at hxi
    obtain ⟨z, hz, rfl⟩ := Option.map_eq_some_iff.mp hxi
    have hzs : z ∈ s.map (·.1) := by rw [hsn]; exact List.mem_of_getElem? hz
    obtain ⟨y, hy, ey⟩ := List.mem_map.mp hzs
    obtain ⟨v, hv, _⟩ := hval y hy
    have ey' : y.1 = z := ey
    rw [ey'] at hv
    have dg := DGet.k (k := .inr z) (e3 _ _ (x2 _ _ he))
    rw [hv] at dg
    refine ⟨wipe_set, ?_⟩
    refine ⟨_, rfl, _, rfl, _, rfl, e, v, rfl, dg, _, .inr z, rfl, hd, Evl.sz_lt (by rw [List.length_map, List.length_take]; omega), Ex.mut e3 hD, ?_⟩
    have hnew : valV ((ys.take i).map fun z => ((Sum.inr z : Key), (valV ekvs (.inr z)).getD .non)) (.inr z) = none := by
      cases hv' : valV ((ys.take i).map fun z => ((Sum.inr z : Key), (valV ekvs (.inr z)).getD .non)) (.inr z) with
      | none => rfl
      | some u =>
        obtain ⟨z', hz', ez⟩ := List.mem_map.mp (val_mem hv')
        have : z' = z := Sum.inr.inj (congrArg Prod.fst ez)
        rw [this] at hz'
        exact absurd hz' (not_mem_take hyn hz)
    rw [upd_same, putK_new _ hnew, List.take_add_one, hz, List.map_append]
    simp [hv]
  · rintro H3 ⟨e3, hd⟩
    rw [List.length_map, List.take_length] at hd
    refine hq H3 D s (x2.trans e3) (Evl.fresh_back x2 hD) (fun nDb => ⟨_, nDb, hd, ?_⟩) ⟨hs, by rw [hsn]; exact hsort⟩
    have : (ys.map fun z => ((Sum.inr z : Key), (valV ekvs (.inr z)).getD .non)) = s.map fun y => ((Sum.inr y.1 : Key), (valV ekvs (.inr y.1)).getD .non) := by
      rw [← hsn, List.map_map]; rfl
    rw [this]
    refine each_mapped fun y hy => ?_
    obtain ⟨v, hv, ha⟩ := hval y hy
    exact ⟨rfl, by show TgA b H3 ((valV ekvs (.inr y.1)).getD .non) y.2; rw [hv]; exact ha.old (fun a o _ h => e3 _ _ (x2 _ _ h))⟩
end
end KC

set_option Elab.async false
set_option linter.all false
set_option maxRecDepth 100000
set_option maxHeartbeats 8000000
namespace KC
open PySem PySem.Spec PyProof.Rows L2 LF
open Evl (Ev EvL EvU EvT EvA Ex sq_of st_of)
open PySem.W (EachIs)
abbrev s_Layout : Stmt := topS 11
/-- dicts and tuples stay -/
def KeepDT (b : Addr) (H H' : Hp) : Prop := (∀ a (kvs : List (Key × V)), a ≠ b → H a = some (.dK kvs) → H' a = some (.dK kvs)) ∧ ∀ a xs, a ≠ b → H a = some (.tup xs) → H' a = some (.tup xs)
theorem KeepDT.of {b : Addr} {H H' : Hp} (k : ∀ a o, a ≠ b → H a = some o → H' a = some o) : KeepDT b H H' := ⟨fun a kvs n h => k a _ n h, fun a xs n h => k a _ n h⟩
theorem KeepDT.trans {b : Addr} {H H1 H2 : Hp} (x : KeepDT b H H1) (y : KeepDT b H1 H2) : KeepDT b H H2 := ⟨fun a kvs n h => y.1 a kvs n (x.1 a kvs n h), fun a kvs n h => y.2 a kvs n (x.2 a kvs n h)⟩
theorem KeepDT.ins {b p C : Addr} {dx : Addr} {H : Hp} {fs : List (Str × V)} {o : HO} (h : H p = some (.ins C dx fs)) : KeepDT b H (upd H p o) :=
  ⟨fun a kvs n ha => by rw [upd_ne (fun e => by rw [e, h] at ha; cases ha)]; exact ha, fun a xs n ha => by rw [upd_ne (fun e => by rw [e, h] at ha; cases ha)]; exact ha⟩
theorem TgA.dt {b : Addr} {H H' : Hp} {v : V} {x : Tg} (h : TgA b H v x) (k : KeepDT b H H') : TgA b H' v x := by
  cases x with
  | inl i => exact h
  | inr p =>
    obtain ⟨q, e, n, h⟩ := h
    exact ⟨q, e, n, k.2 _ _ n h⟩
theorem RowA.dt {b : Addr} {H H' : Hp} {e : Addr} {r : List (Str × Tg)} (h : RowA b H e r) (k : KeepDT b H H') : RowA b H' e r := by
  obtain ⟨kvs, n, h1, h2⟩ := h
  exact ⟨kvs, n, k.1 _ _ n h1, h2.mono fun kv x ⟨e, t⟩ => ⟨e, t.dt k⟩⟩
theorem TabA.dt {b : Addr} {H H' : Hp} {t : Addr} {tabs : List (Int × List (Str × Tg))} (h : TabA b H t tabs) (k : KeepDT b H H') : TabA b H' t tabs := by
  obtain ⟨kvs, n, h1, h2, h3⟩ := h
  exact ⟨kvs, n, k.1 _ _ n h1, h2.mono fun kv x ⟨e, a, h4, h5, h6⟩ => ⟨e, a, h4, h5, h6.dt k⟩, h3⟩
theorem RowA.put {b e D : Addr} {H : Hp} {r : List (Str × Tg)} {u : List (Key × V)} {o : HO} (h : RowA b H e r) (ne : e ≠ D) (hD : H D = some (.dK u)) : RowA b (upd H D o) e r := by
  obtain ⟨kvs, n, h1, h2⟩ := h
  refine ⟨kvs, n, by rw [upd_ne ne]; exact h1, h2.mono fun kv x ⟨e, t⟩ => ⟨e, t.lock hD fun a o n h => by rw [upd_ne n]; exact h⟩⟩
/-- tables by the order of their joints, rows by that of their names -/
def SrtT (tabs s : List (Int × List (Str × Tg))) : Prop := (s.map (·.1)).Perm (tabs.map (·.1)) ∧ (s.map (·.1)).Pairwise (· ≤ ·) ∧ ∀ x ∈ s, ∃ y ∈ tabs, y.1 = x.1 ∧ SrtR y.2 x.2
def layFs (R : Addr) (top : Int) : List (Str × V) := [("rows", .ref R), ("peak", .int top)]
/-- a layout, at l: its rows and its top -/
def LayA (C b : Addr) (H : Hp) (l : Addr) (s : List (Int × List (Str × Tg))) (top : Int) : Prop := ∃ dx R, l ≠ b ∧ H l = some (.ins C dx (layFs R top)) ∧ TabA b H R s
theorem LayA.keep {C b l : Addr} {H H' : Hp} {s : List (Int × List (Str × Tg))} {top : Int} (h : LayA C b H l s top) (k : Keep b H H') : LayA C b H' l s top := by
  obtain ⟨dx, R, n, h1, h2⟩ := h
  exact ⟨dx, R, n, k _ _ n h1, h2.keep k⟩
theorem each_maps {α β γ : Type} {R : α → β → Prop} {f : γ → α} {g : γ → β} : ∀ {l : List γ}, (∀ c ∈ l, R (f c) (g c)) → EachIs R (l.map f) (l.map g)
  | [], _ => .nil
  | c :: l, h => .cons (h c List.mem_cons_self) (each_maps fun d hd => h d (List.mem_cons_of_mem _ hd))
structure LayTxt (K : PySem.W.Frag) (mg : Str → Option Value) (C : Addr) : Prop where
  cl : Cls K C
  nR : NoAttr K C "rows"
  nP : NoAttr K C "peak"
  gC : mg "Layout" = some (.ref C)
/-- the rows of a table that were not there ahead of it -/
def FreshR (H H' : Hp) (t : Addr) : Prop := ∀ kvs, H' t = some (.dK kvs) → ∀ kv ∈ kvs, ∀ a, kv.2 = V.ref a → H a = none
def spInit (C : Addr) : Sp := fun vs H Q _ => ∃ (p dx t b : Addr) (tabs : List (Int × List (Str × Tg))) (top : Int), vs = [.ref p, .ref t, .int top] ∧ H p = some (.ins C dx []) ∧ (∃ o, H b = some o) ∧ p ≠ b ∧ TabA b H t tabs ∧ TabOk tabs ∧ top ∈ tabs.map (·.1) ∧
  ∀ H' R s, Keep p H H' → H R = none → SrtT tabs s → TabA b H' R s → FreshR H H' R → H' p = some (.ins C dx (layFs R top)) → Q .non H'
abbrev s_init : Stmt := inClass s_Layout 0
abbrev N_init : List Str := ["self", "tables", "top", "joint"]
theorem sc_init : FnScope ["self", "tables", "top", "joint"] ["self", "tables", "top"] (defScope s_init) := ⟨rfl, rfl, rfl, by decide +kernel, rfl, by decide +kernel, by decide +kernel⟩
section
variable {P : Program} {w : World} {K : PySem.W.Frag} {mg : Str → Option Value} {base : Heap} {tk1 tk2 : Tok}
theorem ok_init {f f1 f2 C : Addr} {fd fd1 fd2 : FuncData} (F : FunD K "__init__" "Layout.__init__" (defArgs s_init) (defBody s_init) (defScope s_init) [] [("top", .int 0)] f fd) (T : Txt K mg tk1 tk2) (R : LayTxt K mg C)
    (d_check_tables : DefAt P w K mg base "check_tables" 5 f1 fd1 ["tables", "top"] spCheck) (d_sorted_row : DefAt P w K mg base "sorted_row" 1 f2 fd2 ["table"] spRow) :
    FnOk P w K mg base CX0 6 f fd ["self", "tables", "top"] (spInit C) := by
  refine F.ok sc_init (fun vs H Q E h => ?_) (fun cdv A outer s H vs Q E hr h => ?_)
  · obtain ⟨p, dx, t, b, tabs, top, rfl, _⟩ := h
    rfl
  have hu1 := hu_of hr
  refine ⟨_, (pss_cons (ps_expr (pe_callD d_check_tables (hr.mono (by decide)) (pa_cons (pv 1) (pa_cons (pv 2) pa_nil))))
    (pss_cons (ps_fld (pv 0) (pe_dc (own := [("joint", 3)]) rfl sc_init.nd (pi_list (pe_callB (call_sortedDI rfl) (by rfl) T.n_sorted (by decide +kernel) (pa_cons (pv 1) pa_nil))) (blkOk_by (N := N_init) (sc := defScope s_init) (by decide +kernel)) (fun _ _ _ _ _ => pg_name (i := 3) sc_init.nd rfl (Or.inl rfl)) (fun _ _ _ _ _ => pts_nil) (fun _ _ _ _ _ => (pv 3)) (fun _ _ _ _ _ => (pe_callD d_sorted_row (hr.mono (by decide)) (pa_cons (pe_dget hu1 (pv 1) (pv 3) (fun _ _ => rfl)) pa_nil)))) rfl)
    (pss_one (ps_fld (pv 0) (pv 2) rfl)))), ?_⟩
  obtain ⟨p, dx, t, b, tabs, top, rfl, hp, ⟨ob, hlb⟩, npb, hta, hok, htop, hq⟩ := h
  refine ⟨_, rfl, _, rfl, t, b, tabs, top, rfl, hta, hok, htop, fun H1 e1 => ?_⟩
  have hta1 := hta.dt (KeepDT.of (b := b) (H' := H1) fun a o _ h => e1 _ _ h)
  obtain ⟨kvs, ntb, ht1, heach, _⟩ := hta1
  obtain ⟨hnd, hl1, hl6, hx⟩ := hok
  have hkeys : kvs.map (·.1) = (tabs.map (·.1)).map Sum.inl := by
    rw [List.map_map]
    exact each_map (fun a c h => h.1) heach
  refine ⟨_, rfl, t, kvs, tabs.map (·.1), rfl, Rd.of ht1, hkeys, by rw [List.length_map]; omega, fun ys p2 hperm hpw hp2 => ⟨p2, rfl, ⟨_, SqL.of upd_same⟩, fun D hD => ?_⟩⟩
  have x2 : Ex H1 (upd H1 p2 (.lst (ys.map V.int))) := Ex.new hp2
  have hy2 : (upd H1 p2 (.lst (ys.map V.int))) p2 = some (.lst (ys.map V.int)) := upd_same
  generalize upd H1 p2 (.lst (ys.map V.int)) = H2 at *
  have hyn : ys.Nodup := hperm.symm.nodup hnd
  have hyl : ys.length ≤ 6 := by rw [hperm.length_eq, List.length_map]; exact hl6
  have x12 : Ex H H2 := e1.trans x2
  have nDb : D ≠ b := fun x => by rw [x, x12 _ _ hlb] at hD; cases hD
  refine dc_it (walk_list (xs := ys.map V.int)) (fun i H' => Ex H2 H' ∧ ∃ L : List (Int × Addr × List (Str × Tg)), H' D = some (.dK (L.map fun l => ((Sum.inl l.1 : Key), V.ref l.2.1))) ∧ L.map (·.1) = ys.take i ∧ (L.map (·.2.1)).Nodup ∧ ∀ l ∈ L, RowA b H' l.2.1 l.2.2 ∧ l.2.1 ≠ D ∧ H l.2.1 = none ∧ ∃ y ∈ tabs, y.1 = l.1 ∧ SrtR y.2 l.2.2)
    ⟨Ex.new hD, [], upd_same, rfl, .nil, fun _ h => nomatch h⟩ (fun i H' _ h => SqL.of (h.1 _ _ hy2)) ?_ ?_
  · rintro i x H3' H3 hi ⟨e3, L, hd, hL, hLn, hLr⟩ ⟨rfl, hxi⟩
    rw [List.getElem?_map] at hxi
    obtain ⟨j, hj, rfl⟩ := Option.map_eq_some_iff.mp hxi
    have hjm : j ∈ tabs.map (·.1) := hperm.mem_iff.mp (List.mem_of_getElem? hj)
    obtain ⟨v, hv, hm⟩ := keys_val hkeys hjm
    obtain ⟨y, hy, hy1, e, rfl, net, hrow⟩ := each_mem heach _ hm
    have ht3 := e3 _ _ (x2 _ _ ht1)
    have dg := DGet.k (k := .inl j) ht3
    rw [hv] at dg
    have hrow3 := hrow.dt (KeepDT.of (b := b) (H' := H3) fun a o _ h => e3 _ _ (x2 _ _ h))
    refine ⟨wipe_set, ?_⟩
    refine ⟨_, rfl, _, rfl, _, rfl, t, _, rfl, dg, e, b, y.2, rfl, hrow3, (hx y hy).2.1, (hx y hy).2.2.1, fun H4 p4 s4 e4 np4 hrow4 hs4 => ?_⟩
    have np4b : p4 ≠ b := fun z => by rw [z, e3 _ _ (x12 _ _ hlb)] at np4; cases np4
    have np4D : p4 ≠ D := fun z => by rw [z, hd] at np4; cases np4
    have hd4 := e4 _ _ hd
    have hLl : L.length ≤ 6 := by
      have := congrArg List.length hL
      rw [List.length_map, List.length_take] at this; omega
    have hnew : valV (L.map fun l => ((Sum.inl l.1 : Key), V.ref l.2.1)) (Sum.inl j) = none := by
      cases hv' : valV (L.map fun l => ((Sum.inl l.1 : Key), V.ref l.2.1)) (Sum.inl j) with
      | none => rfl
      | some u =>
        obtain ⟨l, hl, el⟩ := List.mem_map.mp (val_mem hv')
        have e1 : l.1 = j := Sum.inl.inj (congrArg Prod.fst el)
        have h1 : j ∈ ys.take i := by rw [← hL, ← e1]; exact List.mem_map.mpr ⟨l, hl, rfl⟩
        exact absurd h1 (not_mem_take hyn hj)
    refine ⟨_, .inl j, rfl, hd4, Evl.sz_lt (by rw [List.length_map]; omega), Ex.mut (e3.trans e4) hD, L ++ [(j, p4, s4)], ?_, ?_, ?_, fun l hl => ?_⟩
    · rw [upd_same, putK_new _ hnew, List.map_append]; rfl
    · rw [List.map_append, hL, List.take_add_one, hj]; rfl
    · rw [List.map_append, List.nodup_append]
      refine ⟨hLn, by simp, fun a ha b' hb' => ?_⟩
      obtain ⟨l, hl, rfl⟩ := List.mem_map.mp ha
      rw [List.map_cons, List.map_nil, List.mem_singleton] at hb'
      rw [hb']
      intro z
      obtain ⟨⟨_, _, h, _⟩, _⟩ := hLr l hl
      have z' : l.2.1 = p4 := z
      rw [z', np4] at h; cases h
    · rcases List.mem_append.mp hl with hl | hl
      · obtain ⟨a1, a2, a3⟩ := hLr l hl
        exact ⟨(a1.dt (KeepDT.of fun a o _ h => e4 _ _ h)).put a2 hd4, a2, a3⟩
      · rw [List.mem_singleton.mp hl]
        exact ⟨(hrow4 np4b).put np4D hd4, np4D, Evl.fresh_back (x12.trans e3) np4, y, hy, Sum.inl.inj hy1.symm, hs4⟩
  · rintro H3 ⟨e3, L, hd, hL, hLn, hLr⟩
    rw [List.length_map, List.take_length] at hL
    have hp3 := e3 _ _ (x12 _ _ hp)
    have npD : p ≠ D := fun z => by rw [z, hd] at hp3; cases hp3
    refine ⟨_, rfl, p, C, dx, [], rfl, hp3, R.cl, R.nR, by show 0 < 1000; decide, ?_⟩
    refine ⟨_, rfl, _, rfl, p, C, dx, _, rfl, upd_same, R.cl, R.nP, by show 1 < 1000; decide, ?_⟩
    have hput : putF "peak" (V.int top) (putF "rows" (V.ref D) []) = layFs D top := by
      show putF "peak" (V.int top) [("rows", V.ref D)] = _
      simp only [putF]; rw [if_neg (by decide +kernel)]; rfl
    rw [hput]
    have k1 : KeepDT b H3 (upd (upd H3 p (.ins C dx (putF "rows" (V.ref D) []))) p (.ins C dx (layFs D top))) := (KeepDT.ins hp3).trans (KeepDT.ins upd_same)
    have htab : TabA b H3 D (L.map fun l => (l.1, l.2.2)) := by
      refine ⟨_, nDb, hd, ?_, ?_⟩
      · have : L.map (fun l => ((Sum.inl l.1 : Key), V.ref l.2.1)) = L.map (fun l => ((Sum.inl l.1 : Key), V.ref l.2.1)) := rfl
        exact each_maps fun l hl => ⟨rfl, l.2.1, rfl, (hLr l hl).2.1, (hLr l hl).1⟩
      · rw [List.map_map]
        have : L.map ((fun kv : Key × V => kv.2) ∘ fun l => ((Sum.inl l.1 : Key), V.ref l.2.1)) = (L.map (·.2.1)).map V.ref := by rw [List.map_map]; rfl
        rw [this]
        exact nodup_map_ref hLn
    have hfst : (L.map fun l => (l.1, l.2.2)).map (·.1) = ys := by rw [List.map_map]; exact hL
    refine hq _ D _ (keep_put (keep_put (Same.keep fun a o h => e3 _ _ (x12 _ _ h)))) (Evl.fresh_back x12 hD) ⟨by rw [hfst]; exact hperm, by rw [hfst]; exact hpw, fun x hx' => ?_⟩ (htab.dt k1) (fun kvs' hk' kv hkv a ea => ?_) upd_same
    · obtain ⟨l, hl, rfl⟩ := List.mem_map.mp hx'
      exact (hLr l hl).2.2.2
    · rw [upd_ne npD.symm, upd_ne npD.symm, hd] at hk'
      cases hk'
      obtain ⟨l, hl, rfl⟩ := List.mem_map.mp hkv
      rw [← V.ref.inj ea]
      exact (hLr l hl).2.2.1
end
end KC

set_option Elab.async false
set_option linter.all false
set_option maxRecDepth 100000
set_option maxHeartbeats 8000000
namespace KC
open PySem PySem.Spec PyProof.Rows L2 LF
open Evl (Ev EvL EvU EvT EvA Ex sq_of st_of)
open PySem.W (EachIs)
/-! the joints that are reached, breadth first -/
def tgI : Tg → Option Int
  | .inl i => some i
  | .inr _ => none
def tgsI (r : List (Str × Tg)) : List Int := r.filterMap fun y => tgI y.2
def addOne (W : List Int) (i : Int) : List Int := if i ∈ W then W else W ++ [i]
def addNew (W is : List Int) : List Int := is.foldl addOne W
def rowOf (s : List (Int × List (Str × Tg))) (j : Int) : List (Str × Tg) := ((s.find? fun x => decide (x.1 = j)).map (·.2)).getD []
def run (s : List (Int × List (Str × Tg))) : Nat → List Int → Nat → List Int
  | 0, W, _ => W
  | n + 1, W, i => match W[i]? with
    | none => W
    | some j => run s n (addNew W (tgsI (rowOf s j))) (i + 1)
def bfs (s : List (Int × List (Str × Tg))) (top : Int) : List Int := run s 10 [top] 0
theorem rowOf_mem {s : List (Int × List (Str × Tg))} {x : Int × List (Str × Tg)} (h : (s.map (·.1)).Nodup) (hx : x ∈ s) : rowOf s x.1 = x.2 := by
  unfold rowOf
  induction s with
  | nil => exact nomatch hx
  | cons p r ih =>
    rw [List.map_cons, List.nodup_cons] at h
    rcases List.mem_cons.mp hx with e | hx
    · subst e; simp
    · have hne : ¬ p.1 = x.1 := fun e => h.1 (by rw [e]; exact List.mem_map.mpr ⟨x, hx, rfl⟩)
      rw [List.find?_cons_of_neg (by simpa using hne)]
      exact ih h.2 hx
theorem addOne_nodup {W : List Int} {i : Int} (h : W.Nodup) : (addOne W i).Nodup := by
  unfold addOne
  split
  · exact h
  · rename_i n
    exact List.nodup_append.mpr ⟨h, by simp, fun a ha b hb e => n (by rw [List.mem_singleton] at hb; rw [← hb, ← e]; exact ha)⟩
theorem addNew_snoc (W is : List Int) (i : Int) : addNew W (is ++ [i]) = addOne (addNew W is) i := by
  unfold addNew; rw [List.foldl_append]; rfl
theorem addNew_nodup {W : List Int} (h : W.Nodup) : ∀ is : List Int, (addNew W is).Nodup := by
  intro is
  induction is generalizing W with
  | nil => exact h
  | cons i is ih => exact ih (addOne_nodup h)
theorem mem_addOne {W : List Int} {i a : Int} : a ∈ addOne W i ↔ a ∈ W ∨ a = i := by
  unfold addOne
  split
  · rename_i h
    exact ⟨Or.inl, fun h' => h'.elim id fun e => by rw [e]; exact h⟩
  · rw [List.mem_append, List.mem_singleton]
theorem mem_addNew {is : List Int} : ∀ {W : List Int} {a : Int}, a ∈ addNew W is ↔ a ∈ W ∨ a ∈ is := by
  induction is with
  | nil => intro W a; simp [addNew]
  | cons i is ih =>
    intro W a
    show a ∈ addNew (addOne W i) is ↔ _
    rw [ih, mem_addOne, List.mem_cons, or_assoc]
theorem nodup_le : ∀ {l m : List Int}, l.Nodup → (∀ a ∈ l, a ∈ m) → l.length ≤ m.length
  | [], _, _, _ => Nat.zero_le _
  | a :: l, m, h, hs => by
    rw [List.nodup_cons] at h
    have ha := hs a List.mem_cons_self
    have h1 := nodup_le (l := l) (m := m.erase a) h.2 fun b hb => (List.mem_erase_of_ne (fun e => h.1 (by rw [← e]; exact hb))).mpr (hs b (List.mem_cons_of_mem _ hb))
    have h2 := List.length_erase_of_mem ha
    have h3 := List.length_pos_of_mem ha
    rw [List.length_cons]; omega
theorem tgsI_snoc (r : List (Str × Tg)) (y : Str × Tg) : tgsI (r ++ [y]) = tgsI r ++ (tgI y.2).toList := by
  unfold tgsI
  rw [List.filterMap_append]
  cases h : tgI y.2 <;> simp [List.filterMap, h]
theorem mem_tgsI {js : List Int} {r : List (Str × Tg)} (h : RowOk js r) : ∀ i ∈ tgsI r, i ∈ js := fun i hi => by
  obtain ⟨y, hy, e⟩ := List.mem_filterMap.mp hi
  have := (h.2.2 y hy).2
  revert this e
  cases y.2 with
  | inl k => intro e h; cases e; exact h
  | inr p => intro e _; exact nomatch e
def keyB (W : List Int) : List (Key × V) := W.map fun j => ((Sum.inl j : Key), V.bl true)
theorem keyB_val {W : List Int} {i : Int} : (valV (keyB W) (.inl i)).isSome = decide (i ∈ W) := by
  unfold keyB valV
  rw [Option.isSome_map, List.find?_map, Option.isSome_map, Bool.eq_iff_iff, List.find?_isSome, decide_eq_true_eq]
  constructor
  · rintro ⟨x, hx, h⟩
    have : x = i := by simpa using h
    rw [← this]; exact hx
  · intro h; exact ⟨i, h, by simp⟩
theorem keyB_put {W : List Int} {i : Int} (h : i ∉ W) : putK (keyB W) (.inl i) (V.bl true) = keyB (W ++ [i]) := by
  have : valV (keyB W) (.inl i) = none := by
    cases hv : valV (keyB W) (.inl i) with
    | none => rfl
    | some v =>
      have := keyB_val (W := W) (i := i)
      rw [hv] at this
      exact absurd (of_decide_eq_true this.symm) h
  rw [putK_new _ this]
  unfold keyB
  rw [List.map_append]; rfl
theorem each_get {α β : Type} {R : α → β → Prop} : ∀ {xs : List α} {bs : List β} {n : Nat} {x : α}, EachIs R xs bs → xs[n]? = some x → ∃ y, bs[n]? = some y ∧ R x y
  | _, _, n, _, .nil, h => by simp at h
  | _, _, 0, _, .cons r _, h => ⟨_, rfl, by cases (show some _ = some _ from h); exact r⟩
  | _, _, n + 1, _, .cons _ t, h => each_get (n := n) t h
theorem run_end {s : List (Int × List (Str × Tg))} {n : Nat} {W : List Int} {i : Nat} (h : W.length ≤ i) : run s n W i = W := by
  cases n with
  | zero => rfl
  | succ n =>
    unfold run
    rw [List.getElem?_eq_none h]
theorem run_step {s : List (Int × List (Str × Tg))} {n : Nat} {W : List Int} {i : Nat} {j : Int} (h : W[i]? = some j) : run s (n + 1) W i = run s n (addNew W (tgsI (rowOf s j))) (i + 1) := by
  conv => lhs; unfold run
  rw [h]
def spJoints (C : Addr) : Sp := fun vs H Q _ => ∃ (l b : Addr) (s : List (Int × List (Str × Tg))) (top : Int), vs = [.ref l] ∧ LayA C b H l s top ∧ TabOk s ∧ top ∈ s.map (·.1) ∧ ∀ H' d, Ex H H' → H d = none → H' d = some (.dK (keyB (bfs s top))) → Q (.ref d) H'
theorem lk_rows {R : Addr} {top : Int} : List.lookup ("rows" : Str) (layFs R top) = some (.ref R) := by simp [layFs, List.lookup]
theorem lk_peak {R : Addr} {top : Int} : List.lookup ("peak" : Str) (layFs R top) = some (.int top) := by
  have e : (("peak" : Str) == ("rows" : Str)) = false := by decide +kernel
  simp [layFs, List.lookup, e]
abbrev s_joints_from : Stmt := topS 15
abbrev N_joints_from : List Str := ["layout", "found", "waiting", "at", "row", "name"]
theorem sc_joints_from : FnScope ["layout", "found", "waiting", "at", "row", "name"] ["layout"] (defScope s_joints_from) := ⟨rfl, rfl, rfl, by decide +kernel, rfl, by decide +kernel, by decide +kernel⟩
end KC

set_option Elab.async false
set_option linter.all false
set_option maxRecDepth 100000
set_option maxHeartbeats 8000000
namespace KC
open PySem PySem.Spec PyProof.Rows L2 LF
open Evl (Ev EvL EvU EvT EvA Ex sq_of st_of)
open PySem.W (EachIs)
section
variable {P : Program} {w : World} {K : PySem.W.Frag} {mg : Str → Option Value} {base : Heap} {tk1 tk2 : Tok}
theorem ok_joints_from {f C : Addr} {fd : FuncData} (F : Fun K "joints_from" "joints_from" s_joints_from f fd) (T : Txt K mg tk1 tk2) (R : LayTxt K mg C) : FnOk P w K mg base CX0 1 f fd ["layout"] (spJoints C) := by
  refine F.ok sc_joints_from (fun vs H Q E h => ?_) (fun cdv A outer s H vs Q E hr h => ?_)
  · obtain ⟨l, b, s, top, rfl, _⟩ := h
    rfl
  have hu1 := hu_of hr
  refine ⟨_, (pss_cons (ps_set (i := 1) sc_joints_from.nd rfl (Or.inl rfl) (pe_disp (pps_cons (pe_fld (pv 0) rfl) pe_bl pps_nil) (by rfl) (by rfl) (fun z => by cases z) (by decide)))
    (pss_cons (ps_set (i := 2) sc_joints_from.nd rfl (Or.inl rfl) (pe_lst (pa_cons (pe_fld (pv 0) rfl) pa_nil)))
    (pss_cons (ps_set (i := 3) sc_joints_from.nd rfl (Or.inl rfl) pe_int)
    (Evl.pss_cut (ps_while PassesOwn.never (pt_cmpR op_lt (pv 3) (pe_callB call_len_seq (by rfl) T.n_len (by decide +kernel) (pa_cons (pv 2) pa_nil)) (nomark _)) (pss_cons (ps_set (i := 4) sc_joints_from.nd rfl (Or.inl rfl) (pe_dget hu1 (pe_fld (pv 0) rfl) (pe_ix ix_list (pv 2) (pv 3) (fun _ _ => rfl)) (fun _ _ => rfl)))
    (pss_cons (ps_lock (ps_for PassesOwn.never rfl (pi_keys (pv 4)) (pg_name (i := 5) sc_joints_from.nd rfl (Or.inl rfl)) (pss_one (ps_if (PW.pt (pw_and (pt_val (pe_callB call_isi (by rfl) T.n_isinstance (by decide +kernel) (pa_cons (pe_dget hu1 (pv 4) (pv 5) (fun _ _ => rfl)) (pa_cons (pe_bltn (v := .ty "int") (by rfl) T.n_int (by decide +kernel) rfl) pa_nil)))) (pw_and1 (pt_cmp (pc_dnotin hu1 (pe_dget hu1 (pv 4) (pv 5) (fun _ _ => rfl)) (pv 1)))))) (pss_cons (ps_dput hu1 (pv 1) (pe_dget hu1 (pv 4) (pv 5) (fun _ _ => rfl)) pe_bl rfl)
    (pss_one (ps_expr (pe_bm PySem.F.plainAttrs_list PySem.F.slot_list_append PySem.F.type_list_append mt_append (pv 2) (pa_cons (pe_dget hu1 (pv 4) (pv 5) (fun _ _ => rfl)) pa_nil))))) pss_nil))))
    (pss_one (ps_aug (i := 3) sc_joints_from.nd rfl (Or.inl rfl) pe_int ip_add)))))
    (pss_one (ps_ret (pv 1))))))), ?_⟩
  obtain ⟨l, b, s, top, rfl, ⟨dx, Rr, nlb, hl, kvs, nRb, hR, heach, _⟩, ⟨hnd, hs1, hs6, hx⟩, htop, hq⟩ := h
  have hkeys : kvs.map (·.1) = (s.map (·.1)).map Sum.inl := by
    rw [List.map_map]
    exact each_map (fun a c h => h.1) heach
  have peak : ∀ {σ : L2.St} {H1 : Hp}, σ[0]? = some (some (.ref l)) → Ex H H1 → Ev (tFld K (tVar 0) "peak") σ H1 (.int top) := fun hi e H2 e2 Q q => ⟨_, hi, l, C, dx, _, _, rfl, e2 _ _ (e _ _ hl), R.cl, R.nP, lk_peak, q H2 (Ex.refl H2)⟩
  refine fun f0 hf0 => ?_
  have e1 : Ex H (upd H f0 (.dK [])) := Ex.new hf0
  refine peak rfl e1 _ (Ex.refl _) _ fun H1 e1' => ⟨e1' _ _ upd_same, [(.inl top, .bl true)], rfl, by show 1 ≤ 15; decide, ?_⟩
  have hput : mergeK [] [((Sum.inl top : Key), V.bl true)] = keyB [top] := rfl
  rw [hput]
  have x1 : Ex H (upd H1 f0 (.dK (keyB [top]))) := fun a o h => by
    rw [upd_ne (fun z => by rw [z, hf0] at h; cases h)]; exact e1' _ _ (e1 _ _ h)
  have hf1 : (upd H1 f0 (.dK (keyB [top]))) f0 = some (.dK (keyB [top])) := upd_same
  generalize upd H1 f0 (.dK (keyB [top])) = H2 at *
  refine Evl.q_asgL (xs := [.int top]) (Evl.el_lst (Evl.ea_cons (peak rfl x1) Evl.ea_nil) (by show 1 ≤ 100000; decide)) fun wa H3 hwa e3 hw3 => ?_
  refine Evl.q_asg Evl.ev_c fun H4 e4 => ?_
  have nfw : f0 ≠ wa := fun z => by rw [z, hwa] at hf1; cases hf1
  have x4 : Ex H H4 := (x1.trans e3).trans e4
  have hf4 := e4 _ _ (e3 _ _ hf1)
  have hw4 := e4 _ _ hw3
  have old : ∀ {a o}, H a = some o → a ≠ f0 ∧ a ≠ wa := fun h => ⟨fun z => by (rw [z, hf0] at h; cases h), fun z => by (have := x1 _ _ h; rw [z, hwa] at this; cases this)⟩
  have hsl : ∀ {W : List Int}, W.Nodup → (∀ a ∈ W, a ∈ s.map (·.1)) → W.length ≤ 6 := fun h1 h2 => by
    have := nodup_le h1 h2
    rw [List.length_map] at this; omega
  refine ⟨fun σ' H' => ∃ v3 v4 v5, σ' = [some (.ref l), some (.ref f0), some (.ref wa), v3, v4, v5] ∧ H' f0 = some (.dK (keyB (bfs s top))) ∧ Ex H H', ?_, ?_⟩
  · refine Evl.s_while (fun m σ' H' => ∃ (i : Nat) (v4 v5 : Option V) (W : List Int), σ' = [some (.ref l), some (.ref f0), some (.ref wa), some (.int (i : Int)), v4, v5] ∧ m = 10 - i ∧ i ≤ W.length ∧ W.Nodup ∧ (∀ a ∈ W, a ∈ s.map (·.1)) ∧ run s (10 - i) W i = bfs s top ∧ H' f0 = some (.dK (keyB W)) ∧ H' wa = some (.lst (W.map V.int)) ∧ Ex H H') 10
      ⟨0, _, _, [top], rfl, rfl, Nat.zero_le _, by simp, fun a ha => by rw [List.mem_singleton.mp ha]; exact htop, rfl, hf4, hw4, x4⟩ ?_
    rintro m σ' H5 ⟨i, v4, v5, W, rfl, rfl, hiW, hWn, hWk, hrun, hf5, hw5, x5⟩
    have hW6 := hsl hWn hWk
    refine ⟨decide ((i : Int) < ((W.map V.int).length : Int)), Evl.et_test (Evl.ev_op (Evl.ev_var rfl) (Evl.ev_len (K := K) (Evl.ev_var rfl) (SqL.of hw5)) Evl.rv_I0), fun hlt H6 e6 => ?_, fun hge H6 e6 => ?_⟩
    · have hlt' : i < W.length := by
        have := of_decide_eq_true hlt
        rw [List.length_map] at this; omega
      refine ⟨fun σ2 H2 => ∃ (v4 v5 : Option V) (W' : List Int), σ2 = [some (.ref l), some (.ref f0), some (.ref wa), some (.int ((i + 1 : Nat) : Int)), v4, v5] ∧ i + 1 ≤ W'.length ∧ W'.Nodup ∧ (∀ a ∈ W', a ∈ s.map (·.1)) ∧ run s (10 - (i + 1)) W' (i + 1) = bfs s top ∧ H2 f0 = some (.dK (keyB W')) ∧ H2 wa = some (.lst (W'.map V.int)) ∧ Ex H H2,
        fun σ2 H2 ⟨v4, v5, W', h1, h2, h3, h4, h5, h6, h7, h8⟩ => ⟨10 - (i + 1), by omega, i + 1, v4, v5, W', h1, rfl, h2, h3, h4, h5, h6, h7, h8⟩, ?_⟩
      have hj : W[i]? = some W[i] := List.getElem?_eq_getElem hlt'
      have hjk := hWk _ (List.mem_of_getElem? hj)
      obtain ⟨v, hv, hm⟩ := keys_val hkeys hjk
      obtain ⟨y, hy, hy1, e, rfl, neR, ekvs, neb, he, hrow⟩ := each_mem heach _ hm
      have hrow' := hrow
      have hyo := (hx y hy).2
      have hr : rowOf s W[i] = y.2 := by
        have e1 : W[i] = y.1 := Sum.inl.inj hy1
        rw [e1]; exact rowOf_mem hnd hy
      have hekn : (ekvs.map (·.1)).Nodup := by
        have : ekvs.map (·.1) = (y.2.map (·.1)).map Sum.inr := by
          rw [List.map_map]
          exact each_map (fun a c h => h.1) hrow
        rw [this]; exact nodup_map_inr hyo.1
      have x6 : Ex H H6 := x5.trans e6
      have hf6 := e6 _ _ hf5
      have hw6 := e6 _ _ hw5
      refine Evl.q_asg (v := .ref e) (fun H7 e7 Q q => ?_) fun H7 e7 => ?_
      · have dg := DGet.k (k := .inl W[i]) (e7 _ _ (x6 _ _ hR))
        rw [hv] at dg
        have z := atI_nat (xs := W.map V.int) (j := i) (v := .int W[i]) (by rw [List.getElem?_map, hj]; rfl)
        exact ⟨_, rfl, l, C, dx, _, _, rfl, e7 _ _ (x6 _ _ hl), R.cl, R.nR, lk_rows, _, rfl, _, rfl, wa, _, _, _, rfl, rfl, SqL.of (e7 _ _ hw6), z, Rr, _, rfl, dg, q H7 (Ex.refl H7)⟩
      have x7 : Ex H H7 := x6.trans e7
      have he7 := x7 _ _ he
      have nef := (old he).1
      have new := (old he).2
      refine ⟨e, .dK ekvs, he7, trivial, fun od => ?_⟩
      refine ⟨_, rfl, e, od, rfl, Or.inl ⟨ekvs, upd_same, ?_⟩⟩
      refine for_it walk_keys (fun n σ' H' => ∃ (v5 : Option V), σ' = [some (.ref l), some (.ref f0), some (.ref wa), some (.int (i : Int)), some (.ref e), v5] ∧ H' f0 = some (.dK (keyB (addNew W (tgsI (y.2.take n))))) ∧ H' wa = some (.lst ((addNew W (tgsI (y.2.take n))).map V.int)) ∧ ∀ a o, a ≠ f0 → a ≠ wa → (upd H7 e (.frz od (.dK ekvs))) a = some o → H' a = some o)
        ⟨_, rfl, by rw [upd_ne nef.symm]; exact e7 _ _ hf6, by rw [upd_ne new.symm]; exact e7 _ _ hw6, fun _ _ _ _ h => h⟩ (fun n σ' H' _ ⟨_, _, _, _, k⟩ => k _ _ nef new upd_same) ?_ ?_
      · rintro n x σ' H8' H8 hn ⟨v5', rfl, hf8, hw8, k8⟩ ⟨rfl, kk, vv, hkv, rfl⟩
        obtain ⟨yy, hyy, hk1, hta⟩ := each_get hrow' hkv
        cases (show kk = Sum.inr yy.1 from hk1)
        have hym := List.mem_of_getElem? hyy
        have hvv : valV ekvs (.inr yy.1) = some vv := val_of hekn (List.mem_of_getElem? hkv)
        have he8 := k8 _ _ nef new upd_same
        have dge : ∀ {H9 : Hp}, H9 e = some (.frz od (.dK ekvs)) → DGet H9 e (.str yy.1) (some vv) := fun h9 => by
          have : DGet _ e (kV (.inr yy.1)) (valV ekvs (.inr yy.1)) := Or.inl ⟨ekvs, .inr yy.1, Or.inr ⟨od, h9⟩, rfl, rfl⟩
          rw [hvv] at this; exact this
        have htk : tgsI (y.2.take (n + 1)) = tgsI (y.2.take n) ++ (tgI yy.2).toList := by rw [List.take_add_one, hyy]; exact tgsI_snoc _ _
        have hW' : (addNew W (tgsI (y.2.take n))).Nodup := addNew_nodup hWn _
        have hWk' : ∀ a ∈ addNew W (tgsI (y.2.take n)), a ∈ s.map (·.1) := fun a ha => by
          rcases mem_addNew.mp ha with h | h
          · exact hWk a h
          · refine mem_tgsI hyo a ?_
            obtain ⟨u, hu, eu⟩ := List.mem_filterMap.mp h
            exact List.mem_filterMap.mpr ⟨u, List.mem_of_mem_take hu, eu⟩
        have hl' := hsl hW' hWk'
        have nfw' : f0 ≠ wa := nfw
        have hte : H7 e = some (.dK ekvs) := he7
        cases hy2 : yy.2 with
        | inr pp =>
          rw [hy2] at hta htk
          obtain ⟨q, ev, nq, hq'⟩ := hta
          have nqe : q ≠ e := fun z => by rw [z, he] at hq'; cases hq'
          have hq8 := k8 q _ (old hq').1 (old hq').2 (by rw [upd_ne nqe]; exact x7 _ _ hq')
          subst ev
          refine ⟨_, rfl, _, rfl, e, _, rfl, dge he8, .ref q, .ty "int", _, _, false, rfl, .ty _, .base (.tup hq8), kit_ty (by decide +kernel), _, rfl, ?_⟩
          have e0 : tgsI (y.2.take (n + 1)) = tgsI (y.2.take n) := by rw [htk]; simp [tgI]
          exact iteF (iteF ⟨_, rfl, by rw [e0]; exact hf8, by rw [e0]; exact hw8, k8⟩)
        | inl k =>
          rw [hy2] at hta htk
          have ev : vv = .int k := hta
          subst ev
          refine ⟨_, rfl, _, rfl, e, _, rfl, dge he8, .int k, .ty "int", _, _, true, rfl, .ty _, .base (.int k), kit_ty (by decide +kernel), _, rfl, ?_⟩
          have e0 : addNew W (tgsI (y.2.take (n + 1))) = addOne (addNew W (tgsI (y.2.take n))) k := by rw [htk]; exact addNew_snoc _ _ _
          refine iteT ⟨_, rfl, _, rfl, e, _, rfl, dge he8, _, rfl, f0, _, rfl, DGet.k (k := .inl k) hf8, _, rfl, ?_⟩
          rw [keyB_val]
          by_cases hkW : k ∈ addNew W (tgsI (y.2.take n))
          · have : (!decide (k ∈ addNew W (tgsI (y.2.take n)))) = false := by simp [hkW]
            rw [this]
            have e1 : addOne (addNew W (tgsI (y.2.take n))) k = addNew W (tgsI (y.2.take n)) := by unfold addOne; rw [if_pos hkW]
            exact iteF ⟨_, rfl, by rw [e0, e1]; exact hf8, by rw [e0, e1]; exact hw8, k8⟩
          · have : (!decide (k ∈ addNew W (tgsI (y.2.take n)))) = true := by simp [hkW]
            rw [this]
            have e1 : addOne (addNew W (tgsI (y.2.take n))) k = addNew W (tgsI (y.2.take n)) ++ [k] := by unfold addOne; rw [if_neg hkW]
            refine iteT ⟨_, rfl, _, rfl, _, rfl, e, _, rfl, dge he8, f0, _, rfl, DPut.k (k := .inl k) hf8 (Evl.sz_lt (by unfold keyB; rw [List.length_map]; omega)), ?_⟩
            rw [keyB_put hkW]
            have hw9 : (upd H8 f0 (.dK (keyB (addNew W (tgsI (y.2.take n)) ++ [k])))) wa = some (.lst ((addNew W (tgsI (y.2.take n))).map V.int)) := by rw [upd_ne nfw'.symm]; exact hw8
            have he9 : (upd H8 f0 (.dK (keyB (addNew W (tgsI (y.2.take n)) ++ [k])))) e = some (.frz od (.dK ekvs)) := by rw [upd_ne nef]; exact he8
            refine ⟨_, rfl, Or.inl ⟨rfl, _, SqL.of hw9⟩, _, rfl, _, rfl, e, _, rfl, dge he9, wa, _, .int k, rfl, rfl, hw9, Evl.sz_lt (by rw [List.length_map]; omega), ?_⟩
            refine ⟨_, rfl, by rw [upd_ne nfw', upd_same, e0, e1], by rw [upd_same, e0, e1, List.map_append]; rfl, fun a o n1 n2 h => ?_⟩
            rw [upd_ne n2, upd_ne n1]
            exact k8 a o n1 n2 h
      · rintro σ' H8 ⟨v5', rfl, hf8, hw8, k8⟩
        rw [hrow'.length, List.take_length] at hf8 hw8
        have he8 := k8 _ _ nef new upd_same
        refine ⟨he8, .int (i : Int), rfl, _, _, rfl, rfl, ?_⟩
        refine ⟨_, _, addNew W (tgsI y.2), by push_cast; rfl, ?_, addNew_nodup hWn _, fun a ha => ?_, ?_, by rw [upd_ne nef.symm]; exact hf8, by rw [upd_ne new.symm]; exact hw8, fun a o h => ?_⟩
        · have := nodup_le hWn (m := addNew W (tgsI y.2)) fun a ha => mem_addNew.mpr (Or.inl ha)
          omega
        · rcases mem_addNew.mp ha with h | h
          · exact hWk a h
          · exact mem_tgsI hyo a h
        · rw [← hrun]
          have : 10 - i = (10 - (i + 1)) + 1 := by omega
          rw [this, run_step hj, hr]
        · by_cases hae : a = e
          · subst hae
            rw [upd_same, ← h, he]
          · rw [upd_ne hae]
            exact k8 a o (old h).1 (old h).2 (by rw [upd_ne hae]; exact x7 _ _ h)
    · have hge' : W.length ≤ i := by
        have := of_decide_eq_false hge
        rw [List.length_map] at this; omega
      rw [run_end hge'] at hrun
      exact ⟨_, _, _, rfl, by rw [← hrun]; exact e6 _ _ hf5, x5.trans e6⟩
  · rintro σ' H5 ⟨v3, v4, v5, rfl, hf5, x5⟩
    exact ⟨_, rfl, hq H5 f0 x5 hf0 hf5⟩
end
end KC

set_option Elab.async false
set_option linter.all false
set_option maxRecDepth 100000
set_option maxHeartbeats 8000000
namespace KC
open PySem PySem.Spec PyProof.Rows L2 LF
open PySem.W (EachIs)
/-! == of tables: dicts of dicts of targets -/
def lookR (r : List (Str × Tg)) (z : Str) : Option Tg := (r.find? fun y => decide (y.1 = z)).map (·.2)
def lookT (t : List (Int × List (Str × Tg))) (j : Int) : Option (List (Str × Tg)) := (t.find? fun x => decide (x.1 = j)).map (·.2)
def eqR (r1 r2 : List (Str × Tg)) : Bool := r1.length == r2.length && r1.all fun y => (lookR r2 y.1).isSome && decide (lookR r1 y.1 = lookR r2 y.1)
def eqT (t1 t2 : List (Int × List (Str × Tg))) : Bool := t1.length == t2.length && t1.all fun x => (lookT t2 x.1).isSome && eqR ((lookT t1 x.1).getD []) ((lookT t2 x.1).getD [])
def tgP : Tg → PyData
  | .inl i => .int i
  | .inr p => .tuple [.str p.1, .str p.2]
theorem tgP_eq (x y : Tg) : PyData.eqv (tgP x) (tgP y) = decide (x = y) := by
  cases x with
  | inl i =>
    cases y with
    | inl j => simp [tgP, PyData.eqv]; rw [Bool.eq_iff_iff, beq_iff_eq, decide_eq_true_eq]
    | inr p => simp [tgP, PyData.eqv]
  | inr p =>
    cases y with
    | inl j => simp [tgP, PyData.eqv]
    | inr q =>
      obtain ⟨p1, p2⟩ := p
      obtain ⟨q1, q2⟩ := q
      simp only [tgP, PyData.eqv, PyData.eqvAll]
      by_cases h1 : p1 = q1 <;> by_cases h2 : p2 = q2 <;> simp [h1, h2]
theorem tg_dp {K : PySem.W.Frag} {b : Addr} {H : Hp} {v : V} {x : Tg} (h : TgA b H v x) : Dp K H v (tgP x) := by
  cases x with
  | inl i => rw [show v = .int i from h]; exact .int i
  | inr p =>
    obtain ⟨q, e, _, hq⟩ := h
    rw [e]
    exact .tup (SqT.of hq) (.cons (.str _) (.cons (.str _) .nil))
theorem each_look {R : Key × V → Str × Tg → Prop} (hR : ∀ kv x, R kv x → kv.1 = Sum.inr x.1) (z : Str) : ∀ {ks : List (Key × V)} {r : List (Str × Tg)}, EachIs R ks r → (valV ks (.inr z) = none ∧ lookR r z = none) ∨ ∃ v x y, valV ks (.inr z) = some v ∧ lookR r z = some x ∧ R (.inr z, v) (z, x) ∧ y ∈ r ∧ y = (z, x)
  | _, _, .nil => Or.inl ⟨rfl, rfl⟩
  | _, _, .cons (a := kv) (b := y) (as := ks) (bs := rr) h t => by
    have hk := hR _ _ h
    by_cases e : y.1 = z
    · refine Or.inr ⟨kv.2, y.2, y, ?_, ?_, ?_, List.mem_cons_self, by rw [← e]⟩
      · exact valV_pos (by rw [hk, e])
      · unfold lookR; rw [List.find?_cons_of_pos (by simpa using e)]; rfl
      · have e1 : kv = (Sum.inr z, kv.2) := by rw [← e, ← hk]
        have e2 : y = (z, y.2) := by rw [← e]
        rw [← e1, ← e2]; exact h
    · have e1 : ¬ kv.1 = Sum.inr z := fun h => e (Sum.inr.inj (hk.symm.trans h))
      rw [valV_neg e1]
      have e2 : lookR (y :: rr) z = lookR rr z := by unfold lookR; rw [List.find?_cons_of_neg (by simpa using e)]
      rcases each_look hR z t with ⟨h1, h2⟩ | ⟨v, x, y', h1, h2, h3, h4, h5⟩
      · exact Or.inl ⟨h1, by rw [e2]; exact h2⟩
      · exact Or.inr ⟨v, x, y', h1, by rw [e2]; exact h2, h3, List.mem_cons_of_mem _ h4, h5⟩
theorem each_lookT {R : Key × V → Int × List (Str × Tg) → Prop} (hR : ∀ kv x, R kv x → kv.1 = Sum.inl x.1) (j : Int) : ∀ {ks : List (Key × V)} {t : List (Int × List (Str × Tg))}, EachIs R ks t → (valV ks (.inl j) = none ∧ lookT t j = none) ∨ ∃ v x y, valV ks (.inl j) = some v ∧ lookT t j = some x ∧ R (.inl j, v) (j, x) ∧ y ∈ t ∧ y = (j, x)
  | _, _, .nil => Or.inl ⟨rfl, rfl⟩
  | _, _, .cons (a := kv) (b := y) (as := ks) (bs := rr) h t => by
    have hk := hR _ _ h
    by_cases e : y.1 = j
    · refine Or.inr ⟨kv.2, y.2, y, ?_, ?_, ?_, List.mem_cons_self, by rw [← e]⟩
      · exact valV_pos (by rw [hk, e])
      · unfold lookT; rw [List.find?_cons_of_pos (by simpa using e)]; rfl
      · have e1 : kv = (Sum.inl j, kv.2) := by rw [← e, ← hk]
        have e2 : y = (j, y.2) := by rw [← e]
        rw [← e1, ← e2]; exact h
    · have e1 : ¬ kv.1 = Sum.inl j := fun h => e (Sum.inl.inj (hk.symm.trans h))
      rw [valV_neg e1]
      have e2 : lookT (y :: rr) j = lookT rr j := by unfold lookT; rw [List.find?_cons_of_neg (by simpa using e)]
      rcases each_lookT hR j t with ⟨h1, h2⟩ | ⟨v, x, y', h1, h2, h3, h4, h5⟩
      · exact Or.inl ⟨h1, by rw [e2]; exact h2⟩
      · exact Or.inr ⟨v, x, y', h1, by rw [e2]; exact h2, h3, List.mem_cons_of_mem _ h4, h5⟩
/-- names and places that can be compared -/
def TgW : Tg → Prop
  | .inl _ => True
  | .inr p => PyData.strOk p.1 = true ∧ PyData.strOk p.2 = true
theorem tgP_lay {x : Tg} (h : TgW x) : (tgP x).canLay0 = true := by
  cases x with
  | inl i => simp [tgP, PyData.canLay0]
  | inr p => simp [tgP, PyData.canLay0, PyData.canLayAll0, h.1, h.2]
theorem tgP_depth (x : Tg) : (tgP x).depth ≤ 2 := by cases x <;> simp [tgP, PyData.depth, PyData.depthAll]
section
variable {X : Cx}
theorem all_pair {α β : Type} {R : α → β → Prop} {f : α → Bool} {g : β → Bool} (h : ∀ a b, R a b → f a = g b) : ∀ {xs : List α} {ys : List β}, Paired R xs ys → xs.all f = ys.all g
  | _, _, .nil => rfl
  | _, _, .cons r t => by rw [List.all_cons, List.all_cons, h _ _ r, all_pair h t]
theorem all_each {α β : Type} {R : α → β → Prop} {f : α → Bool} {g : β → Bool} (h : ∀ a b, R a b → f a = g b) : ∀ {xs : List α} {ys : List β}, EachIs R xs ys → xs.all f = ys.all g
  | _, _, .nil => rfl
  | _, _, .cons r t => by rw [List.all_cons, List.all_cons, h _ _ r, all_each h t]
/-- what is read at a key -/
theorem kv_at {ks : List (Key × V)} {va : List (Key × Value)} (ra : KV ks va) {k : Key} {v : Value} (hm : (k, v) ∈ va) : ∃ v', (k, v') ∈ ks ∧ RelV v' v := by
  unfold KV at ra
  induction ra with
  | nil => exact nomatch hm
  | @cons p q ps qs h t ih =>
    obtain ⟨h1, h2⟩ := h
    rcases List.mem_cons.mp hm with e | hm
    · subst e
      exact ⟨p.2, by rw [← show p.1 = k from h1]; exact List.mem_cons_self, h2⟩
    · obtain ⟨v', m, r⟩ := ih hm
      exact ⟨v', List.mem_cons_of_mem _ m, r⟩
theorem kv_val {ls : List (Key × V)} {vb : List (Key × Value)} (rb : KV ls vb) {k : Key} {y : Value} (h : valueAt vb k = some y) : ∃ y', valV ls k = some y' ∧ RelV y' y := by
  have rr := rb.val k
  rw [h] at rr
  cases hv : valV ls k with
  | none => rw [hv] at rr; cases rr
  | some y' => rw [hv] at rr; exact ⟨y', rfl, rr⟩
theorem kv_some {ls : List (Key × V)} {vb : List (Key × Value)} (rb : KV ls vb) (k : Key) : (valueAt vb k).isSome = (valV ls k).isSome := by
  have rr := rb.val k
  cases hv : valV ls k with
  | none =>
    rw [hv] at rr
    cases hx : valueAt vb k with
    | none => rfl
    | some y => rw [hx] at rr; cases rr
  | some y' =>
    rw [hv] at rr
    obtain ⟨z, hz, _⟩ := rr.some_of
    rw [hz]; rfl
def eKey (r1 r2 : List (Str × Tg)) : Key → Bool
  | .inl _ => false
  | .inr z => decide (lookR r1 z = lookR r2 z)
def eKeyT (t1 t2 : List (Int × List (Str × Tg))) : Key → Bool
  | .inl j => eqR ((lookT t1 j).getD []) ((lookT t2 j).getD [])
  | .inr _ => false
/-- rows, as the machine compares them -/
theorem row_tree {pins : List (Addr × Obj)} {σ : L2.St} {H : Hp} {s : Shared} (I : Inv X pins σ H s) {b e1 e2 : Addr} {r1 r2 : List (Str × Tg)} (h1 : RowA b H e1 r1) (h2 : RowA b H e2 r2) (w1 : ∀ y ∈ r1, TgW y.2) (w2 : ∀ y ∈ r2, TgW y.2) (hn1 : (r1.map (·.1)).Nodup) (hne : e1 ≠ e2) :
    PySem.W.EqTree X.prog X.w s 4 (.ref e1) (.ref e2) (eqR r1 r2) := by
  obtain ⟨ks, _, ha, ea⟩ := h1
  obtain ⟨ls, _, hb, eb⟩ := h2
  obtain ⟨_, ya, va, ra, da⟩ := (show ObjOk X.prog X.w H s.heap e1 (.dK ks) from I.hok e1 _ ha)
  obtain ⟨_, yb, vb, rb, db⟩ := (show ObjOk X.prog X.w H s.heap e2 (.dK ls) from I.hok e2 _ hb)
  have hkn : (ks.map (·.1)).Nodup := by
    have : ks.map (·.1) = (r1.map (·.1)).map Sum.inr := by
      rw [List.map_map]
      exact each_map (fun a c h => h.1) ea
    rw [this]; exact nodup_map_inr hn1
  have key := PySem.W.EqTree.dicts (n := 3) (e := eKey r1 r2) hne ya yb da db fun k v y hm hy => ?_
  · have e : (va.length == vb.length && va.all fun p => (valueAt vb p.1).isSome && eKey r1 r2 p.1) = eqR r1 r2 := by
      unfold eqR
      rw [← ra.length, ← rb.length, ea.length, eb.length]
      congr 1
      rw [← all_pair (f := fun p : Key × V => (valueAt vb p.1).isSome && eKey r1 r2 p.1) (fun a c h => by rw [h.1]) ra]
      refine all_each (fun a c h => ?_) ea
      rw [show a.1 = Sum.inr c.1 from h.1, kv_some rb]
      have : (valV ls (Sum.inr c.1)).isSome = (lookR r2 c.1).isSome := by
        rcases each_look (fun kv x h => h.1) c.1 eb with ⟨q1, q2⟩ | ⟨v, x, y, q1, q2, _⟩ <;> rw [q1, q2] <;> rfl
      rw [this]; rfl
    rw [e] at key; exact key
  · obtain ⟨v', hm', rv⟩ := kv_at ra hm
    obtain ⟨y', hy', ry⟩ := kv_val rb hy
    obtain ⟨x1, hx1, q1, q2⟩ := each_mem ea _ hm'
    cases (show k = Sum.inr x1.1 from q1)
    have hv' : valV ks (.inr x1.1) = some v' := val_of hkn hm'
    rcases each_look (fun kv x h => h.1) x1.1 ea with ⟨z1, _⟩ | ⟨u1, t1, c1, z1, z2, z3, z4, z5⟩
    · rw [hv'] at z1; cases z1
    rw [hv'] at z1
    cases z1
    rcases each_look (fun kv x h => h.1) x1.1 eb with ⟨p1, _⟩ | ⟨u2, t2, c2, p1, p2, p3, p4, p5⟩
    · rw [hy'] at p1; cases p1
    rw [hy'] at p1
    cases p1
    refine PySem.W.EqTree.leaf fun A hu => ?_
    obtain ⟨as, rr1⟩ := Dp.reads I _ _ _ (tg_dp z3.2) rv
    obtain ⟨bs, rr2⟩ := Dp.reads I _ _ _ (tg_dp p3.2) ry
    have hd1 := tgP_depth t1
    have w1' : TgW t1 := by have := w1 _ z4; rw [z5] at this; exact this
    have w2' : TgW t2 := by have := w2 _ p4; rw [p5] at this; exact this
    have := SeqAt.eqAt_reads (tgP t1) (tgP t2) A s v y as bs rr1 rr2 (tgP_lay w1') (tgP_lay w2') (by have h3 : min (tgP t1).depth (tgP t2).depth ≤ (tgP t1).depth := Nat.min_le_left _ _; omega)
    have e : eKey r1 r2 (.inr x1.1) = PyData.eqv (tgP t1) (tgP t2) := by
      rw [tgP_eq]
      show decide (lookR r1 x1.1 = lookR r2 x1.1) = _
      rw [z2, p2]
      by_cases h : t1 = t2 <;> simp [h]
    rw [e]; exact this
theorem eqR_refl {r : List (Str × Tg)} : eqR r r = true := by
  unfold eqR
  rw [Bool.and_eq_true]
  refine ⟨by simp, List.all_eq_true.mpr fun y hy => ?_⟩
  rw [Bool.and_eq_true]
  refine ⟨?_, by simp⟩
  unfold lookR
  rw [Option.isSome_map, List.find?_isSome]
  exact ⟨y, hy, by simp⟩
theorem row_same {b e : Addr} {H : Hp} {r1 r2 : List (Str × Tg)} (h1 : RowA b H e r1) (h2 : RowA b H e r2) : r1 = r2 := by
  obtain ⟨ks, _, ha, ea⟩ := h1
  obtain ⟨ls, _, hb, eb⟩ := h2
  rw [ha] at hb
  cases hb
  have go : ∀ {ks : List (Key × V)} {r1 r2 : List (Str × Tg)}, EachIs (fun kv (x : Str × Tg) => kv.1 = Sum.inr x.1 ∧ TgA b H kv.2 x.2) ks r1 → EachIs (fun kv (x : Str × Tg) => kv.1 = Sum.inr x.1 ∧ TgA b H kv.2 x.2) ks r2 → r1 = r2 := by
    intro ks r1 r2 h1
    induction h1 generalizing r2 with
    | nil => intro h2; cases h2; rfl
    | @cons kv x1 ks r1 q t ih =>
      intro h2
      cases h2 with
      | @cons _ x2 _ r2 q' t' =>
        rw [ih t']
        have e1 : x1.1 = x2.1 := Sum.inr.inj (q.1.symm.trans q'.1)
        have e2 : x1.2 = x2.2 := by
          have a1 := q.2
          have a2 := q'.2
          revert a1 a2
          cases x1.2 with
          | inl i =>
            cases x2.2 with
            | inl j => intro a1 a2; rw [show kv.2 = .int i from a1] at a2; rw [V.int.inj (show V.int i = .int j from a2)]
            | inr p => rintro a1 ⟨q, e, _⟩; rw [show kv.2 = .int i from a1] at e; cases e
          | inr p =>
            cases x2.2 with
            | inl j => rintro ⟨q, e, _⟩ a2; rw [e] at a2; cases (show V.ref q = .int j from a2)
            | inr p' =>
              rintro ⟨q, e, _, hq⟩ ⟨q', e', _, hq'⟩
              rw [e] at e'
              cases e'
              rw [hq] at hq'
              obtain ⟨p1, p2⟩ := p
              obtain ⟨p1', p2'⟩ := p'
              cases hq'
              rfl
        rw [show x1 = x2 from Prod.ext e1 e2]
  exact go ea eb
def TabW (t : List (Int × List (Str × Tg))) : Prop := ∀ x ∈ t, (x.2.map (·.1)).Nodup ∧ ∀ y ∈ x.2, TgW y.2
theorem tab_run {pins : List (Addr × Obj)} {σ : L2.St} {H : Hp} {s : Shared} (I : Inv X pins σ H s) {b a1 a2 : Addr} {t1 t2 : List (Int × List (Str × Tg))} (h1 : TabA b H a1 t1) (h2 : TabA b H a2 t2) (hn1 : (t1.map (·.1)).Nodup) (w1 : TabW t1) (w2 : TabW t2) :
    ∃ (va vb : List (Key × Value)) (ya : (a1 == sysModules) = false) (yb : (a2 == sysModules) = false), s.heap.DictOf (mixKind X.prog X.w) a1 va ∧ s.heap.DictOf (mixKind X.prog X.w) a2 vb ∧
      (∀ k v y, (k, v) ∈ va → valueAt vb k = some y → PySem.W.EqTree X.prog X.w s 4 v y (eKeyT t1 t2 k)) ∧ (va.length == vb.length && va.all fun p => (valueAt vb p.1).isSome && eKeyT t1 t2 p.1) = eqT t1 t2 := by
  obtain ⟨ks, _, ha, ea, _⟩ := h1
  obtain ⟨ls, _, hb, eb, _⟩ := h2
  obtain ⟨_, ya, va, ra, da⟩ := (show ObjOk X.prog X.w H s.heap a1 (.dK ks) from I.hok a1 _ ha)
  obtain ⟨_, yb, vb, rb, db⟩ := (show ObjOk X.prog X.w H s.heap a2 (.dK ls) from I.hok a2 _ hb)
  have hkn : (ks.map (·.1)).Nodup := by
    have : ks.map (·.1) = (t1.map (·.1)).map Sum.inl := by
      rw [List.map_map]
      exact each_map (fun a c h => h.1) ea
    rw [this]; exact nodup_map_inl hn1
  refine ⟨va, vb, ya, yb, da, db, fun k v y hm hy => ?_, ?_⟩
  · obtain ⟨v', hm', rv⟩ := kv_at ra hm
    obtain ⟨y', hy', ry⟩ := kv_val rb hy
    obtain ⟨x1, hx1, q1, q2⟩ := each_mem ea _ hm'
    cases (show k = Sum.inl x1.1 from q1)
    have hv' : valV ks (.inl x1.1) = some v' := val_of hkn hm'
    rcases each_lookT (fun kv x h => h.1) x1.1 ea with ⟨z1, _⟩ | ⟨u1, r1, c1, z1, z2, z3, z4, z5⟩
    · rw [hv'] at z1; cases z1
    rw [hv'] at z1
    cases z1
    rcases each_lookT (fun kv x h => h.1) x1.1 eb with ⟨p1, _⟩ | ⟨u2, r2, c2, p1, p2, p3, p4, p5⟩
    · rw [hy'] at p1; cases p1
    rw [hy'] at p1
    cases p1
    obtain ⟨_, e1, ee1, _, hr1⟩ := z3
    obtain ⟨_, e2, ee2, _, hr2⟩ := p3
    have ee1' : v' = .ref e1 := ee1
    have ee2' : y' = .ref e2 := ee2
    subst ee1'
    subst ee2'
    have rv' : v = .ref e1 := rv
    have ry' : y = .ref e2 := ry
    rw [rv', ry']
    have he : eKeyT t1 t2 (.inl x1.1) = eqR r1 r2 := by
      show eqR ((lookT t1 x1.1).getD []) ((lookT t2 x1.1).getD []) = _
      rw [z2, p2]; rfl
    rw [he]
    by_cases hne : e1 = e2
    · subst hne
      have hs : r1 = r2 := row_same hr1 hr2
      rw [hs, eqR_refl]
      exact .same
    · have w1' := w1 _ z4
      have w2' := w2 _ p4
      rw [z5] at w1'
      rw [p5] at w2'
      exact row_tree I hr1 hr2 w1'.2 w2'.2 w1'.1 hne
  · unfold eqT
    rw [← ra.length, ← rb.length, ea.length, eb.length]
    congr 1
    rw [← all_pair (f := fun p : Key × V => (valueAt vb p.1).isSome && eKeyT t1 t2 p.1) (fun a c h => by rw [h.1]) ra]
    refine all_each (fun a c h => ?_) ea
    rw [show a.1 = Sum.inl c.1 from h.1, kv_some rb]
    have : (valV ls (Sum.inl c.1)).isSome = (lookT t2 c.1).isSome := by
      rcases each_lookT (fun kv x h => h.1) c.1 eb with ⟨q1, q2⟩ | ⟨v, x, y, q1, q2, _⟩ <;> rw [q1, q2] <;> rfl
    rw [this]; rfl
def rEqT : R2 := fun x y H Q => ∃ a1 a2 b t1 t2, x = .ref a1 ∧ y = .ref a2 ∧ TabA b H a1 t1 ∧ TabA b H a2 t2 ∧ (t1.map (·.1)).Nodup ∧ TabW t1 ∧ TabW t2 ∧ Q (.bl (eqT t1 t2)) H
def rNeT : R2 := fun x y H Q => ∃ a1 a2 b t1 t2, x = .ref a1 ∧ y = .ref a2 ∧ TabA b H a1 t1 ∧ TabA b H a2 t2 ∧ (t1.map (·.1)).Nodup ∧ TabW t1 ∧ TabW t2 ∧ Q (.bl (!eqT t1 t2)) H
theorem op_eqT (hu : X.A.units + 64 < cLine) : OpR X (compareOp .Eq) rEqT := by
  intro pins s σ H x y v u Q I rx ry h
  obtain ⟨a1, a2, b, t1, t2, rfl, rfl, h1, h2, hn, w1, w2, q⟩ := h
  obtain rfl : v = Value.ref a1 := rx
  obtain rfl : u = Value.ref a2 := ry
  obtain ⟨va, vb, ya, yb, da, db, t, e⟩ := tab_run I h1 h2 hn w1 w2
  exact PySem.W.eq_dictsT ya yb da db t (by omega) ⟨.bl (eqT t1 t2), H, I, by rw [e]; rfl, q⟩
open PySem.W in
theorem ne_dictsT {prog : Program} {w : World} {A : Around} {E : Value → Shared → Prop} {s : Shared} {K : Type} [DecidableEq K] {knd : KeyKind prog w K} {n : Nat} {a b : Addr} {ka kb : List (K × Value)} {e : K → Bool} {Q : Value → Shared → Prop} (ha : (a == sysModules) = false) (hb : (b == sysModules) = false)
    (da : s.heap.DictOf knd a ka) (db : s.heap.DictOf knd b kb) (t : ∀ k v y, (k, v) ∈ ka → valueAt kb k = some y → PySem.W.EqTree prog w s n v y (e k)) (hu : A.units + (n + 1) < cLine)
    (h : Q (.bool (!(ka.length == kb.length && ka.all fun p => (valueAt kb p.1).isSome && e p.1))) s) : wpAny (model prog w) A (compareOp .NotEq (.ref a) (.ref b)) Q E s := by
  have hits := KeqHitsIn.of (prog := prog) (w := w) (A := A.in1) (s := s) (kb := kb) (e := e) ka fun k v y hm hv => (t k v y hm hv).at A.in1 (by show A.units + 1 + _ < cLine; omega)
  refine wpAny_richCompare_same_room (op := .NotEq) da.typeIs db.typeIs PySem.F.slot_dict_ne (wpAny_call_entry PySem.F.slot_dict_ne da.typeIs PySem.F.entry_dict_ne ?_ (PySem.F.args_dict_ne_2 _ _)) (by omega)
  show wpAny _ _ (Builtin.Dict.dictSlotArgs "__ne__" ⟨[.ref a, .ref b], []⟩ >>= _) _ _ s
  refine wpAny_bind ?_
  unfold Builtin.Dict.dictSlotArgs
  refine wpAny_bind (wpAny_notOrdered_dict da.typeIs ?_)
  show wpAny _ _ (pure (Value.ref a, Value.ref b)) _ _ s
  refine wpAny_pure ?_
  refine wpAny_bind (wpAny_isInstance (T := "dict") db.typeIs PySem.F.sub_dict_dict ?_)
  simp only [Bool.not_true, Bool.false_eq_true, if_false]
  refine wpAny_bind (wpAny_pure (wpAny_bind (wpAny_pure ?_)))
  refine wpAny_bind (keq_samePairsIn ha hb da db (fun _ => hits) ?_)
  refine wpAny_pure ⟨_, rfl, ?_, ?_⟩
  · exact fun x => nomatch x
  · simpa using h
theorem op_neT (hu : X.A.units + 64 < cLine) : OpR X (compareOp .NotEq) rNeT := by
  intro pins s σ H x y v u Q I rx ry h
  obtain ⟨a1, a2, b, t1, t2, rfl, rfl, h1, h2, hn, w1, w2, q⟩ := h
  obtain rfl : v = Value.ref a1 := rx
  obtain rfl : u = Value.ref a2 := ry
  obtain ⟨va, vb, ya, yb, da, db, t, e⟩ := tab_run I h1 h2 hn w1 w2
  exact ne_dictsT ya yb da db t (by omega) ⟨.bl (!eqT t1 t2), H, I, by rw [e]; rfl, q⟩
end
end KC

set_option Elab.async false
set_option linter.all false
set_option maxRecDepth 100000
set_option maxHeartbeats 8000000
namespace KC
open PySem PySem.Spec PyProof.Rows L2 LF
open Evl (Ev EvL EvU EvT EvA Ex sq_of st_of)
open PySem.W (EachIs)
theorem TgA.frz {b e : Addr} {H : Hp} {v : V} {x : Tg} {o : Obj} {u w : HO} (h : TgA b H v x) (he : H e = some (.frz o u)) : TgA b (upd H e w) v x := by
  cases x with
  | inl i => exact h
  | inr p =>
    obtain ⟨q, e1, n, h1⟩ := h
    exact ⟨q, e1, n, by rw [upd_ne (fun z => by rw [z, he] at h1; cases h1)]; exact h1⟩
theorem RowA.frz {b e D : Addr} {H : Hp} {r : List (Str × Tg)} {o : Obj} {u w : HO} (h : RowA b H e r) (hD : H D = some (.frz o u)) : RowA b (upd H D w) e r := by
  obtain ⟨kvs, n, h1, h2⟩ := h
  exact ⟨kvs, n, by rw [upd_ne (fun z => by rw [z, hD] at h1; cases h1)]; exact h1, h2.mono fun kv x ⟨e, t⟩ => ⟨e, t.frz hD⟩⟩
theorem TabOk.w {t : List (Int × List (Str × Tg))} (h : TabOk t) : TabW t := fun x hx => by
  obtain ⟨h1, h2, h3⟩ := (h.2.2.2 x hx).2
  refine ⟨h1, fun y hy => ?_⟩
  have := (h3 y hy).2
  revert this
  cases y.2 with
  | inl i => exact fun _ => trivial
  | inr p => exact fun h => ⟨strOk_nm h.1, h.2.strOk⟩
/-- what it takes to be an instance of it -/
structure LayIs (K : PySem.W.Frag) (C : Addr) : Prop where
  ha : PySem.W.findIn K (.ref C) "__class__" = some (some (.builtin "object.__class__"))
  hn : PySem.W.specialIn K (.builtin "object.__class__") "__get__" = some (some (.builtin "getset_descriptor.__get__"))
  ht : PySem.W.takesIn K (.builtin "object.__class__") = some true
  hm : PySem.W.mroIn K C (.type "object") = some true
  kC : PySem.W.kitOne K (.ref C) (.ref C) = some true
def spTables (C : Addr) : Sp := fun vs H Q _ => ∃ (l b : Addr) (s : List (Int × List (Str × Tg))) (top : Int), vs = [.ref l] ∧ LayA C b H l s top ∧ (∃ o, H b = some o) ∧ (s.map (·.1)).Nodup ∧ s.length ≤ 6 ∧ ∀ H' t, Ex H H' → H t = none → TabA b H' t s → FreshR H H' t → Q (.ref t) H'
def spTop (C : Addr) : Sp := fun vs H Q _ => ∃ (l b : Addr) (s : List (Int × List (Str × Tg))) (top : Int), vs = [.ref l] ∧ LayA C b H l s top ∧ Q (.int top) H
def spEq (C : Addr) : Sp := fun vs H Q _ => ∃ (l m b : Addr) (s s2 : List (Int × List (Str × Tg))) (top top2 : Int), vs = [.ref l, .ref m] ∧ LayA C b H l s top ∧ LayA C b H m s2 top2 ∧ TabOk s ∧ TabOk s2 ∧ Q (.bl (decide (top = top2) && eqT s s2)) H
abbrev s_tables : Stmt := inClass s_Layout 1
abbrev N_tables : List Str := ["self", "joint"]
theorem sc_tables : FnScope ["self", "joint"] ["self"] (defScope s_tables) := ⟨rfl, rfl, rfl, by decide +kernel, rfl, by decide +kernel, by decide +kernel⟩
abbrev s_top : Stmt := inClass s_Layout 2
abbrev N_top : List Str := ["self"]
theorem sc_top : FnScope ["self"] ["self"] (defScope s_top) := ⟨rfl, rfl, rfl, by decide +kernel, rfl, by decide +kernel, by decide +kernel⟩
abbrev s_eq : Stmt := inClass s_Layout 7
abbrev N_eq : List Str := ["self", "other"]
theorem sc_eq : FnScope ["self", "other"] ["self", "other"] (defScope s_eq) := ⟨rfl, rfl, rfl, by decide +kernel, rfl, by decide +kernel, by decide +kernel⟩
section
variable {P : Program} {w : World} {K : PySem.W.Frag} {mg : Str → Option Value} {base : Heap} {tk1 tk2 : Tok}
theorem ok_top {f C : Addr} {fd : FuncData} (F : Fun K "top" "Layout.top" s_top f fd) (R : LayTxt K mg C) : FnOk P w K mg base CX0 1 f fd ["self"] (spTop C) := by
  refine F.ok sc_top (fun vs H Q E h => ?_) (fun cdv A outer s H vs Q E hr h => ?_)
  · obtain ⟨l, b, s, top, rfl, _⟩ := h
    rfl
  refine ⟨_, pss_one (ps_ret (pe_fld (pv 0) rfl)), ?_⟩
  obtain ⟨l, b, s, top, rfl, ⟨dx, Rr, nlb, hl, _⟩, hq⟩ := h
  exact ⟨_, rfl, l, C, dx, _, _, rfl, hl, R.cl, R.nP, lk_peak, hq⟩
theorem ok_eq {f C : Addr} {fd : FuncData} (F : Fun K "__eq__" "Layout.__eq__" s_eq f fd) (T : Txt K mg tk1 tk2) (R : LayTxt K mg C) (I : LayIs K C) : FnOk P w K mg base CX0 1 f fd ["self", "other"] (spEq C) := by
  refine F.ok sc_eq (fun vs H Q E h => ?_) (fun cdv A outer s H vs Q E hr h => ?_)
  · obtain ⟨l, m, b, s, s2, top, top2, rfl, _⟩ := h
    rfl
  have hu := hr.units
  refine ⟨_, pss_one (ps_ret (pe_and (pe_callB call_isi (by rfl) T.n_isinstance (by decide +kernel) (pa_cons (pv 1) (pa_cons (pe_glob (v := .ref C) rfl R.gC rfl) pa_nil))) (pe_and (pe_cmpR op_eq (pe_fld (pv 0) rfl) (pe_fld (pv 1) rfl) (nomark _)) (pe_one (pe_cmpR (op_eqT hu) (pe_fld (pv 0) rfl) (pe_fld (pv 1) rfl) (nomark _)))))), ?_⟩
  obtain ⟨l, m, b, s, s2, top, top2, rfl, ⟨dx, R1, nlb, hl, ht1⟩, ⟨dy, R2, nmb, hm, ht2⟩, ok1, ok2, hq⟩ := h
  refine ⟨_, rfl, _, .ref C, _, _, true, rfl, .own C, .base (.ins hm R.cl I.ha I.hn I.ht I.hm), I.kC, ?_⟩
  refine ⟨true, rfl, iteT ?_⟩
  refine ⟨_, rfl, l, C, dx, _, _, rfl, hl, R.cl, R.nP, lk_peak, _, rfl, m, C, dy, _, _, rfl, hm, R.cl, R.nP, lk_peak, rfl, _, rfl, ?_⟩
  by_cases h : top = top2
  · have e1 : decide (V.int top = V.int top2) = true := decide_eq_true (by rw [h])
    rw [e1]
    rw [show decide (top = top2) = true from decide_eq_true h, Bool.true_and] at hq
    exact iteT ⟨_, rfl, l, C, dx, _, _, rfl, hl, R.cl, R.nR, lk_rows, _, rfl, m, C, dy, _, _, rfl, hm, R.cl, R.nR, lk_rows, R1, R2, b, s, s2, rfl, rfl, ht1, ht2, ok1.1, ok1.w, ok2.w, hq⟩
  · have e1 : decide (V.int top = V.int top2) = false := decide_eq_false fun e => h (V.int.inj e)
    rw [e1]
    rw [show decide (top = top2) = false from decide_eq_false h, Bool.false_and] at hq
    exact iteF hq
theorem ok_tables {f C : Addr} {fd : FuncData} (F : Fun K "tables" "Layout.tables" s_tables f fd) (T : Txt K mg tk1 tk2) (R : LayTxt K mg C) : FnOk P w K mg base CX0 1 f fd ["self"] (spTables C) := by
  refine F.ok sc_tables (fun vs H Q E h => ?_) (fun cdv A outer s H vs Q E hr h => ?_)
  · obtain ⟨l, b, s, top, rfl, _⟩ := h
    rfl
  have hu1 := hu_of hr
  refine ⟨_, pss_one (ps_ret (pe_lock (pe_dc (own := [("joint", 1)]) (tv := tCB (fun xs H Q => ∃ (a : Addr) (kvs : List (Key × V)), xs = [.ref a] ∧ Rd H a (.dK kvs) ∧ ∀ p, H p = none → Q (.ref p) (upd H p (.dK kvs))) (tCons (tDGet (tFld K (tVar 0) "rows") (tVar 1)) tNil)) rfl sc_tables.nd (pi_keys (pe_fld (pv 0) rfl)) (blkOk_by (N := N_tables) (sc := defScope s_tables) (by decide +kernel)) (fun _ _ _ _ _ => pg_name (i := 1) sc_tables.nd rfl (Or.inl rfl)) (fun _ _ _ _ _ => pts_nil) (fun _ _ _ _ _ => (pv 1)) (fun _ _ _ _ _ => (pe_callTy call_dictD (by rfl) T.n_dict (by decide +kernel) (pa_cons (pe_dget hu1 (pe_fld (pv 0) rfl) (pv 1) (fun _ _ => rfl)) pa_nil)))))), ?_⟩
  obtain ⟨l, b, s, top, rfl, ⟨dx, Rr, nlb, hl, kvs, nRb, hR, heach, _⟩, ⟨ob, hlb⟩, hnd, hs6, hq⟩ := h
  have hkn : (kvs.map (·.1)).Nodup := by
    have : kvs.map (·.1) = (s.map (·.1)).map Sum.inl := by
      rw [List.map_map]
      exact each_map (fun a c h => h.1) heach
    rw [this]; exact nodup_map_inl hnd
  refine ⟨Rr, .dK kvs, hR, trivial, fun od => ?_⟩
  have nlR : l ≠ Rr := fun z => by rw [z, hR] at hl; cases hl
  have nbR : b ≠ Rr := nRb.symm
  have hlL : (upd H Rr (.frz od (.dK kvs))) l = some (.ins C dx (layFs Rr top)) := by rw [upd_ne nlR]; exact hl
  have hbL : (upd H Rr (.frz od (.dK kvs))) b = some ob := by rw [upd_ne nbR]; exact hlb
  have hRL : (upd H Rr (.frz od (.dK kvs))) Rr = some (.frz od (.dK kvs)) := upd_same
  have oldL : ∀ a o, a ≠ Rr → H a = some o → (upd H Rr (.frz od (.dK kvs))) a = some o := fun a o n h => by rw [upd_ne n]; exact h
  have unl : ∀ {H'}, Ex (upd H Rr (.frz od (.dK kvs))) H' → Ex H (upd H' Rr (.dK kvs)) := fun e => ex_unlock hR e
  generalize upd H Rr (.frz od (.dK kvs)) = L at *
  refine ⟨_, rfl, l, C, dx, _, _, rfl, hlL, R.cl, R.nR, lk_rows, Rr, od, rfl, Or.inl ⟨kvs, hRL, fun D hD => ?_⟩⟩
  have nDb : D ≠ b := fun z => by rw [z, hbL] at hD; cases hD
  have nDR : D ≠ Rr := fun z => by rw [z, hRL] at hD; cases hD
  refine dc_it walk_keys (fun n H' => Ex L H' ∧ ∃ M : List (Int × Addr × List (Str × Tg)), H' D = some (.dK (M.map fun l => ((Sum.inl l.1 : Key), V.ref l.2.1))) ∧ M.map (fun l => (l.1, l.2.2)) = s.take n ∧ (M.map (·.2.1)).Nodup ∧ ∀ l ∈ M, RowA b H' l.2.1 l.2.2 ∧ l.2.1 ≠ D ∧ H l.2.1 = none)
    ⟨Ex.new hD, [], upd_same, rfl, .nil, fun _ h => nomatch h⟩ (fun n H' _ h => h.1 _ _ hRL) ?_ ?_
  · rintro n x H3' H3 hn ⟨e3, M, hd, hM, hMn, hMr⟩ ⟨rfl, kk, vv, hkv, rfl⟩
    obtain ⟨y, hyn, hk1, e, hve, neR, ekvs, neb, he, hrow⟩ := each_get heach hkv
    cases (show kk = Sum.inl y.1 from hk1)
    have hve' : vv = .ref e := hve
    subst hve'
    have hv : valV kvs (.inl y.1) = some (.ref e) := val_of hkn (List.mem_of_getElem? hkv)
    have dg : DGet H3 Rr (kV (.inl y.1)) (valV kvs (.inl y.1)) := Or.inl ⟨kvs, .inl y.1, Or.inr ⟨od, e3 _ _ hRL⟩, rfl, rfl⟩
    rw [hv] at dg
    have he3 := e3 _ _ (oldL _ _ neR he)
    refine ⟨wipe_set, ?_⟩
    refine ⟨_, rfl, _, rfl, l, C, dx, _, _, rfl, e3 _ _ hlL, R.cl, R.nR, lk_rows, _, rfl, Rr, _, rfl, dg, e, ekvs, rfl, Rd.of he3, fun p hp => ?_⟩
    have npD : p ≠ D := fun z => by rw [z, hd] at hp; cases hp
    have npb : p ≠ b := fun z => by rw [z, e3 _ _ hbL] at hp; cases hp
    have hpH : H p = none := by
      cases hh : H p with
      | none => rfl
      | some o =>
        have npR : p ≠ Rr := fun z => by rw [z, e3 _ _ hRL] at hp; cases hp
        rw [e3 _ _ (oldL _ _ npR hh)] at hp; cases hp
    have x4 : Ex H3 (upd H3 p (.dK ekvs)) := Ex.new hp
    have hp4 : (upd H3 p (.dK ekvs)) p = some (.dK ekvs) := upd_same
    have hd4 := x4 _ _ hd
    have hrow4 : RowA b (upd H3 p (.dK ekvs)) p y.2 := ⟨ekvs, npb, hp4, hrow.mono fun kv x ⟨e1, t1⟩ => ⟨e1, t1.lock (u := kvs) hR fun a o n h => x4 _ _ (e3 _ _ (oldL _ _ n h))⟩⟩
    generalize upd H3 p (.dK ekvs) = H4 at *
    have hMl : M.length ≤ 6 := by
      have := congrArg List.length hM
      rw [List.length_map, List.length_take] at this; omega
    have hnew : valV (M.map fun l => ((Sum.inl l.1 : Key), V.ref l.2.1)) (Sum.inl y.1) = none := by
      cases hv' : valV (M.map fun l => ((Sum.inl l.1 : Key), V.ref l.2.1)) (Sum.inl y.1) with
      | none => rfl
      | some u =>
        obtain ⟨l', hl', el⟩ := List.mem_map.mp (val_mem hv')
        have e1 : l'.1 = y.1 := Sum.inl.inj (congrArg Prod.fst el)
        have h1 : y.1 ∈ (s.map (·.1)).take n := by
          rw [← List.map_take, ← hM, List.map_map, ← e1]
          exact List.mem_map.mpr ⟨l', hl', rfl⟩
        exact absurd h1 (not_mem_take hnd (by rw [List.getElem?_map, hyn]; rfl))
    refine ⟨_, .inl y.1, rfl, hd4, Evl.sz_lt (by rw [List.length_map]; omega), Ex.mut (e3.trans x4) hD, M ++ [(y.1, p, y.2)], ?_, ?_, ?_, fun l' hl' => ?_⟩
    · rw [upd_same, putK_new _ hnew, List.map_append]; rfl
    · rw [List.map_append, hM, List.take_add_one, hyn]; rfl
    · rw [List.map_append, List.nodup_append]
      refine ⟨hMn, by simp, fun a ha b' hb' => ?_⟩
      obtain ⟨l', hl', rfl⟩ := List.mem_map.mp ha
      rw [List.map_cons, List.map_nil, List.mem_singleton] at hb'
      rw [hb']
      intro z
      obtain ⟨⟨_, _, h, _⟩, _⟩ := hMr l' hl'
      have z' : l'.2.1 = p := z
      rw [z', hp] at h; cases h
    · rcases List.mem_append.mp hl' with hl' | hl'
      · obtain ⟨a1, a2, a3⟩ := hMr l' hl'
        exact ⟨(a1.dt (KeepDT.of fun a o _ h => x4 _ _ h)).put a2 hd4, a2, a3⟩
      · rw [List.mem_singleton.mp hl']
        exact ⟨hrow4.put npD hd4, npD, hpH⟩
  · rintro H3 ⟨e3, M, hd, hM, hMn, hMr⟩
    rw [heach.length, List.take_length] at hM
    have hR3 := e3 _ _ hRL
    refine ⟨hR3, hq _ D (unl e3) ?_ ⟨_, nDb, by rw [upd_ne nDR]; exact hd, ?_, ?_⟩ ?_⟩
    · cases hh : H D with
      | none => rfl
      | some o => rw [oldL _ _ nDR hh] at hD; cases hD
    · rw [← hM]
      exact each_maps fun l' hl' => ⟨rfl, l'.2.1, rfl, (hMr l' hl').2.1, (hMr l' hl').1.frz hR3⟩
    · rw [List.map_map]
      have : M.map ((fun kv : Key × V => kv.2) ∘ fun l => ((Sum.inl l.1 : Key), V.ref l.2.1)) = (M.map (·.2.1)).map V.ref := by rw [List.map_map]; rfl
      rw [this]
      exact nodup_map_ref hMn
    · intro kvs' hk' kv hkv a ea
      rw [upd_ne nDR, hd] at hk'
      cases hk'
      obtain ⟨l', hl', rfl⟩ := List.mem_map.mp hkv
      rw [← V.ref.inj ea]
      exact (hMr l' hl').2.2
end
/-- a call of the class -/
theorem lay_new {C b t : Addr} {H : Hp} {tabs : List (Int × List (Str × Tg))} {top : Int} {Q : VK} {E : XK} (hta : TabA b H t tabs) (hok : TabOk tabs) (htop : top ∈ tabs.map (·.1)) (hlb : ∃ o, H b = some o)
    (q : ∀ H' l s, Ex H H' → H l = none → SrtT tabs s → LayA C b H' l s top → Q (.ref l) H') : ∀ x dx, H x = none → H dx = none → dx ≠ x → spInit C [.ref x, .ref t, .int top] (upd (upd H dx (.own x)) x (.ins C dx [])) (fun v H2 => v = .non ∧ Q (.ref x) H2) E := fun x dx hx hdx hne => by
  obtain ⟨ob, hb⟩ := hlb
  have e1 : Ex H (upd (upd H dx (.own x)) x (.ins C dx [])) := (Ex.new hdx).trans (Ex.new (by rw [upd_ne hne.symm]; exact hx))
  have nxb : x ≠ b := fun z => by rw [z, hb] at hx; cases hx
  refine ⟨x, dx, t, b, tabs, top, rfl, upd_same, ⟨ob, e1 _ _ hb⟩, nxb, hta.dt (KeepDT.of fun a o _ h => e1 _ _ h), hok, htop, fun H' R s k hR hs hta' _ hx' => ⟨rfl, q H' x s (fun a o h => ?_) hx hs ⟨dx, R, nxb, hx', hta'⟩⟩⟩
  have nax : a ≠ x := fun z => by rw [z, hx] at h; cases h
  exact k _ _ nax (e1 _ _ h)
end KC

set_option Elab.async false
set_option linter.all false
set_option maxRecDepth 100000
set_option maxHeartbeats 8000000
namespace KC
open PySem PySem.Spec PyProof.Rows L2 LF
open PySem.W (EachIs)
abbrev Row := List (Str × Tg)
abbrev Tabs := List (Int × Row)
/-! what is reached -/
theorem addNew_pre : ∀ (is W : List Int), ∃ X, addNew W is = W ++ X
  | [], W => ⟨[], by simp [addNew]⟩
  | i :: is, W => by
    obtain ⟨X, hX⟩ := addNew_pre is (addOne W i)
    show ∃ X, addNew (addOne W i) is = W ++ X
    rw [hX]
    unfold addOne
    split
    · exact ⟨X, rfl⟩
    · exact ⟨i :: X, by rw [List.append_assoc]; rfl⟩
theorem run_facts {s : Tabs} {js : List Int} (hs : ∀ j ∈ js, ∀ i ∈ tgsI (rowOf s j), i ∈ js) (hl : js.length ≤ 6) : ∀ (n : Nat) (W : List Int) (i : Nat), W.Nodup → (∀ a ∈ W, a ∈ js) → i ≤ W.length → 7 ≤ n + i → (∀ k < i, ∀ j, W[k]? = some j → ∀ a ∈ tgsI (rowOf s j), a ∈ W) →
    (run s n W i).Nodup ∧ (∀ a ∈ run s n W i, a ∈ js) ∧ (∃ X, run s n W i = W ++ X) ∧ ∀ j ∈ run s n W i, ∀ a ∈ tgsI (rowOf s j), a ∈ run s n W i := by
  intro n
  induction n with
  | zero =>
    intro W i h1 h2 h3 h4 h5
    have := nodup_le h1 h2
    omega
  | succ n ih =>
    intro W i h1 h2 h3 h4 h5
    cases hj : W[i]? with
    | none =>
      have e : run s (n + 1) W i = W := run_end (by rw [List.getElem?_eq_none_iff] at hj; exact hj)
      rw [e]
      refine ⟨h1, h2, ⟨[], by simp⟩, fun j hm a ha => ?_⟩
      obtain ⟨k, hk⟩ := List.mem_iff_getElem?.mp hm
      have hki : k < i := by
        have h6 : k < W.length := by
          rcases Nat.lt_or_ge k W.length with h | h
          · exact h
          · rw [List.getElem?_eq_none h] at hk; cases hk
        rw [List.getElem?_eq_none_iff] at hj
        omega
      exact h5 k hki j hk a ha
    | some j =>
      rw [run_step hj]
      have hjm := h2 _ (List.mem_of_getElem? hj)
      obtain ⟨X, hX⟩ := addNew_pre (tgsI (rowOf s j)) W
      have hlen : i < W.length := by
        rcases Nat.lt_or_ge i W.length with h | h
        · exact h
        · rw [List.getElem?_eq_none h] at hj; cases hj
      obtain ⟨a1, a2, ⟨Y, a3⟩, a4⟩ := ih (addNew W (tgsI (rowOf s j))) (i + 1) (addNew_nodup h1 _) (fun a ha => by
        rcases mem_addNew.mp ha with h | h
        · exact h2 a h
        · exact hs j hjm a h) (by rw [hX, List.length_append]; omega) (by omega) (fun k hk j' hj' a ha => by
        have hk' : W[k]? = some j' := by
          rw [hX, List.getElem?_append_left (by omega)] at hj'; exact hj'
        rcases Nat.lt_or_ge k i with h | h
        · exact mem_addNew.mpr (Or.inl (h5 k h j' hk' a ha))
        · have e : k = i := by omega
          rw [e, hj] at hk'
          cases hk'
          exact mem_addNew.mpr (Or.inr ha))
      exact ⟨a1, a2, ⟨X ++ Y, by rw [a3, hX, List.append_assoc]⟩, a4⟩
theorem tgs_in {s : Tabs} (h : TabOk s) : ∀ j ∈ s.map (·.1), ∀ i ∈ tgsI (rowOf s j), i ∈ s.map (·.1) := fun j hj i hi => by
  obtain ⟨x, hx, rfl⟩ := List.mem_map.mp hj
  rw [rowOf_mem h.1 hx] at hi
  exact mem_tgsI (h.2.2.2 x hx).2 i hi
theorem bfs_facts {s : Tabs} {top : Int} (h : TabOk s) (ht : top ∈ s.map (·.1)) : (bfs s top).Nodup ∧ (∀ a ∈ bfs s top, a ∈ s.map (·.1)) ∧ (∃ X, bfs s top = top :: X) ∧ ∀ j ∈ bfs s top, ∀ a ∈ tgsI (rowOf s j), a ∈ bfs s top :=
  run_facts (tgs_in h) (by rw [List.length_map]; exact h.2.2.1) 10 [top] 0 (by simp) (fun a ha => by rw [List.mem_singleton.mp ha]; exact ht) (Nat.zero_le _) (by decide) (fun k hk => absurd hk (Nat.not_lt_zero _))
theorem mem_take_lt {α : Type} {l : List α} {k i : Nat} {a : α} (h : k < i) (hk : l[k]? = some a) : a ∈ l.take i :=
  List.mem_iff_getElem?.mpr ⟨k, by rw [List.getElem?_take_of_lt h]; exact hk⟩
theorem nodup_map' {α β : Type} {f : α → β} (hf : ∀ a b, f a = f b → a = b) : ∀ {l : List α}, l.Nodup → (l.map f).Nodup
  | [], _ => .nil
  | a :: l, h => by
    rw [List.nodup_cons] at h
    refine List.nodup_cons.mpr ⟨fun m => ?_, nodup_map' hf h.2⟩
    obtain ⟨x, hx, e⟩ := List.mem_map.mp m
    exact h.1 (by rw [← hf _ _ e]; exact hx)
/-! numbers anew -/
def num (F : List Int) (j : Int) : Int := (F.findIdx fun i => decide (i = j) : Nat)
def renT (F : List Int) : Tg → Tg
  | .inl i => .inl (num F i)
  | .inr p => .inr p
def renR (F : List Int) (r : Row) : Row := r.map fun y => (y.1, renT F y.2)
def ren (s : Tabs) (F : List Int) : Tabs := F.map fun j => (num F j, renR F (rowOf s j))
theorem num_at : ∀ {F : List Int} {i : Nat} {j : Int}, F.Nodup → F[i]? = some j → num F j = (i : Int)
  | [], i, j, _, h => by simp at h
  | a :: F, 0, j, _, h => by
    have : a = j := Option.some.inj h
    unfold num
    rw [List.findIdx_cons]
    simp [this]
  | a :: F, i + 1, j, hn, h => by
    rw [List.nodup_cons] at hn
    have h' : F[i]? = some j := h
    have ne : ¬ a = j := fun e => hn.1 (by rw [e]; exact List.mem_of_getElem? h')
    have ih := num_at hn.2 h'
    unfold num at ih ⊢
    rw [List.findIdx_cons]
    simp only [decide_eq_false ne, cond_false]
    push_cast
    omega
theorem num_lt {F : List Int} {j : Int} (h : j ∈ F) : 0 ≤ num F j ∧ num F j < F.length := by
  unfold num
  have := List.findIdx_lt_length_of_exists (xs := F) (p := fun i => decide (i = j)) ⟨j, h, by simp⟩
  omega
theorem num_inj {F : List Int} {i j : Int} (hn : F.Nodup) (hi : i ∈ F) (hj : j ∈ F) (h : num F i = num F j) : i = j := by
  obtain ⟨a, ha⟩ := List.mem_iff_getElem?.mp hi
  obtain ⟨b, hb⟩ := List.mem_iff_getElem?.mp hj
  rw [num_at hn ha, num_at hn hb] at h
  have : a = b := by omega
  rw [this, hb] at ha
  exact (Option.some.inj ha).symm
theorem renR_names {F : List Int} {r : Row} : (renR F r).map (·.1) = r.map (·.1) := by
  unfold renR; rw [List.map_map]; rfl
theorem ren_keys {s : Tabs} {F : List Int} (hn : F.Nodup) : (ren s F).map (·.1) = (List.range F.length).map fun i : Nat => (i : Int) := by
  unfold ren
  rw [List.map_map]
  refine List.ext_getElem (by simp) fun i h1 h2 => ?_
  simp only [List.length_map] at h1
  simp only [List.getElem_map, Function.comp, List.getElem_range]
  exact num_at hn (List.getElem?_eq_getElem h1)
theorem mem_keys {s : Tabs} {F : List Int} {j : Int} (h : j ∈ F) : num F j ∈ (ren s F).map (·.1) := by
  unfold ren
  rw [List.map_map]
  exact List.mem_map.mpr ⟨j, h, rfl⟩
theorem rowOf_ok {s : Tabs} (h : TabOk s) {j : Int} (hj : j ∈ s.map (·.1)) : RowOk (s.map (·.1)) (rowOf s j) := by
  obtain ⟨x, hx, rfl⟩ := List.mem_map.mp hj
  rw [rowOf_mem h.1 hx]
  exact (h.2.2.2 x hx).2
theorem mem_tgs {r : Row} {y : Str × Tg} {i : Int} (hy : y ∈ r) (h : y.2 = .inl i) : i ∈ tgsI r := List.mem_filterMap.mpr ⟨y, hy, by rw [h]; rfl⟩
theorem ren_ok {s : Tabs} {F : List Int} (h : TabOk s) (hn : F.Nodup) (hF : ∀ a ∈ F, a ∈ s.map (·.1)) (h1 : 1 ≤ F.length) (hc : ∀ j ∈ F, ∀ a ∈ tgsI (rowOf s j), a ∈ F) : TabOk (ren s F) := by
  have h6 : F.length ≤ 6 := by
    have := nodup_le hn hF
    rw [List.length_map] at this
    exact Nat.le_trans this h.2.2.1
  have hlen : (ren s F).length = F.length := by unfold ren; rw [List.length_map]
  refine ⟨?_, by omega, by omega, fun x hx => ?_⟩
  · rw [ren_keys hn]
    exact nodup_map' (fun a b e => by exact_mod_cast e) List.nodup_range
  · obtain ⟨j, hj, rfl⟩ := List.mem_map.mp (show x ∈ F.map _ from hx)
    have hnl := num_lt hj
    have hro := rowOf_ok h (hF j hj)
    refine ⟨⟨hnl.1, by show num F j < 100; omega⟩, by rw [renR_names]; exact hro.1, by unfold renR; rw [List.length_map]; exact hro.2.1, fun y hy => ?_⟩
    obtain ⟨y', hy', rfl⟩ := List.mem_map.mp (show y ∈ (rowOf s j).map _ from hy)
    have := hro.2.2 y' hy'
    refine ⟨this.1, ?_⟩
    cases ht : y'.2 with
    | inl i =>
      exact mem_keys (hc j hj i (mem_tgs hy' ht))
    | inr p =>
      have h2 := this.2
      rw [ht] at h2
      exact h2
/-! sorted tables -/
def LayS (s : Tabs) : Prop := (s.map (·.1)).Pairwise (· ≤ ·) ∧ ∀ x ∈ s, sortedS (x.2.map (·.1)) = true
theorem SrtT.lay {t s : Tabs} (h : SrtT t s) : LayS s := ⟨h.2.1, fun x hx => by
  obtain ⟨y, _, _, h1⟩ := h.2.2 x hx
  exact h1.2⟩
theorem row_one {r1 r2 : Row} (hp : r1.Perm r2) (h1 : sortedS (r1.map (·.1)) = true) (h2 : sortedS (r2.map (·.1)) = true) (hn : (r2.map (·.1)).Nodup) : r1 = r2 := by
  have e := sorted_one h1 h2 (hp.map _)
  refine List.ext_getElem (by rw [hp.length_eq]) fun i hi1 hi2 => ?_
  have hm : r1[i] ∈ r2 := hp.mem_iff.mp (List.getElem_mem hi1)
  obtain ⟨k, hk, ek⟩ := List.mem_iff_getElem.mp hm
  have e1 : (r1.map (·.1))[i]'(by rw [List.length_map]; exact hi1) = (r2.map (·.1))[i]'(by rw [List.length_map]; exact hi2) := by simp only [e]
  rw [List.getElem_map, List.getElem_map] at e1
  have e2 : k = i := by
    have h3 : (r2.map (·.1))[k]? = some r1[i].1 := by rw [List.getElem?_map, List.getElem?_eq_getElem hk, ek]; rfl
    have h4 : (r2.map (·.1))[i]? = some r1[i].1 := by rw [List.getElem?_map, List.getElem?_eq_getElem hi2, e1]; rfl
    have hk' : k < (r2.map (·.1)).length := by rw [List.length_map]; exact hk
    have hi' : i < (r2.map (·.1)).length := by rw [List.length_map]; exact hi2
    rcases Nat.lt_trichotomy k i with h | h | h
    · exact absurd (mem_take_lt h h3) (not_mem_take hn h4)
    · exact h
    · exact absurd (mem_take_lt h h4) (not_mem_take hn h3)
  subst e2
  exact ek.symm
theorem tab_one {s t : Tabs} (hk : s.map (·.1) = t.map (·.1)) (hn : (t.map (·.1)).Nodup) (hm : ∀ x ∈ s, x ∈ t) : s = t := by
  refine List.ext_getElem (by have := congrArg List.length hk; simpa using this) fun i h1 h2 => ?_
  have hx := hm _ (List.getElem_mem h1)
  have e1 : (s.map (·.1))[i]'(by rw [List.length_map]; exact h1) = (t.map (·.1))[i]'(by rw [List.length_map]; exact h2) := by simp only [hk]
  rw [List.getElem_map, List.getElem_map] at e1
  have r1 := rowOf_mem hn hx
  have r2 := rowOf_mem hn (List.getElem_mem h2)
  rw [e1, r2] at r1
  exact Prod.ext e1 r1.symm
theorem srt_same {t s : Tabs} (h : SrtT t s) (hl : LayS t) (ho : TabOk t) : s = t := by
  have hk : s.map (·.1) = t.map (·.1) := List.Perm.eq_of_pairwise (le := (· ≤ ·)) (fun a b _ _ h1 h2 => Int.le_antisymm h1 h2) h.2.1 hl.1 h.1
  refine tab_one hk ho.1 fun x hx => ?_
  obtain ⟨y, hy, e, hs⟩ := h.2.2 x hx
  have : x.2 = y.2 := row_one hs.1 hs.2 (hl.2 y hy) (ho.2.2.2 y hy).2.1
  rw [show x = y from Prod.ext e.symm this]; exact hy
theorem srt_ok {t s : Tabs} (h : SrtT t s) (ho : TabOk t) : TabOk s := by
  have hl : s.length = t.length := by have := h.1.length_eq; simpa using this
  refine ⟨h.1.symm.nodup ho.1, by rw [hl]; exact ho.2.1, by rw [hl]; exact ho.2.2.1, fun x hx => ?_⟩
  obtain ⟨y, hy, e, hs⟩ := h.2.2 x hx
  obtain ⟨b1, b2, b3, b4⟩ := ho.2.2.2 y hy
  refine ⟨by rw [← e]; exact b1, (hs.1.map (·.1)).symm.nodup b2, by rw [hs.1.length_eq]; exact b3, fun z hz => ?_⟩
  obtain ⟨c1, c2⟩ := b4 z (hs.1.mem_iff.mp hz)
  refine ⟨c1, ?_⟩
  cases hz2 : z.2 with
  | inl i => rw [hz2] at c2; exact h.1.mem_iff.mpr c2
  | inr p => rw [hz2] at c2; exact c2
theorem ren_lay {s : Tabs} {F : List Int} (hs : LayS s) (hn : F.Nodup) (hns : (s.map (·.1)).Nodup) (hF : ∀ a ∈ F, a ∈ s.map (·.1)) : LayS (ren s F) := by
  refine ⟨?_, fun x hx => ?_⟩
  · rw [ren_keys hn, List.pairwise_map]
    exact List.pairwise_le_range.imp fun h => by exact_mod_cast h
  · obtain ⟨j, hj, rfl⟩ := List.mem_map.mp (show x ∈ F.map _ from hx)
    obtain ⟨y, hy, rfl⟩ := List.mem_map.mp (hF j hj)
    show sortedS ((renR F (rowOf s y.1)).map (·.1)) = true
    rw [renR_names, rowOf_mem hns hy]
    exact hs.2 y hy
end KC

set_option Elab.async false
set_option linter.all false
set_option maxRecDepth 100000
set_option maxHeartbeats 8000000
namespace KC
open PySem PySem.Spec PyProof.Rows L2 LF
open Evl (Ev EvL EvU EvT EvA Ex sq_of st_of)
open PySem.W (EachIs)
def spSeen (C : Addr) : Sp := fun vs H Q _ => ∃ (l b : Addr) (s : Tabs) (top : Int), vs = [.ref l] ∧ LayA C b H l s top ∧ TabOk s ∧ top ∈ s.map (·.1) ∧ ∀ H' p (ys : List Int), Ex H H' → H p = none → H' p = some (.lst (ys.map V.int)) → ys.Perm (bfs s top) → ys.Pairwise (· ≤ ·) → Q (.ref p) H'
def spLen (C : Addr) : Sp := fun vs H Q _ => ∃ (l b : Addr) (s : Tabs) (top : Int), vs = [.ref l] ∧ LayA C b H l s top ∧ Q (.int s.length) H
def cntS (s : Tabs) : Nat := (s.map fun x => x.2.length).sum
def numT (n : Nat) : Str := Str.ofString (toString (n : Int))
def reprS (s : Tabs) : Str := Str.empty ++ "Layout(" ++ numT s.length ++ " joints, " ++ numT (cntS s) ++ " links)"
theorem log_len {n : Nat} (h : n ≤ 1000) : ((n : Int).natAbs).log2 < 1920 := by
  have e : (n : Int).natAbs = n := rfl
  rw [e]
  by_cases h0 : n = 0
  · rw [h0]; decide
  · have := (Nat.log2_lt (n := n) (k := 11) h0).mpr (by omega)
    omega
theorem num_len {n : Nat} (h : n ≤ 1000) : (numT n).length ≤ 13 := by
  have := int_text_length_le10 (a := (n : Int)) (k := 10) (by decide) (by show n < 10 ^ 10; omega)
  unfold numT
  rw [PySem.ofString_length]; omega
theorem sum_le : ∀ {l : List Nat} {k : Nat}, (∀ x ∈ l, x ≤ k) → l.sum ≤ l.length * k
  | [], k, _ => by simp
  | x :: l, k, h => by
    have h1 := h x List.mem_cons_self
    have h2 := sum_le (l := l) (k := k) fun y hy => h y (List.mem_cons_of_mem _ hy)
    rw [List.sum_cons, List.length_cons, Nat.succ_mul]; omega
theorem cnt_le {s : Tabs} (h : TabOk s) : cntS s ≤ 60 := by
  unfold cntS
  have h1 := sum_le (l := s.map fun x => x.2.length) (k := 10) fun n hn => by
    obtain ⟨x, hx, rfl⟩ := List.mem_map.mp hn
    exact (h.2.2.2 x hx).2.2.1
  rw [List.length_map] at h1
  have := h.2.2.1; omega
theorem sum_int : ∀ l : List Nat, (l.map fun n : Nat => (n : Int)).sum = ((l.sum : Nat) : Int)
  | [] => rfl
  | x :: l => by rw [List.map_cons, List.sum_cons, List.sum_cons, sum_int l]; push_cast; rfl
abbrev s_seen : Stmt := inClass s_Layout 3
abbrev N_seen : List Str := ["self"]
theorem sc_seen : FnScope ["self"] ["self"] (defScope s_seen) := ⟨rfl, rfl, rfl, by decide +kernel, rfl, by decide +kernel, by decide +kernel⟩
abbrev s_len : Stmt := inClass s_Layout 6
abbrev N_len : List Str := ["self"]
theorem sc_len : FnScope ["self"] ["self"] (defScope s_len) := ⟨rfl, rfl, rfl, by decide +kernel, rfl, by decide +kernel, by decide +kernel⟩
def spRepr (C : Addr) : Sp := fun vs H Q _ => ∃ (l b : Addr) (s : Tabs) (top : Int), vs = [.ref l] ∧ LayA C b H l s top ∧ TabOk s ∧ ∀ H', Ex H H' → Q (.str (reprS s)) H'
abbrev s_repr : Stmt := inClass s_Layout 8
abbrev N_repr : List Str := ["self", "joint"]
theorem sc_repr : FnScope ["self", "joint"] ["self"] (defScope s_repr) := ⟨rfl, rfl, rfl, by decide +kernel, rfl, by decide +kernel, by decide +kernel⟩
section
variable {P : Program} {w : World} {K : PySem.W.Frag} {mg : Str → Option Value} {base : Heap} {tk1 tk2 : Tok}
theorem ok_len {f C : Addr} {fd : FuncData} (F : Fun K "__len__" "Layout.__len__" s_len f fd) (T : Txt K mg tk1 tk2) (R : LayTxt K mg C) : FnOk P w K mg base CX0 1 f fd ["self"] (spLen C) := by
  refine F.ok sc_len (fun vs H Q E h => ?_) (fun cdv A outer s H vs Q E hr h => ?_)
  · obtain ⟨l, b, s, top, rfl, _⟩ := h
    rfl
  refine ⟨_, pss_one (ps_ret (pe_callB call_lenD (by rfl) T.n_len (by decide +kernel) (pa_cons (pe_fld (pv 0) rfl) pa_nil))), ?_⟩
  obtain ⟨l, b, s, top, rfl, ⟨dx, Rr, nlb, hl, kvs, nRb, hR, heach, _⟩, hq⟩ := h
  rw [← heach.length] at hq
  exact ⟨_, rfl, l, C, dx, _, _, rfl, hl, R.cl, R.nR, lk_rows, Rr, kvs, rfl, hR, hq⟩
theorem ok_seen {f f1 C : Addr} {fd fd1 : FuncData} (F : Fun K "seen" "Layout.seen" s_seen f fd) (T : Txt K mg tk1 tk2) (d_joints_from : DefAt P w K mg base "joints_from" 1 f1 fd1 ["layout"] (spJoints C)) : FnOk P w K mg base CX0 2 f fd ["self"] (spSeen C) := by
  refine F.ok sc_seen (fun vs H Q E h => ?_) (fun cdv A outer s H vs Q E hr h => ?_)
  · obtain ⟨l, b, s, top, rfl, _⟩ := h
    rfl
  refine ⟨_, pss_one (ps_ret (pe_callB (call_sortedDI rfl) (by rfl) T.n_sorted (by decide +kernel) (pa_cons (pe_callD d_joints_from (hr.mono (by decide)) (pa_cons (pv 0) pa_nil)) pa_nil))), ?_⟩
  obtain ⟨l, b, s, top, rfl, hl, hok, htop, hq⟩ := h
  obtain ⟨hFn, hFs, _⟩ := bfs_facts hok htop
  have h6 : (bfs s top).length ≤ 6 := by
    have := nodup_le hFn hFs
    rw [List.length_map] at this; exact Nat.le_trans this hok.2.2.1
  refine ⟨_, rfl, l, b, s, top, rfl, hl, hok, htop, fun H1 d e1 hd hd1 => ?_⟩
  refine ⟨d, _, bfs s top, rfl, Rd.of hd1, by unfold keyB; rw [List.map_map]; rfl, by omega, fun ys p hperm hpw hp => ?_⟩
  exact hq _ p ys (e1.trans (Ex.new hp)) (Evl.fresh_back e1 hp) upd_same hperm hpw
theorem ok_repr {f C : Addr} {fd : FuncData} (F : Fun K "__repr__" "Layout.__repr__" s_repr f fd) (T : Txt K mg tk1 tk2) (nsum : mg "sum" = none) (R : LayTxt K mg C) : FnOk P w K mg base CX0 1 f fd ["self"] (spRepr C) := by
  refine F.ok sc_repr (fun vs H Q E h => ?_) (fun cdv A outer s H vs Q E hr h => ?_)
  · obtain ⟨l, b, s, top, rfl, _⟩ := h
    rfl
  have hu1 := hu_of hr
  refine ⟨_, (pss_one (ps_ret (pe_joined (PJ.cons pe_str (PJ.cons (pe_fmt (pe_callB call_lenD (by rfl) T.n_len (by decide +kernel) (pa_cons (pe_fld (pv 0) rfl) pa_nil))) (PJ.cons pe_str (PJ.cons (pe_fmt (pe_callB (cr_sum rfl) (by rfl) nsum (by decide +kernel) (pa_cons (pe_lock (pe_lc (own := [("joint", 1)]) (te := tCB (fun xs H Q => ∃ (a : Addr) (kvs : List (Key × V)), xs = [V.ref a] ∧ H a = some (.dK kvs) ∧ Q (.int kvs.length) H) (tCons (tDGet (tFld K (tVar 0) "rows") (tVar 1)) tNil)) rfl sc_repr.nd (pi_keys (pe_fld (pv 0) rfl)) (blkOk_by (N := N_repr) (sc := defScope s_repr) (by decide +kernel)) (fun _ _ _ _ _ => pg_name (i := 1) sc_repr.nd rfl (Or.inl rfl)) (fun _ _ _ _ _ => pts_nil) (fun _ _ _ _ _ => (pe_callB call_lenD (by rfl) T.n_len (by decide +kernel) (pa_cons (pe_dget hu1 (pe_fld (pv 0) rfl) (pv 1) (fun _ _ => rfl)) pa_nil))))) pa_nil))) (PJ.cons pe_str PJ.nil)))))))), ?_⟩
  obtain ⟨l, b, s, top, rfl, ⟨dx, Rr, nlb, hl, kvs, nRb, hR, heach, _⟩, hok, hq⟩ := h
  have hbig : 1000000 < sizeLine := by decide
  have hkl : kvs.length = s.length := heach.length
  have h6 := hok.2.2.1
  have hc := cnt_le hok
  have l1 := num_len (n := s.length) (by omega)
  have l2 := num_len (n := cntS s) (by omega)
  have a1 : (" joints, " : Str).length = 9 := by decide +kernel
  have a2 : (" links)" : Str).length = 7 := by decide +kernel
  have a4 : ("Layout(" : Str).length = 7 := by decide +kernel
  have l0 : Str.empty.length = 0 := rfl
  have hkn : (kvs.map (·.1)).Nodup := by
    have : kvs.map (·.1) = (s.map (·.1)).map Sum.inl := by
      rw [List.map_map]
      exact each_map (fun a c h => h.1) heach
    rw [this]; exact nodup_map_inl hok.1
  refine ⟨_, rfl, by simp only [len_app, l0, a4]; omega, ?_⟩
  refine ⟨_, rfl, l, C, dx, _, _, rfl, hl, R.cl, R.nR, lk_rows, Rr, kvs, rfl, hR, Or.inr ⟨_, rfl, log_len (by omega), ?_⟩⟩
  rw [hkl]
  refine ⟨numT s.length, rfl, by simp only [len_app, l0, a4]; omega, _, rfl, by simp only [len_app, l0, a1, a4]; omega, ?_⟩
  refine ⟨Rr, .dK kvs, hR, trivial, fun od => ?_⟩
  have nlR : l ≠ Rr := fun z => by rw [z, hR] at hl; cases hl
  have hlL : (upd H Rr (.frz od (.dK kvs))) l = some (.ins C dx (layFs Rr top)) := by rw [upd_ne nlR]; exact hl
  have hRL : (upd H Rr (.frz od (.dK kvs))) Rr = some (.frz od (.dK kvs)) := upd_same
  have oldL : ∀ a o, a ≠ Rr → H a = some o → (upd H Rr (.frz od (.dK kvs))) a = some o := fun a o n h => by rw [upd_ne n]; exact h
  have unl : ∀ {H'}, Ex (upd H Rr (.frz od (.dK kvs))) H' → Ex H (upd H' Rr (.dK kvs)) := fun e => ex_unlock hR e
  generalize upd H Rr (.frz od (.dK kvs)) = L at *
  refine ⟨_, rfl, l, C, dx, _, _, rfl, hlL, R.cl, R.nR, lk_rows, Rr, od, rfl, Or.inl ⟨kvs, hRL, fun D hD => ?_⟩⟩
  have nDR : D ≠ Rr := fun z => by rw [z, hRL] at hD; cases hD
  refine lc_it walk_keys (fun n H' => Ex L H' ∧ H' D = some (.lst (((s.map fun x => (x.2.length : Int)).take n).map V.int))) ⟨Ex.new hD, upd_same⟩ (fun n H' _ h => h.1 _ _ hRL) ?_ ?_
  · rintro n x H3' H3 hn ⟨e3, hd⟩ ⟨rfl, kk, vv, hkv, rfl⟩
    obtain ⟨y, hyn, hk1, e, hve, neR, ekvs, neb, he, hrow⟩ := each_get heach hkv
    cases (show kk = Sum.inl y.1 from hk1)
    have hve' : vv = .ref e := hve
    subst hve'
    have hv : valV kvs (.inl y.1) = some (.ref e) := val_of hkn (List.mem_of_getElem? hkv)
    have dg : DGet H3 Rr (kV (.inl y.1)) (valV kvs (.inl y.1)) := Or.inl ⟨kvs, .inl y.1, Or.inr ⟨od, e3 _ _ hRL⟩, rfl, rfl⟩
    rw [hv] at dg
    have he3 := e3 _ _ (oldL _ _ neR he)
    refine ⟨wipe_set, ?_⟩
    refine ⟨_, rfl, l, C, dx, _, _, rfl, e3 _ _ hlL, R.cl, R.nR, lk_rows, _, rfl, Rr, _, rfl, dg, e, ekvs, rfl, he3, ?_⟩
    refine ⟨_, hd, Evl.sz_lt (by rw [List.length_map, List.length_take, List.length_map]; omega), Ex.mut e3 hD, ?_⟩
    have hsn : (s.map fun x => (x.2.length : Int))[n]? = some (y.2.length : Int) := by rw [List.getElem?_map, hyn]; rfl
    rw [upd_same, List.take_add_one, hsn, List.map_append, hrow.length]; rfl
  · rintro H3 ⟨e3, hd⟩
    rw [hkl, show s.length = (s.map fun x => (x.2.length : Int)).length by rw [List.length_map], List.take_length] at hd
    have hsum : (s.map fun x => (x.2.length : Int)).sum = ((cntS s : Nat) : Int) := by
      unfold cntS
      rw [← sum_int, List.map_map]; rfl
    refine ⟨e3 _ _ hRL, D, s.map fun x => (x.2.length : Int), rfl, SqL.of (by rw [upd_ne nDR]; exact hd), Or.inr ⟨_, rfl, ?_, ?_⟩⟩
    · rw [hsum]; exact log_len (by omega)
    · rw [hsum]
      refine ⟨numT (cntS s), rfl, by simp only [len_app, l0, a1, a4]; omega, _, rfl, by simp only [len_app, l0, a1, a2, a4]; omega, ?_⟩
      exact hq _ (unl e3)
end
end KC

set_option Elab.async false
set_option linter.all false
set_option maxRecDepth 100000
set_option maxHeartbeats 8000000
namespace KC
open PySem PySem.Spec PyProof.Rows L2 LF
open Evl (Ev EvL EvU EvT EvA Ex sq_of st_of)
open PySem.W (EachIs)
/-! sorted tables there are -/
theorem pw_rising : ∀ (l : List Str) (p : Str), (∀ x ∈ l, leS p x) → l.Pairwise leS → risingS p l = true
  | [], _, _, _ => rfl
  | x :: r, p, h, hp => by
    obtain ⟨h1, h2⟩ := List.pairwise_cons.mp hp
    show (!ltCps x.cps.toList p.cps.toList && risingS x r) = true
    rw [Bool.and_eq_true]
    refine ⟨?_, pw_rising r x h1 h2⟩
    rw [ltCps_eq, Bool.not_eq_true', decide_eq_false_iff_not]
    exact List.not_lt.mpr (h x List.mem_cons_self)
theorem pw_sorted {l : List Str} (h : l.Pairwise leS) : sortedS l = true := by
  cases l with
  | nil => rfl
  | cons x r =>
    obtain ⟨h1, h2⟩ := List.pairwise_cons.mp h
    exact pw_rising r x h1 h2
theorem srt_row (r : Row) : ∃ r', SrtR r r' := by
  refine ⟨r.mergeSort fun a b => decide (leS a.1 b.1), List.mergeSort_perm _ _, pw_sorted ?_⟩
  rw [List.pairwise_map]
  have := List.pairwise_mergeSort (le := fun a b : Str × Tg => decide (leS a.1 b.1)) (fun a b c h1 h2 => decide_eq_true (List.le_trans (of_decide_eq_true h1) (of_decide_eq_true h2))) (fun a b => by
    rw [Bool.or_eq_true, decide_eq_true_eq, decide_eq_true_eq]
    exact List.le_total _ _) r
  exact this.imp fun h => of_decide_eq_true h
theorem each_of2 {α β : Type} {R : α → β → Prop} : ∀ {xs : List α}, (∀ x ∈ xs, ∃ b, R x b) → ∃ bs, EachIs R xs bs := each_of
theorem srt_ex (t : Tabs) : ∃ s, SrtT t s := by
  have hpw := List.pairwise_mergeSort (le := fun a b : Int × Row => decide (a.1 ≤ b.1)) (fun a b c h1 h2 => decide_eq_true (Int.le_trans (of_decide_eq_true h1) (of_decide_eq_true h2))) (fun a b => by
    rw [Bool.or_eq_true, decide_eq_true_eq, decide_eq_true_eq]
    exact Int.le_total _ _) t
  have hpm := List.mergeSort_perm t fun a b => decide (a.1 ≤ b.1)
  generalize t.mergeSort (fun a b => decide (a.1 ≤ b.1)) = u at *
  obtain ⟨s, hs⟩ := each_of (R := fun (y x : Int × Row) => y.1 = x.1 ∧ SrtR y.2 x.2) (xs := u) fun y _ => by
    obtain ⟨r, hr⟩ := srt_row y.2
    exact ⟨(y.1, r), rfl, hr⟩
  have e : u.map (·.1) = s.map (·.1) := each_map (fun a b h => h.1) hs
  refine ⟨s, by rw [← e]; exact hpm.map _, ?_, fun x hx => ?_⟩
  · rw [← e, List.pairwise_map]
    exact hpw.imp fun h => of_decide_eq_true h
  · obtain ⟨y, hy, h1, h2⟩ := each_back hs x hx
    exact ⟨y, hpm.mem_iff.mp hy, h1, h2⟩
/-! equal tables -/
theorem look_mem {r : Row} {y : Str × Tg} (hn : (r.map (·.1)).Nodup) (hy : y ∈ r) : lookR r y.1 = some y.2 := by
  unfold lookR
  induction r with
  | nil => exact nomatch hy
  | cons p r ih =>
    rw [List.map_cons, List.nodup_cons] at hn
    rcases List.mem_cons.mp hy with e | hy
    · subst e; simp
    · have hne : ¬ p.1 = y.1 := fun e => hn.1 (by rw [e]; exact List.mem_map.mpr ⟨y, hy, rfl⟩)
      rw [List.find?_cons_of_neg (by simpa using hne)]
      exact ih hn.2 hy
theorem lookT_mem {t : Tabs} {y : Int × Row} (hn : (t.map (·.1)).Nodup) (hy : y ∈ t) : lookT t y.1 = some y.2 := by
  unfold lookT
  induction t with
  | nil => exact nomatch hy
  | cons p r ih =>
    rw [List.map_cons, List.nodup_cons] at hn
    rcases List.mem_cons.mp hy with e | hy
    · subst e; simp
    · have hne : ¬ p.1 = y.1 := fun e => hn.1 (by rw [e]; exact List.mem_map.mpr ⟨y, hy, rfl⟩)
      rw [List.find?_cons_of_neg (by simpa using hne)]
      exact ih hn.2 hy
theorem eqR_perm {r1 r2 : Row} (h : r1.Perm r2) (hn : (r1.map (·.1)).Nodup) : eqR r1 r2 = true := by
  unfold eqR
  rw [Bool.and_eq_true, beq_iff_eq, List.all_eq_true]
  refine ⟨h.length_eq, fun y hy => ?_⟩
  rw [look_mem hn hy, look_mem ((h.map _).nodup hn) (h.mem_iff.mp hy)]
  simp
theorem eqT_of {t1 t2 : Tabs} (hl : t1.length = t2.length) (h1 : (t1.map (·.1)).Nodup) (h2 : (t2.map (·.1)).Nodup) (h : ∀ x ∈ t1, ∃ y ∈ t2, y.1 = x.1 ∧ x.2.Perm y.2 ∧ (x.2.map (·.1)).Nodup) : eqT t1 t2 = true := by
  unfold eqT
  rw [Bool.and_eq_true, beq_iff_eq, List.all_eq_true]
  refine ⟨hl, fun x hx => ?_⟩
  obtain ⟨y, hy, e, hp, hn⟩ := h x hx
  rw [lookT_mem h1 hx, ← e, lookT_mem h2 hy]
  simp only [Option.isSome_some, Option.getD_some, Bool.true_and]
  exact eqR_perm hp hn
theorem eqT_srt {t s : Tabs} (h : SrtT t s) (ho : TabOk t) : eqT s t = true := by
  have hl : s.length = t.length := by have := h.1.length_eq; simpa using this
  have so := srt_ok h ho
  refine eqT_of hl so.1 ho.1 fun x hx => ?_
  obtain ⟨y, hy, e, hs⟩ := h.2.2 x hx
  exact ⟨y, hy, e, hs.1, (so.2.2.2 x hx).2.1⟩
theorem eqT_refl {s : Tabs} (ho : TabOk s) : eqT s s = true :=
  eqT_of rfl ho.1 ho.1 fun x hx => ⟨x, hx, rfl, List.Perm.refl _, (ho.2.2.2 x hx).2.1⟩
theorem srt_rowOf {t s : Tabs} (h : SrtT t s) (ho : TabOk t) {j : Int} (hj : j ∈ t.map (·.1)) : SrtR (rowOf t j) (rowOf s j) := by
  obtain ⟨x, hx, rfl⟩ := List.mem_map.mp (h.1.mem_iff.mpr hj)
  obtain ⟨y, hy, e, hs⟩ := h.2.2 x hx
  rw [rowOf_mem (srt_ok h ho).1 hx, ← e, rowOf_mem ho.1 hy]
  exact hs
theorem seq_keep_new {K : PySem.W.Frag} {H H' : Hp} {a b : Addr} {xs : List V} (h : SqL K H a xs) (hb : H b = none) (k : Keep b H H') : SqL K H' a xs := by
  rcases h with (h | ⟨o, h⟩) | h
  · exact Or.inl (Or.inl (k _ _ (ne_of_none h hb) h))
  · exact Or.inl (Or.inr ⟨o, k _ _ (ne_of_none h hb) h⟩)
  · exact Or.inr h
theorem srt_uniq {t s s' : Tabs} (h : SrtT t s) (h' : SrtT t s') (ho : TabOk t) : s' = s := by
  refine srt_same ⟨h'.1.trans h.1.symm, h'.2.1, fun x hx => ?_⟩ h.lay (srt_ok h ho)
  obtain ⟨y, hy, e, hs⟩ := h'.2.2 x hx
  obtain ⟨z, hz, ez⟩ := List.mem_map.mp (h.1.mem_iff.mpr (List.mem_map.mpr ⟨y, hy, rfl⟩))
  refine ⟨z, hz, ez.trans e, ?_⟩
  obtain ⟨y', hy', e', hs'⟩ := h.2.2 z hz
  have : y' = y := by
    have h1 := rowOf_mem ho.1 hy'
    have h2 := rowOf_mem ho.1 hy
    rw [e', ez, h2] at h1
    exact Prod.ext (e'.trans ez) h1.symm
  rw [this] at hs'
  exact ⟨hs.1.trans hs'.1.symm, hs.2⟩
/-- a layout whose rows were not there ahead of it -/
def LayF (C : Addr) (H H' : Hp) (x : Addr) : Prop := ∀ dx R top, H' x = some (.ins C dx (layFs R top)) → H R = none ∧ FreshR H H' R
theorem lay_newK {C b t : Addr} {H : Hp} {tabs : List (Int × List (Str × Tg))} {top : Int} {R : VK} {E : XK} (hta : TabA b H t tabs) (hok : TabOk tabs) (htop : top ∈ tabs.map (·.1)) (hlb : ∃ o, H b = some o) {x dx : Addr} (h1 : H x = none) (h2 : H dx = none) (h3 : dx ≠ x)
    (q : ∀ H' s, Ex H H' → SrtT tabs s → LayA C b H' x s top → LayF C H H' x → R .non H') : spInit C ((fun vs zs => vs ++ zs) [V.ref x, V.ref t] [V.int top]) (upd (upd H dx (.own x)) x (.ins C dx [])) R E := by
  obtain ⟨ob, hb⟩ := hlb
  have e1 : Ex H (upd (upd H dx (.own x)) x (.ins C dx [])) := (Ex.new h2).trans (Ex.new (by rw [upd_ne h3.symm]; exact h1))
  have nxb : x ≠ b := fun z => by rw [z, hb] at h1; cases h1
  refine ⟨x, dx, t, b, tabs, top, rfl, upd_same, ⟨ob, e1 _ _ hb⟩, nxb, hta.dt (KeepDT.of fun a o _ h => e1 _ _ h), hok, htop, fun H' R s k hR hs hta' hF hx' => q H' s (fun a o h => ?_) hs ⟨dx, R, nxb, hx', hta'⟩ fun dx' R' top' h => ?_⟩
  · have nax : a ≠ x := fun z => by rw [z, h1] at h; cases h
    exact k _ _ nax (e1 _ _ h)
  · rw [hx'] at h
    have e2 : layFs R top = layFs R' top' := by injection (Option.some.inj h)
    have e3 := congrArg (List.lookup ("rows" : Str)) e2
    rw [lk_rows, lk_rows] at e3
    have e4 : R = R' := V.ref.inj (Option.some.inj e3)
    subst e4
    exact ⟨Evl.fresh_back e1 hR, fun kvs hk kv hkv a ea => Evl.fresh_back e1 (hF kvs hk kv hkv a ea)⟩
theorem lk_tables {R : Addr} {top : Int} : List.lookup ("tables" : Str) (layFs R top) = none := by
  have e1 : (("tables" : Str) == ("rows" : Str)) = false := by decide +kernel
  have e2 : (("tables" : Str) == ("peak" : Str)) = false := by decide +kernel
  simp [layFs, List.lookup, e1, e2]
end KC

set_option Elab.async false
set_option linter.all false
set_option maxRecDepth 100000
set_option maxHeartbeats 8000000
namespace KC
open PySem PySem.Spec PyProof.Rows L2 LF
open Evl (Ev EvL EvU EvT EvA Ex sq_of st_of)
open PySem.W (EachIs)
theorem fn_or {P : Program} {w : World} {K : PySem.W.Frag} {mg : Str → Option Value} {base : Heap} {CX : CXT} {k : Nat} {f : Addr} {fd : FuncData} {ps : List Str} {sp sp' : Sp} (F : FnOk P w K mg base CX k f fd ps sp) (G : FnOk P w K mg base CX k f fd ps sp') :
    FnOk P w K mg base CX k f fd ps (fun vs H Q E => sp vs H Q E ∨ sp' vs H Q E) :=
  ⟨fun vs H Q E h => h.elim (F.len vs H Q E) (G.len vs H Q E), fun A outer s H args us vs Q E hr h0 hb hv h => h.elim (F.run A outer s H args us vs Q E hr h0 hb hv) (G.run A outer s H args us vs Q E hr h0 hb hv)⟩
/-- a value that is no int -/
def spNo (K : PySem.W.Frag) : Sp := fun vs H Q _ => ∃ x t, vs = [x] ∧ TyX K H x t ∧ PySem.W.kitOne K t (.type "int") = some false ∧ Q (.bl false) H
def spJtX (K : PySem.W.Frag) : Sp := fun vs H Q E => spD jtD vs H Q E ∨ spNo K vs H Q E
def spIntX (K : PySem.W.Frag) : Sp := fun vs H Q E => spD intD vs H Q E ∨ spNo K vs H Q E
/-- x in a layout -/
def spCont (K : PySem.W.Frag) (C : Addr) : Sp := fun vs H Q _ => ∃ (l b : Addr) (s : Tabs) (top : Int) (x : V), vs = [.ref l, x] ∧ LayA C b H l s top ∧
  ((∃ i : Int, x = .int i ∧ ∀ H', Ex H H' → Q (.bl (decide (0 ≤ i) && decide (i ∈ s.map (·.1)))) H') ∨ (∃ d, Dq H x d ∧ intD d = false ∧ ∀ H', Ex H H' → Q (.bl false) H') ∨ ∃ t, TyX K H x t ∧ PySem.W.kitOne K t (.type "int") = some false ∧ Q (.bl false) H)
abbrev s_contains : Stmt := inClass s_Layout 5
abbrev N_contains : List Str := ["self", "thing"]
theorem sc_contains : FnScope ["self", "thing"] ["self", "thing"] (defScope s_contains) := ⟨rfl, rfl, rfl, by decide +kernel, rfl, by decide +kernel, by decide +kernel⟩
theorem keys_has {kvs : List (Key × V)} {js : List Int} {i : Int} (h : kvs.map (·.1) = js.map Sum.inl) : (valV kvs (.inl i)).isSome = decide (i ∈ js) := by
  have hm : (Sum.inl i : Key) ∈ kvs.map (·.1) ↔ i ∈ js := by
    rw [h]
    exact ⟨fun m => by obtain ⟨j, hj, e⟩ := List.mem_map.mp m; cases e; exact hj, fun m => List.mem_map.mpr ⟨i, m, rfl⟩⟩
  by_cases hi : i ∈ js
  · rw [decide_eq_true hi]
    obtain ⟨v, hv, _⟩ := keys_val h hi
    rw [hv]; rfl
  · rw [decide_eq_false hi]
    cases hv : valV kvs (.inl i) with
    | none => rfl
    | some v => exact absurd (hm.mp (List.mem_map.mpr ⟨_, val_mem hv, rfl⟩)) hi
section
variable {P : Program} {w : World} {K : PySem.W.Frag} {mg : Str → Option Value} {base : Heap} {tk1 tk2 : Tok}
theorem ok_integerX {f : Addr} {fd : FuncData} (F : Fun K "is_integer" "is_integer" s_is_integer f fd) (T : Txt K mg tk1 tk2) : FnOk P w K mg base CX0 1 f fd ["thing"] (spIntX K) := by
  refine fn_or (ok_is_integer F T) ?_
  refine F.ok sc_is_integer (fun vs H Q E h => ?_) (fun cdv A outer s H vs Q E hr h => ?_)
  · obtain ⟨x, t, rfl, _⟩ := h
    rfl
  refine ⟨_, (pss_one (ps_ret (pe_and (pe_callB call_isi (by rfl) T.n_isinstance (by decide +kernel) (pa_cons (pv 0) (pa_cons (pe_bltn (v := .ty "int") (by rfl) T.n_int (by decide +kernel) rfl) pa_nil))) (pe_one (pe_not (pe_callB call_isi (by rfl) T.n_isinstance (by decide +kernel) (pa_cons (pv 0) (pa_cons (pe_bltn (v := .ty "bool") (by rfl) T.n_bool (by decide +kernel) rfl) pa_nil)))))))), ?_⟩
  obtain ⟨x, t, rfl, ht, hk, hq⟩ := h
  refine ⟨_, rfl, x, .ty "int", _, _, false, rfl, .ty _, ht, hk, ?_⟩
  exact ⟨_, rfl, iteF hq⟩
theorem ok_jointX {f f1 : Addr} {fd fd1 : FuncData} (F : Fun K "is_joint" "is_joint" s_is_joint f fd) (T : Txt K mg tk1 tk2) (d_is_integer : DefAt P w K mg base "is_integer" 1 f1 fd1 ["thing"] (spIntX K)) : FnOk P w K mg base CX0 2 f fd ["thing"] (spJtX K) := by
  refine fn_or (ok_is_joint F T ⟨d_is_integer.F.imp fun vs H Q E h => Or.inl h, d_is_integer.g, d_is_integer.kp, d_is_integer.b⟩) ?_
  refine F.ok sc_is_joint (fun vs H Q E h => ?_) (fun cdv A outer s H vs Q E hr h => ?_)
  · obtain ⟨x, t, rfl, _⟩ := h
    rfl
  refine ⟨_, (pss_one (ps_ret (pe_and (pe_callD d_is_integer (hr.mono (by decide)) (pa_cons (pv 0) pa_nil)) (pe_one (pe_cmpR op_ge (pv 0) pe_int (nomark _)))))), ?_⟩
  obtain ⟨x, t, rfl, ht, hk, hq⟩ := h
  refine ⟨_, rfl, Or.inr ⟨x, t, rfl, ht, hk, ?_⟩⟩
  exact ⟨_, rfl, iteF hq⟩
theorem ok_contains {f f1 C : Addr} {fd fd1 : FuncData} (F : Fun K "__contains__" "Layout.__contains__" s_contains f fd) (R : LayTxt K mg C) (d_is_joint : DefAt P w K mg base "is_joint" 2 f1 fd1 ["thing"] (spJtX K)) : FnOk P w K mg base CX0 3 f fd ["self", "thing"] (spCont K C) := by
  refine F.ok sc_contains (fun vs H Q E h => ?_) (fun cdv A outer s H vs Q E hr h => ?_)
  · obtain ⟨l, b, s, top, x, rfl, _⟩ := h
    rfl
  have hu1 := hu_of hr
  refine ⟨_, (pss_one (ps_ret (pe_and (pe_callD d_is_joint (hr.mono (by decide)) (pa_cons (pv 1) pa_nil)) (pe_one (pe_cmp (pc_din hu1 (pv 1) (pe_fld (pv 0) rfl))))))), ?_⟩
  obtain ⟨l, b, s, top, x, rfl, ⟨dx, Rr, nlb, hl, kvs, nRb, hR, heach, _⟩, h⟩ := h
  have hkeys : kvs.map (·.1) = (s.map (·.1)).map Sum.inl := by
    rw [List.map_map]
    exact each_map (fun a c h => h.1) heach
  rcases h with ⟨i, rfl, hq⟩ | ⟨d, hd, hi, hq⟩ | ⟨t, ht, hk, hq⟩
  · refine ⟨_, rfl, Or.inl ⟨.int i, .int i, rfl, .int i, fun H1 e1 => ?_⟩⟩
    have ej : jtD (.int i) = decide (0 ≤ i) := by
      unfold jtD intD
      simp [isNum, isBol]
      exact Iff.rfl
    rw [ej]
    by_cases h0 : 0 ≤ i
    · rw [decide_eq_true h0] at hq ⊢
      rw [Bool.true_and] at hq
      refine ⟨_, rfl, iteT ⟨_, rfl, _, rfl, l, C, dx, _, _, rfl, e1 _ _ hl, R.cl, R.nR, lk_rows, Rr, _, rfl, DGet.k (k := .inl i) (e1 _ _ hR), ?_⟩⟩
      rw [keys_has hkeys]
      exact hq H1 e1
    · rw [decide_eq_false h0] at hq ⊢
      rw [Bool.false_and] at hq
      exact ⟨_, rfl, iteF (hq H1 e1)⟩
  · refine ⟨_, rfl, Or.inl ⟨x, d, rfl, hd, fun H1 e1 => ?_⟩⟩
    have : jtD d = false := by unfold jtD; rw [hi]; rfl
    rw [this]
    exact ⟨_, rfl, iteF (hq H1 e1)⟩
  · exact ⟨_, rfl, Or.inr ⟨x, t, rfl, ht, hk, _, rfl, iteF hq⟩⟩
end
end KC

set_option Elab.async false
set_option linter.all false
set_option maxRecDepth 100000
set_option maxHeartbeats 8000000
namespace KC
open PySem PySem.Spec PyProof.Rows L2 LF
open Evl (Ev EvL EvU EvT EvA Ex sq_of st_of)
open PySem.W (EachIs)
/-! what is reached does not hang on the rows' order -/
theorem run_sub {s : Tabs} {S : Int → Prop} (hc : ∀ j, S j → ∀ a ∈ tgsI (rowOf s j), S a) : ∀ (n : Nat) (W : List Int) (i : Nat), (∀ a ∈ W, S a) → ∀ a ∈ run s n W i, S a
  | 0, W, i, h, a, ha => h a ha
  | n + 1, W, i, h, a, ha => by
    cases hj : W[i]? with
    | none =>
      rw [run_end (by rw [List.getElem?_eq_none_iff] at hj; exact hj)] at ha
      exact h a ha
    | some j =>
      rw [run_step hj] at ha
      refine run_sub hc n _ _ (fun b hb => ?_) a ha
      rcases mem_addNew.mp hb with hb | hb
      · exact h b hb
      · exact hc j (h j (List.mem_of_getElem? hj)) b hb
theorem bfs_perm {t s : Tabs} {top : Int} (h : SrtT t s) (ho : TabOk t) (ht : top ∈ t.map (·.1)) : (bfs t top).Perm (bfs s top) := by
  have so := srt_ok h ho
  have hs : top ∈ s.map (·.1) := h.1.mem_iff.mpr ht
  obtain ⟨n1, k1, ⟨X1, e1⟩, c1⟩ := bfs_facts ho ht
  obtain ⟨n2, k2, ⟨X2, e2⟩, c2⟩ := bfs_facts so hs
  have same : ∀ j ∈ t.map (·.1), ∀ a, a ∈ tgsI (rowOf t j) ↔ a ∈ tgsI (rowOf s j) := fun j hj a => by
    have hp := (srt_rowOf h ho hj).1
    unfold tgsI
    rw [List.mem_filterMap, List.mem_filterMap]
    exact ⟨fun ⟨y, hy, e⟩ => ⟨y, hp.mem_iff.mpr hy, e⟩, fun ⟨y, hy, e⟩ => ⟨y, hp.mem_iff.mp hy, e⟩⟩
  refine (List.perm_ext_iff_of_nodup n1 n2).mpr fun a => ⟨fun ha => ?_, fun ha => ?_⟩
  · exact run_sub (s := t) (S := fun j => j ∈ bfs s top) (fun j hj b hb => c2 j hj b ((same j (h.1.mem_iff.mp (k2 j hj)) b).mp hb)) 10 [top] 0 (fun b hb => by rw [List.mem_singleton.mp hb, e2]; exact List.mem_cons_self) a ha
  · exact run_sub (s := s) (S := fun j => j ∈ bfs t top) (fun j hj b hb => c1 j hj b ((same j (k1 j hj) b).mpr hb)) 10 [top] 0 (fun b hb => by rw [List.mem_singleton.mp hb, e1]; exact List.mem_cons_self) a ha
theorem inV_ints (k : Int) (W : List Int) : inV (.int k) (W.map V.int) = decide (k ∈ W) := by
  unfold inV
  rw [Bool.eq_iff_iff, List.any_eq_true, decide_eq_true_eq]
  constructor
  · rintro ⟨y, hy, e⟩
    obtain ⟨j, hj, rfl⟩ := List.mem_map.mp hy
    have : j = k := by simpa [eqV] using e
    rw [← this]; exact hj
  · intro h
    exact ⟨.int k, List.mem_map.mpr ⟨k, h, rfl⟩, by simp [eqV]⟩
def spLSeen : Sp := fun vs H Q _ => ∃ (t b : Addr) (tabs : Tabs) (top : Int), vs = [.ref t, .int top] ∧ TabA b H t tabs ∧ TabOk tabs ∧ top ∈ tabs.map (·.1) ∧ ∀ H' p (ys : List Int), Ex H H' → H p = none → H' p = some (.lst (ys.map V.int)) → ys.Perm (bfs tabs top) → ys.Pairwise (· ≤ ·) → Q (.ref p) H'
abbrev s__law_seen : Stmt := topS 17
abbrev N__law_seen : List Str := ["_law_tables", "_law_head", "_law_found", "_law_at", "_law_target"]
theorem sc__law_seen : FnScope ["_law_tables", "_law_head", "_law_found", "_law_at", "_law_target"] ["_law_tables", "_law_head"] (defScope s__law_seen) := ⟨rfl, rfl, rfl, by decide +kernel, rfl, by decide +kernel, by decide +kernel⟩
section
variable {P : Program} {w : World} {K : PySem.W.Frag} {mg : Str → Option Value} {base : Heap} {tk1 tk2 : Tok}
theorem ok_lseen {f : Addr} {fd : FuncData} (F : Fun K "_law_seen" "_law_seen" s__law_seen f fd) (T : Txt K mg tk1 tk2) : FnOk P w K mg base CX0 1 f fd ["_law_tables", "_law_head"] spLSeen := by
  refine F.ok sc__law_seen (fun vs H Q E h => ?_) (fun cdv A outer s H vs Q E hr h => ?_)
  · obtain ⟨t, b, tabs, top, rfl, _⟩ := h
    rfl
  have hu1 := hu_of hr
  refine ⟨_, (pss_cons (ps_par (i := 2) (j := 3) (by rfl) sc__law_seen.nd rfl rfl (by decide) rfl rfl (pa_cons (pe_lst (pa_cons (pv 1) pa_nil)) (pa_cons pe_int pa_nil)) (by rfl))
    (pss_cons (ps_while PassesOwn.never (pt_cmpR op_lt (pv 3) (pe_callB call_len_seq (by rfl) T.n_len (by decide +kernel) (pa_cons (pv 2) pa_nil)) (nomark _)) (pss_cons (ps_lock (ps_for PassesOwn.never rfl (pi_values (pe_dget hu1 (pv 0) (pe_ix ix_list (pv 2) (pv 3) (fun _ _ => rfl)) (fun _ _ => rfl))) (pg_name (i := 4) sc__law_seen.nd rfl (Or.inl rfl)) (pss_one (ps_if (PW.pt (pw_and (pt_val (pe_callB call_isi (by rfl) T.n_isinstance (by decide +kernel) (pa_cons (pv 4) (pa_cons (pe_bltn (v := .ty "int") (by rfl) T.n_int (by decide +kernel) rfl) pa_nil)))) (pw_and1 (pt_cmpR op_notIn_seq (pv 4) (pv 2) (by rfl))))) (pss_one (ps_expr (pe_bm PySem.F.plainAttrs_list PySem.F.slot_list_append PySem.F.type_list_append mt_append (pv 2) (pa_cons (pv 4) pa_nil)))) pss_nil))))
    (pss_one (ps_set (i := 3) sc__law_seen.nd rfl (Or.inl rfl) (pe_op op_add (pv 3) pe_int)))))
    (pss_one (ps_ret (pe_callB cr_sorted (by rfl) T.n_sorted (by decide +kernel) (pa_cons (pv 2) pa_nil)))))), ?_⟩
  obtain ⟨t, b, s, top, rfl, ⟨kvs, ntb, hR, heach, _⟩, ⟨hnd, hs1, hs6, hx⟩, htop, hq⟩ := h
  have hkeys : kvs.map (·.1) = (s.map (·.1)).map Sum.inl := by
    rw [List.map_map]
    exact each_map (fun a c h => h.1) heach
  have hsl : ∀ {W : List Int}, W.Nodup → (∀ a ∈ W, a ∈ s.map (·.1)) → W.length ≤ 6 := fun h1 h2 => by
    have := nodup_le h1 h2
    rw [List.length_map] at this; omega
  refine ⟨_, rfl, (by show 1 ≤ sizeLine; decide), fun wa hwa => ⟨_, _, rfl, ?_⟩⟩
  have x4 : Ex H (upd H wa (.lst [.int top])) := Ex.new hwa
  have hw4 : (upd H wa (.lst [.int top])) wa = some (.lst [.int top]) := upd_same
  generalize upd H wa (.lst [.int top]) = H4 at *
  have old : ∀ {a o}, H a = some o → a ≠ wa := fun h z => by rw [z, hwa] at h; cases h
  refine Evl.s_while (fun m σ' H' => ∃ (i : Nat) (v4 : Option V) (W : List Int), σ' = [some (.ref t), some (.int top), some (.ref wa), some (.int (i : Int)), v4] ∧ m = 10 - i ∧ i ≤ W.length ∧ W.Nodup ∧ (∀ a ∈ W, a ∈ s.map (·.1)) ∧ run s (10 - i) W i = bfs s top ∧ H' wa = some (.lst (W.map V.int)) ∧ Ex H H') 10
    ⟨0, _, [top], rfl, rfl, Nat.zero_le _, by simp, fun a ha => by rw [List.mem_singleton.mp ha]; exact htop, rfl, hw4, x4⟩ ?_
  rintro m σ' H5 ⟨i, v4, W, rfl, rfl, hiW, hWn, hWk, hrun, hw5, x5⟩
  have hW6 := hsl hWn hWk
  refine ⟨decide ((i : Int) < ((W.map V.int).length : Int)), Evl.et_test (Evl.ev_op (Evl.ev_var rfl) (Evl.ev_len (K := K) (Evl.ev_var rfl) (SqL.of hw5)) Evl.rv_I0), fun hlt H6 e6 => ?_, fun hge H6 e6 => ?_⟩
  · have hlt' : i < W.length := by
      have := of_decide_eq_true hlt
      rw [List.length_map] at this; omega
    refine ⟨fun σ2 H2 => ∃ (v4 : Option V) (W' : List Int), σ2 = [some (.ref t), some (.int top), some (.ref wa), some (.int ((i + 1 : Nat) : Int)), v4] ∧ i + 1 ≤ W'.length ∧ W'.Nodup ∧ (∀ a ∈ W', a ∈ s.map (·.1)) ∧ run s (10 - (i + 1)) W' (i + 1) = bfs s top ∧ H2 wa = some (.lst (W'.map V.int)) ∧ Ex H H2,
      fun σ2 H2 ⟨v4, W', h1, h2, h3, h4, h5, h7, h8⟩ => ⟨10 - (i + 1), by omega, i + 1, v4, W', h1, rfl, h2, h3, h4, h5, h7, h8⟩, ?_⟩
    have hj : W[i]? = some W[i] := List.getElem?_eq_getElem hlt'
    have hjk := hWk _ (List.mem_of_getElem? hj)
    obtain ⟨v, hv, hm⟩ := keys_val hkeys hjk
    obtain ⟨y, hy, hy1, e, rfl, net, ekvs, neb, he, hrow⟩ := each_mem heach _ hm
    have hrow' := hrow
    have hyo := (hx y hy).2
    have hr : rowOf s W[i] = y.2 := by
      have e1 : W[i] = y.1 := Sum.inl.inj hy1
      rw [e1]; exact rowOf_mem hnd hy
    have x6 : Ex H H6 := x5.trans e6
    have hw6 := e6 _ _ hw5
    have he6 := x6 _ _ he
    have new := old he
    refine ⟨e, .dK ekvs, he6, trivial, fun od => ?_⟩
    have z := atI_nat (xs := W.map V.int) (j := i) (v := .int W[i]) (by rw [List.getElem?_map, hj]; rfl)
    have htL : (upd H6 e (.frz od (.dK ekvs))) t = some (.dK kvs) := by rw [upd_ne net.symm]; exact x6 _ _ hR
    have hwL : (upd H6 e (.frz od (.dK ekvs))) wa = some (.lst (W.map V.int)) := by rw [upd_ne new.symm]; exact hw6
    have dg := DGet.k (k := .inl W[i]) htL
    rw [hv] at dg
    refine ⟨_, rfl, _, rfl, _, rfl, wa, _, _, _, rfl, rfl, SqL.of hwL, z, t, _, rfl, dg, e, od, ekvs, rfl, upd_same, ?_⟩
    refine for_it walk_values (fun n σ' H' => ∃ (v4 : Option V), σ' = [some (.ref t), some (.int top), some (.ref wa), some (.int (i : Int)), v4] ∧ H' wa = some (.lst ((addNew W (tgsI (y.2.take n))).map V.int)) ∧ ∀ a o, a ≠ wa → (upd H6 e (.frz od (.dK ekvs))) a = some o → H' a = some o)
      ⟨_, rfl, hwL, fun _ _ _ h => h⟩ (fun n σ' H' _ ⟨_, _, _, k⟩ => k _ _ new upd_same) ?_ ?_
    · rintro n x σ' H8' H8 hn ⟨v4', rfl, hw8, k8⟩ ⟨rfl, kk, hkv⟩
      obtain ⟨yy, hyy, hk1, hta⟩ := each_get hrow' hkv
      have he8 := k8 _ _ new upd_same
      have htk : tgsI (y.2.take (n + 1)) = tgsI (y.2.take n) ++ (tgI yy.2).toList := by rw [List.take_add_one, hyy]; exact tgsI_snoc _ _
      have hW' : (addNew W (tgsI (y.2.take n))).Nodup := addNew_nodup hWn _
      have hWk' : ∀ a ∈ addNew W (tgsI (y.2.take n)), a ∈ s.map (·.1) := fun a ha => by
        rcases mem_addNew.mp ha with h | h
        · exact hWk a h
        · refine mem_tgsI hyo a ?_
          obtain ⟨u, hu, eu⟩ := List.mem_filterMap.mp h
          exact List.mem_filterMap.mpr ⟨u, List.mem_of_mem_take hu, eu⟩
      have hl' := hsl hW' hWk'
      cases hy2 : yy.2 with
      | inr pp =>
        rw [hy2] at hta htk
        obtain ⟨q, ev, nq, hq'⟩ := hta
        have nqe : q ≠ e := fun z => by rw [z, he] at hq'; cases hq'
        have hq8 := k8 q _ (old hq') (by rw [upd_ne nqe]; exact x6 _ _ hq')
        have ev' : x = V.ref q := ev
        subst ev'
        refine ⟨_, rfl, .ref q, .ty "int", _, _, false, rfl, .ty _, .base (.tup hq8), kit_ty (by decide +kernel), _, rfl, ?_⟩
        have e0 : tgsI (y.2.take (n + 1)) = tgsI (y.2.take n) := by rw [htk]; simp [tgI]
        exact iteF (iteF ⟨_, rfl, by rw [e0]; exact hw8, k8⟩)
      | inl k =>
        rw [hy2] at hta htk
        have ev : x = .int k := hta
        subst ev
        refine ⟨_, rfl, .int k, .ty "int", _, _, true, rfl, .ty _, .base (.int k), kit_ty (by decide +kernel), _, rfl, ?_⟩
        have e0 : addNew W (tgsI (y.2.take (n + 1))) = addOne (addNew W (tgsI (y.2.take n))) k := by rw [htk]; exact addNew_snoc _ _ _
        refine iteT ⟨_, rfl, _, rfl, wa, _, rfl, Or.inl (SqL.of hw8), rfl, (by rw [List.all_eq_true]; intro u hu; obtain ⟨j, _, rfl⟩ := List.mem_map.mp hu; rfl), _, rfl, ?_⟩
        rw [inV_ints]
        by_cases hkW : k ∈ addNew W (tgsI (y.2.take n))
        · have e1 : addOne (addNew W (tgsI (y.2.take n))) k = addNew W (tgsI (y.2.take n)) := by unfold addOne; rw [if_pos hkW]
          rw [decide_eq_true hkW]
          exact iteF ⟨_, rfl, by rw [e0, e1]; exact hw8, k8⟩
        · have e1 : addOne (addNew W (tgsI (y.2.take n))) k = addNew W (tgsI (y.2.take n)) ++ [k] := by unfold addOne; rw [if_neg hkW]
          rw [decide_eq_false hkW]
          refine iteT ⟨_, rfl, Or.inl ⟨rfl, _, SqL.of hw8⟩, _, rfl, wa, _, .int k, rfl, rfl, hw8, Evl.sz_lt (by rw [List.length_map]; omega), ?_⟩
          refine ⟨_, rfl, by rw [upd_same, e0, e1, List.map_append]; rfl, fun a o n1 h => ?_⟩
          rw [upd_ne n1]
          exact k8 a o n1 h
    · rintro σ' H8 ⟨v4', rfl, hw8, k8⟩
      rw [hrow'.length, List.take_length] at hw8
      have he8 := k8 _ _ new upd_same
      refine ⟨he8, ?_⟩
      refine ⟨_, rfl, _, _, rfl, rfl, ?_⟩
      refine ⟨_, addNew W (tgsI y.2), by push_cast; rfl, ?_, addNew_nodup hWn _, fun a ha => ?_, ?_, by rw [upd_ne new.symm]; exact hw8, fun a o h => ?_⟩
      · have := nodup_le hWn (m := addNew W (tgsI y.2)) fun a ha => mem_addNew.mpr (Or.inl ha)
        omega
      · rcases mem_addNew.mp ha with h | h
        · exact hWk a h
        · exact mem_tgsI hyo a h
      · rw [← hrun]
        have : 10 - i = (10 - (i + 1)) + 1 := by omega
        rw [this, run_step hj, hr]
      · by_cases hae : a = e
        · subst hae
          rw [upd_same, ← h, he]
        · rw [upd_ne hae]
          exact k8 a o (old h) (by rw [upd_ne hae]; exact x6 _ _ h)
  · have hge' : W.length ≤ i := by
      have := of_decide_eq_false hge
      rw [List.length_map] at this; omega
    rw [run_end hge'] at hrun
    refine ⟨_, rfl, wa, W, rfl, SqL.of (e6 _ _ hw5), by omega, fun ys p hperm hpw hp => ?_⟩
    exact hq _ p ys ((x5.trans e6).trans (Ex.new hp)) (Evl.fresh_back (x5.trans e6) hp) upd_same (by rw [← hrun]; exact hperm) hpw
end
end KC

set_option Elab.async false
set_option linter.all false
set_option maxRecDepth 100000
set_option maxHeartbeats 4000000
namespace LF
open PySem PySem.Spec PyProof.Rows L2
/-- cls(..), the class at C in the i-th slot -/
def tMakeL (i : Nat) (C : Addr) (sp : Sp) (dvs : List V) (E : XK) (t : TA) : TE := fun σ H Q => σ[i]? = some (some (.ref C)) ∧ t σ H fun vs H1 => ∀ x dx, H1 x = none → H1 dx = none → dx ≠ x →
  sp (.ref x :: (vs ++ dvs)) (upd (upd H1 dx (.own x)) x (.ins C dx [])) (fun v H2 => v = .non ∧ Q (.ref x) H2) E
section
variable {X : Cx} {CX : CXT} {k i : Nat} {C f : Addr} {fd : FuncData} {ps : List Str} {sp : Sp} {dvs : List V} {ds : List Value} {E : XK} {x : Str} {p pos : Pos} {e : Expr} {es : List Expr} {t : TA}
theorem pe_makeL (M : Mk X.K C f) (F : FnOk X.prog X.w X.K X.mg X.base CX k f fd ps sp) (hr : Room (k + 1) X.A) (hN : X.N[i]? = some x) (hv : Vis X.env.scope x) (hb : Binds X.K fd ps ds) (hd : Vals dvs ds) (hx : Passes CX X E) (ha : PA X (e :: es) t)
    (h1 : (x == ("__debug__" : Str)) = false := by decide) (h2 : (x == ("__classdict__" : Str)) = false := by decide)
    (he : starEach (e :: es) X.env = (false, eval e X.env) :: starEach es X.env := by rfl) (hpl : (backTo pos (starEach es X.env)).any (·.1) = false := by rfl) : PE X (.Call (.Name x p) (e :: es) [] pos) (tMakeL i C sp dvs E t) := by
  refine ⟨fun pins s σ H Q I h => ?_⟩
  obtain ⟨hs, ht⟩ := h
  refine wpAny_Call_Name_kw (thn ((pe_var (pos := p) hN hv h1 h2).run pins s σ H (fun v H1 => v = .ref C ∧ H1 = H) I ⟨.ref C, hs, rfl, rfl⟩) fun u s1 ⟨v, H1, I1, r1, q1⟩ => ?_)
  obtain ⟨rfl, rfl⟩ := q1
  cases r1
  refine PySem.W.callWith_K (h₀ := X.base) I.ok.mod.kin M.kp (thn (ha.run pos pins s1 σ _ _ I1 ht) fun us s2 ⟨vs, H2, I2, r, q⟩ => ⟨I2.kIn, ?_⟩) he hpl
  exact run_make M F hr hb hd hx I2 r q
end
/-- a def whose parameters are all given, by its arguments alone -/
theorem FnOk.toR {P : Program} {w : World} {K : PySem.W.Frag} {mg : Str → Option Value} {base : Heap} {CX : CXT} {k : Nat} {f : Addr} {fd : FuncData} {ps : List Str} {sp : Sp} (F : FnOk P w K mg base CX k f fd ps sp) (hb : Binds K fd ps []) : FnR P w K mg base CX k f sp := by
  intro A fr st H us vs Q E hr e0 r h
  have hl : us.length = ps.length := by rw [← r.length]; exact F.len _ _ _ _ h
  have KX : K.In st.heap := e0.mod.kin.keeps fun b o e => (e0.bs b o e).1
  have b := hb st us KX (by rw [List.append_nil]; exact hl)
  rw [List.append_nil] at b
  exact F.run A fr st H ⟨us, []⟩ us vs Q E hr e0 b r h
end LF

set_option Elab.async false
set_option linter.all false
set_option maxRecDepth 100000
set_option maxHeartbeats 4000000
namespace LF
open PySem PySem.Spec PyProof.Rows L2
open PySem.Builtin
/-- len(x), x an own instance of the class at C: its own __len__ -/
def rLenO (C : Addr) (sp : Sp) : List V → Hp → VK → Prop := fun xs H Q => ∃ (a dx : Addr) (fs : List (Str × V)), xs = [.ref a] ∧ H a = some (.ins C dx fs) ∧ sp [.ref a] H (fun v H' => ∃ n : Nat, v = .int n ∧ n < 2 ^ 60 ∧ Q (.int n) H') E0
theorem call_lenO {X : Cx} {k : Nat} {f C : Addr} {fd : FuncData} {sp : Sp} {px : Str} (G : FnOk X.prog X.w X.K X.mg X.base CX0 k f fd [px] sp) (hr : Room (k + 1) X.A) (hb : Binds X.K fd [px] [])
    (hs : PySem.W.findIn X.K (.ref C) "__len__" = some (some (.ref f))) (hf : PySem.W.isFn X.K (.ref f) = true) : CallR X (.builtin "len") (rLenO C sp) := by
  intro pins s σ H xs us Q I r h
  obtain ⟨a, dx, fs, rfl, ha, hsp⟩ := h
  rw [Vals.ref1 r]
  obtain ⟨mA, O, _, _, _, _⟩ := ins_get I.hok ha
  obtain ⟨od, J, _⟩ := O.look
  have b' := hb s [.ref a] I.kIn rfl
  rw [List.append_nil] at b'
  have run := G.run X.A.in1 X.stack s H ⟨[.ref a], []⟩ [.ref a] [.ref a] _ E0 hr.in1 I.env0.in1 b' (.cons rfl .nil) hsp
  refine Calls.call_function_entry kind_len plain_len entry_len (args_len1 _) ?_
  unfold Builtin.«len»
  refine wpAny_bind (m := oneArg "len" _) (wpAny_pure ?_)
  refine wpAny_bind (m := callSpecial? (.ref a) (Str.ofString "__len__")) (PySem.W.special_fn I.kIn J hs (beq_iff_eq.mp hf) (wpAny_call (codeAny_mono run ?_)))
  intro rr s2 hq2
  cases rr with
  | error e => exact hq2.elim
  | ok fl =>
    cases fl with
    | next => exact hq2.elim
    | brk => exact hq2.elim
    | cont => exact hq2.elim
    | ret u =>
      obtain ⟨y, H2, J2, ry, n, ey, hn, q⟩ := I.after hq2
      subst ey
      obtain ⟨tk, rfl⟩ := ry
      refine wpAny_bind (wpAny_holding (wpAny_pure ?_))
      refine wpAny_bind (wpAny_letGo ?_)
      show wpAny _ _ (if (n : Int) < 0 then _ else _) _ _ _
      rw [if_neg (by omega)]
      show wpAny _ _ (if (n : Int) ≥ 2 ^ 63 then _ else _) _ _ _
      rw [if_neg (by have : (2 : Nat) ^ 60 = 1152921504606846976 := by decide
                     omega)]
      exact wpAny_bind (wpAny_mkInt (wpAny_pure ⟨_, rfl, .int n, H2, J2.tok _, ⟨_, rfl⟩, q⟩))
end LF

set_option Elab.async false
set_option linter.all false
set_option maxRecDepth 100000
set_option maxHeartbeats 4000000
namespace LF
open PySem PySem.Spec PyProof.Rows L2
open PySem.Builtin
/-- str(x), x an own instance of the class at C: its own __str__ -/
def rStrO (C : Addr) (sp : Sp) : List V → Hp → VK → Prop := fun xs H Q => ∃ (a dx : Addr) (fs : List (Str × V)), xs = [.ref a] ∧ H a = some (.ins C dx fs) ∧ sp [.ref a] H (fun v H' => ∃ z, v = .str z ∧ Q (.str z) H') E0
theorem str_own_new {prog : Program} {w : World} {a : Addr} : MeetsIn prog w (Builtin.«str.__new__» ⟨[.type "str", .ref a], []⟩)
    (fun A R s => A.in1.units < cLine ∧ wpAny (model prog w) A.in1 (callSpecial? (.ref a) "__str__") (fun o s' => ∃ z tk, o = some (.str z tk) ∧ R (.ok (.ret (.str z tk))) s') (fun _ _ => False) s) :=
  .of_wp fun A R s h => by
    rw [str_new_tree (.ref a)]
    refine wpAny_bind (wpAny_pure ?_)
    refine wpAny_bind (wpAny_of_eq isSubtype_str_str ?_)
    refine wpAny_bind (m := Str.strOf (.ref a)) (wpAny_mono (Q := fun r s' => R (.ok (.ret r)) s') ?_ (fun r s' h' => wpAny_pure ⟨_, rfl, h'⟩) fun _ _ e => e)
    unfold Str.strOf
    show wpAny _ _ (if PySem.Builtin.Str.isExactStr (.ref a) = true then _ else _) _ _ _
    rw [show PySem.Builtin.Str.isExactStr (.ref a) = false from rfl]
    refine wpAny_bind (wpAny_cRoomFor h.1 ?_)
    refine wpAny_bind (wpAny_mono h.2 (fun o s' ho => ?_) (fun _ _ f => f.elim))
    obtain ⟨z, tk, rfl, q⟩ := ho
    exact wpAny_pure q
theorem call_strO {X : Cx} {k : Nat} {f C : Addr} {fd : FuncData} {sp : Sp} {px : Str} (G : FnOk X.prog X.w X.K X.mg X.base CX0 k f fd [px] sp) (hr : Room (k + 2) X.A) (hb : Binds X.K fd [px] [])
    (hs : PySem.W.findIn X.K (.ref C) "__str__" = some (some (.ref f))) (hf : PySem.W.isFn X.K (.ref f) = true) : CallR X (.type "str") (rStrO C sp) := by
  intro pins s σ H xs us Q I r h
  obtain ⟨a, dx, fs, rfl, ha, hsp⟩ := h
  rw [Vals.ref1 r]
  obtain ⟨mA, O, _, _, _, _⟩ := ins_get I.hok ha
  obtain ⟨od, J, _⟩ := O.look
  have b' := hb s [.ref a] I.kIn rfl
  rw [List.append_nil] at b'
  have hu := hr.in1.un
  refine callType_newIn F.called_str (by decide) (F.typeCall_str_1 _) (F.newCall_str_1 _) (fun obj => F.args_object_init_2 obj _) F.entry_str_new str_own_new ⟨?_, ?_⟩
  · have := hr.in1.in1.un
    omega
  have run := G.run X.A.in1.in1 X.stack s H ⟨[.ref a], []⟩ [.ref a] [.ref a] _ E0 hr.in1.in1 I.env0.in1.in1 b' (.cons rfl .nil) hsp
  refine PySem.W.special_fn I.kIn J hs (beq_iff_eq.mp hf) (wpAny_call (codeAny_mono run ?_))
  intro rr s2 hq2
  cases rr with
  | error e => exact hq2.elim
  | ok fl =>
    cases fl with
    | next => exact hq2.elim
    | brk => exact hq2.elim
    | cont => exact hq2.elim
    | ret u =>
      obtain ⟨y, H2, J2, ry, z, ey, q⟩ := I.after hq2
      subst ey
      obtain ⟨tk, rfl⟩ := ry
      exact ⟨z, tk, rfl, typeIs_str _ _ _, .str z, H2, J2, ⟨_, rfl⟩, q⟩
end LF

set_option Elab.async false
set_option linter.all false
set_option maxRecDepth 100000
set_option maxHeartbeats 4000000
namespace LF
open PySem PySem.Spec PyProof.Rows L2
section
variable {K : PySem.W.Frag} {A : Around} {E : Value → Shared → Prop} {s : Shared} {x C : Addr} {ox : Obj} {od : Option Obj} {name : Str} {id : String}
theorem ifBound_B {M : Model} {args : List Value} {Q : Option Value → Shared → Prop} (X : K.In s.heap) (I : PySem.W.InstAt s.heap x ox C od) (hs : PySem.W.findIn K (.ref C) name = some (some (.builtin id))) (hb : ∀ self, bindSpecial (.builtin id) self = pure (.builtin id, [self]))
    (h : wpAny M A (call (.builtin id) (.ref x :: args)) (fun v => Q (some v)) E s) : wpAny M A (callSpecialIfBound? (.ref x) name args) Q E s := by
  simp only [callSpecialIfBound?, bindSpecialIfBound?]
  refine wpAny_holding (wpAny_bind (wpAny_bind (wpAny_bind (I.type.here ((PySem.W.looks_findIn X hs).here ?_)))))
  refine wpAny_bind (wpAny_askSetting (wpAny_ite ?_))
  have fin : wpAny M A (call (.builtin id) ([.ref x] ++ args) >>= fun v => pure (some v)) Q E s := wpAny_bind (wpAny_mono h (fun v s' h' => wpAny_pure h') fun _ _ h' => h')
  split
  · exact wpAny_bind (wpAny_of_eq (hb _) (wpAny_pure (by exact fin)))
  · exact wpAny_tryCatch (wpAny_bind (wpAny_of_eq (hb _) (wpAny_pure (by exact fin))))
end
theorem ne_bind (self : Value) : bindSpecial (.builtin "object.__ne__") self = pure (.builtin "object.__ne__", [self]) := F.cmp_object.ne.bind self
section
variable {X : Cx} {k : Nat} {C f : Addr} {fd : FuncData} {ps : List Str} {sp : Sp}
/-- the call of the class's own == -/
theorem eq_call {A : Around} {pins : List (Addr × Obj)} {s : Shared} {σ : L2.St} {H : Hp} {a b : Addr} {R : VK} {Z : Value → Shared → Prop} {EX : Value → Shared → Prop} (G : FnOk X.prog X.w X.K X.mg X.base CX0 k f fd ps sp) (hr : Room k A) (hfr : A.frames = X.A.frames) (hb : Binds X.K fd ps []) (I : Inv X pins σ H s)
    (hsp : sp [.ref a, .ref b] H R E0) (hz : ∀ v u H' s', Inv X pins σ H' s' → RelV v u → R v H' → Z u s') : wpAny (model X.prog X.w) A (call (.ref f) [.ref a, .ref b]) Z EX s := by
  have e0 : Env0 X.prog X.w X.K X.mg X.base A X.stack s H := by
    have e := I.env0
    exact ⟨by rw [hfr]; exact e.frames, e.mod, e.bs, e.bsz, e.funs, e.frf, e.hok, e.bare⟩
  have hl := G.len _ _ _ _ hsp
  have b' := hb s [.ref a, .ref b] I.kIn (by simpa using hl)
  rw [List.append_nil] at b'
  refine wpAny_call (codeAny_mono (G.run A X.stack s H ⟨[.ref a, .ref b], []⟩ [.ref a, .ref b] [.ref a, .ref b] _ E0 hr e0 b' (.cons rfl (.cons rfl .nil)) hsp) fun r s' hq => ?_)
  cases r with
  | error e => exact hq.elim
  | ok fl =>
    cases fl with
    | next => exact hq.elim
    | brk => exact hq.elim
    | cont => exact hq.elim
    | ret u =>
      obtain ⟨v, H', I', rv, q⟩ := I.after hq
      exact hz v u H' s' I' rv q
def rCmpO (neg : Bool) (C : Addr) (sp : Sp) : R2 := fun x y H Q => ∃ a b dx dy fs gs, x = .ref a ∧ y = .ref b ∧ H a = some (.ins C dx fs) ∧ H b = some (.ins C dy gs) ∧ sp [.ref a, .ref b] H (fun v H' => ∃ r : Bool, v = .bl r ∧ Q (.bl (if neg = true then !r else r)) H') E0
/-- x == y of own instances by the class's own == -/
theorem op_eqO (G : FnOk X.prog X.w X.K X.mg X.base CX0 k f fd ps sp) (hr : Room k X.A) (hb : Binds X.K fd ps []) (hs : PySem.W.findIn X.K (.ref C) "__eq__" = some (some (.ref f))) (hf : PySem.W.isFn X.K (.ref f) = true) : OpR X (compareOp .Eq) (rCmpO false C sp) := by
  intro pins s σ H x y v u Q I rx ry h
  obtain ⟨a, b, dx, dy, fs, gs, rfl, rfl, ha, hb', hsp⟩ := h
  obtain rfl : v = Value.ref a := rx
  obtain rfl : u = Value.ref b := ry
  obtain ⟨mA, J, _⟩ := ins_get I.hok ha
  obtain ⟨mB, J', _⟩ := ins_get I.hok hb'
  obtain ⟨od, J, _⟩ := J.look
  obtain ⟨od', J', _⟩ := J'.look
  obtain ⟨m, hF⟩ := I.fr
  show wpAny (model X.prog X.w) X.A (richCompare .Eq (.ref a) (.ref b)) _ X.xe s
  refine PySem.W.cmp_K (op := .Eq) (tb := .ref C) hr.units0 hF I.ok.mod.kin J J'.type (by simp [PySem.W.notFirst]) hs hf ?_
  refine eq_call G hr rfl hb I hsp fun v u H' s' I' rv q => ?_
  obtain ⟨r, rfl, q⟩ := q
  obtain rfl : u = Value.bool r := rv
  exact ⟨.bl r, H', I', rfl, q⟩
/-- x != y of own instances: object's own, by the class's == -/
theorem op_neO (G : FnOk X.prog X.w X.K X.mg X.base CX0 k f fd ps sp) (hr : Room (k + 4) X.A) (hb : Binds X.K fd ps []) (hs : PySem.W.findIn X.K (.ref C) "__eq__" = some (some (.ref f))) (hf : PySem.W.isFn X.K (.ref f) = true)
    (hn : PySem.W.findIn X.K (.ref C) "__ne__" = some (some (.builtin "object.__ne__"))) (ho : PySem.W.subIn X.K (.ref C) (.type "object") = some true) : OpR X (compareOp .NotEq) (rCmpO true C sp) := by
  intro pins s σ H x y v u Q I rx ry h
  obtain ⟨a, b, dx, dy, fs, gs, rfl, rfl, ha, hb', hsp⟩ := h
  obtain rfl : v = Value.ref a := rx
  obtain rfl : u = Value.ref b := ry
  obtain ⟨mA, J, _⟩ := ins_get I.hok ha
  obtain ⟨mB, J', _⟩ := ins_get I.hok hb'
  obtain ⟨od, J, _⟩ := J.look
  obtain ⟨od', J', _⟩ := J'.look
  have KX := I.kIn
  show wpAny (model X.prog X.w) X.A (richCompare .NotEq (.ref a) (.ref b)) _ X.xe s
  have hu0 := hr.un
  have one : wpAny (model X.prog X.w) X.A (tryCompare (.ref a) "__ne__" (.ref b)) (fun r s' => ∃ v, r = some v ∧ EP X pins σ Q v s') X.xe s := by
    unfold tryCompare
    refine wpAny_bind (ifBound_B KX J hn ne_bind ?_)
    refine wpAny_call (codeAny_call_builtin F.cmp_object.ne.plain F.cmpEntry_ne (PySem.W.check_slot F.cmpKind_ne F.cmpSplit_ne (J.type.andThen (PySem.W.looks_subIn KX ho)) (F.cmpArgs_ne _ _) ?_))
    unfold Builtin.«object.__ne__»
    refine wpAny_bind (wpAny_of_eq (a := (Value.ref a, [Value.ref b])) rfl ?_)
    refine wpAny_bind (wpAny_cRoomFor (by have := hr.in1.un; omega) ?_)
    refine wpAny_bind (m := callSpecialIfBound? (.ref a) (Str.ofString "__eq__") [.ref b]) (PySem.W.ifBound_K KX J hs hf ?_)
    refine eq_call G (hr.in1.mono (by omega)) rfl hb I hsp fun v u H' s' I' rv q => ?_
    obtain ⟨r, rfl, q⟩ := q
    obtain rfl : u = Value.bool r := rv
    refine wpAny_bind (m := truthy (.bool r)) (wpAny_truthy_bool ?_)
    refine wpAny_pure ?_
    exact wpAny_pure ⟨_, rfl, .bl (!r), H', I', rfl, q⟩
  unfold richCompare
  simp only [oneThing_ref]
  refine wpAny_holding (wpAny_bind (wpAny_cRoomFor (by omega) ?_))
  refine wpAny_bind (J.type.here (wpAny_bind (J'.type.here ?_)))
  rw [show (Value.ref C != Value.ref C) = false from by simp]
  simp only [Bool.false_eq_true, if_false]
  refine wpAny_bind (wpAny_pure ?_)
  simp only [Bool.false_eq_true, if_false]
  refine wpAny_bind (wpAny_mono one (fun r s' z => ?_) fun _ _ e => e)
  obtain ⟨v, rfl, hq⟩ := z
  exact wpAny_pure hq
end
end LF

set_option Elab.async false
set_option linter.all false
set_option maxRecDepth 100000
set_option maxHeartbeats 4000000
namespace LF
open PySem PySem.Spec PyProof.Rows L2
section
variable {X : Cx} {k : Nat} {C f : Addr} {fd : FuncData} {ps : List Str} {sp : Sp}
/-- the call of the class's own ==, the other value of any type -/
theorem eq_callX {A : Around} {pins : List (Addr × Obj)} {s : Shared} {σ : L2.St} {H : Hp} {a : Addr} {y : V} {uy : Value} {R : VK} {Z : Value → Shared → Prop} {EX : Value → Shared → Prop} (G : FnOk X.prog X.w X.K X.mg X.base CX0 k f fd ps sp) (hr : Room k A) (hfr : A.frames = X.A.frames) (hb : Binds X.K fd ps []) (I : Inv X pins σ H s) (ry : RelV y uy)
    (hsp : sp [.ref a, y] H R E0) (hz : ∀ v u H' s', Inv X pins σ H' s' → RelV v u → R v H' → Z u s') : wpAny (model X.prog X.w) A (call (.ref f) [.ref a, uy]) Z EX s := by
  have e0 : Env0 X.prog X.w X.K X.mg X.base A X.stack s H := by
    have e := I.env0
    exact ⟨by rw [hfr]; exact e.frames, e.mod, e.bs, e.bsz, e.funs, e.frf, e.hok, e.bare⟩
  have hl := G.len _ _ _ _ hsp
  have b' := hb s [.ref a, uy] I.kIn (by simpa using hl)
  rw [List.append_nil] at b'
  refine wpAny_call (codeAny_mono (G.run A X.stack s H ⟨[.ref a, uy], []⟩ [.ref a, uy] [.ref a, y] _ E0 hr e0 b' (.cons rfl (.cons ry .nil)) hsp) fun r s' hq => ?_)
  cases r with
  | error e => exact hq.elim
  | ok fl =>
    cases fl with
    | next => exact hq.elim
    | brk => exact hq.elim
    | cont => exact hq.elim
    | ret u =>
      obtain ⟨v, H', I', rv, q⟩ := I.after hq
      exact hz v u H' s' I' rv q
def rCmpD (C : Addr) (sp : Sp) : R2 := fun x y H Q => ∃ a b dx fs kvs, x = .ref a ∧ y = .ref b ∧ H a = some (.ins C dx fs) ∧ H b = some (.dK kvs) ∧ sp [.ref a, .ref b] H (fun v H' => ∃ r : Bool, v = .bl r ∧ Q (.bl r) H') E0
def rCmpS (C : Addr) (sp : Sp) : R2 := fun x y H Q => ∃ a z dx fs, x = .ref a ∧ y = .str z ∧ H a = some (.ins C dx fs) ∧ sp [.ref a, .str z] H (fun v H' => ∃ r : Bool, v = .bl r ∧ Q (.bl r) H') E0
/-- x == d: an own instance and a dict -/
theorem op_eqDc (G : FnOk X.prog X.w X.K X.mg X.base CX0 k f fd ps sp) (hr : Room k X.A) (hb : Binds X.K fd ps []) (hs : PySem.W.findIn X.K (.ref C) "__eq__" = some (some (.ref f))) (hf : PySem.W.isFn X.K (.ref f) = true)
    (hn : PySem.W.subIn X.K (.type "dict") (.ref C) = some false) : OpR X (compareOp .Eq) (rCmpD C sp) := by
  intro pins s σ H x y v u Q I rx ry h
  obtain ⟨a, b, dx, fs, kvs, rfl, rfl, ha, hb', hsp⟩ := h
  obtain rfl : v = Value.ref a := rx
  obtain rfl : u = Value.ref b := ry
  obtain ⟨mA, J, _⟩ := ins_get I.hok ha
  obtain ⟨od, J, _⟩ := J.look
  obtain ⟨m, hF⟩ := I.fr
  have ty : s.TypeIs (.ref b) "dict" := by
    obtain ⟨z, hd, vs, rel, dd⟩ := dk_of I.hok hb'
    exact dd.typeIs
  obtain ⟨ob, o1, o2⟩ := ty
  have L : PySem.W.Looks (model X.prog X.w) s.heap (typeOf (.ref b)) (.type "dict") := o2 ▸ (PySem.W.Looks.ld o1).andThen .now
  show wpAny (model X.prog X.w) X.A (richCompare .Eq (.ref a) (.ref b)) _ X.xe s
  refine PySem.W.cmp_K (op := .Eq) (tb := .type "dict") hr.units0 hF I.ok.mod.kin J L (by simp [PySem.W.notFirst, hn]) hs hf ?_
  refine eq_callX G hr rfl hb I (y := .ref b) rfl hsp fun v u H' s' I' rv q => ?_
  obtain ⟨r, rfl, q⟩ := q
  obtain rfl : u = Value.bool r := rv
  exact ⟨.bl r, H', I', rfl, q⟩
/-- x == z: an own instance and a text -/
theorem op_eqSt (G : FnOk X.prog X.w X.K X.mg X.base CX0 k f fd ps sp) (hr : Room k X.A) (hb : Binds X.K fd ps []) (hs : PySem.W.findIn X.K (.ref C) "__eq__" = some (some (.ref f))) (hf : PySem.W.isFn X.K (.ref f) = true)
    (hn : PySem.W.subIn X.K (.type "str") (.ref C) = some false) : OpR X (compareOp .Eq) (rCmpS C sp) := by
  intro pins s σ H x y v u Q I rx ry h
  obtain ⟨a, z, dx, fs, rfl, rfl, ha, hsp⟩ := h
  obtain rfl : v = Value.ref a := rx
  have ry' := ry
  obtain ⟨t, rfl⟩ : ∃ t, u = Value.str z t := ry
  obtain ⟨mA, J, _⟩ := ins_get I.hok ha
  obtain ⟨od, J, _⟩ := J.look
  obtain ⟨m, hF⟩ := I.fr
  have L : PySem.W.Looks (model X.prog X.w) s.heap (typeOf (.str z t)) (.type "str") := .now
  show wpAny (model X.prog X.w) X.A (richCompare .Eq (.ref a) (.str z t)) _ X.xe s
  refine PySem.W.cmp_K (op := .Eq) (tb := .type "str") hr.units0 hF I.ok.mod.kin J L (by simp [PySem.W.notFirst, hn]) hs hf ?_
  refine eq_callX G hr rfl hb I ry' hsp fun v u H' s' I' rv q => ?_
  obtain ⟨r, rfl, q⟩ := q
  obtain rfl : u = Value.bool r := rv
  exact ⟨.bl r, H', I', rfl, q⟩
end
end LF

set_option Elab.async false
set_option linter.all false
set_option maxRecDepth 100000
set_option maxHeartbeats 8000000
namespace KC
open PySem PySem.Spec PyProof.Rows L2 LF
open Evl (Ev EvL EvU EvT EvA Ex sq_of st_of)
open PySem.W (EachIs)
/-- a layout and another thing -/
def spEqX (K : PySem.W.Frag) (C : Addr) : Sp := fun vs H Q _ => ∃ (l : Addr) (y : V) (t : Value), vs = [.ref l, y] ∧ TyX K H y t ∧ PySem.W.kitOne K t (.ref C) = some false ∧ Q (.bl false) H
section
variable {P : Program} {w : World} {K : PySem.W.Frag} {mg : Str → Option Value} {base : Heap} {tk1 tk2 : Tok}
theorem ok_eqX {f C : Addr} {fd : FuncData} (F : Fun K "__eq__" "Layout.__eq__" s_eq f fd) (T : Txt K mg tk1 tk2) (R : LayTxt K mg C) (I : LayIs K C) : FnOk P w K mg base CX0 1 f fd ["self", "other"] (fun vs H Q E => spEq C vs H Q E ∨ spEqX K C vs H Q E) := by
  refine fn_or (ok_eq F T R I) ?_
  refine F.ok sc_eq (fun vs H Q E h => ?_) (fun cdv A outer s H vs Q E hr h => ?_)
  · obtain ⟨l, y, t, rfl, _⟩ := h
    rfl
  have hu := hr.units
  refine ⟨_, pss_one (ps_ret (pe_and (pe_callB call_isi (by rfl) T.n_isinstance (by decide +kernel) (pa_cons (pv 1) (pa_cons (pe_glob (v := .ref C) rfl R.gC rfl) pa_nil))) (pe_and (pe_cmpR op_eq (pe_fld (pv 0) rfl) (pe_fld (pv 1) rfl) (nomark _)) (pe_one (pe_cmpR (op_eqT hu) (pe_fld (pv 0) rfl) (pe_fld (pv 1) rfl) (nomark _)))))), ?_⟩
  obtain ⟨l, y, t, rfl, ht, hk, hq⟩ := h
  exact ⟨_, rfl, y, .ref C, _, _, false, rfl, .own C, ht, hk, _, rfl, iteF hq⟩
end
end KC

set_option Elab.async false
set_option linter.all false
set_option maxRecDepth 100000
set_option maxHeartbeats 4000000
namespace LF
open PySem PySem.Spec PyProof.Rows L2 GenW
/-- a run that ends nowhere is none -/
theorem wp_no {α : Type} {M : Model} {Γ : PySem.Ctx} (t : Sem α) : ∀ (p : Pos) (s : Shared), Sem.wp M Γ t (fun _ _ _ => False) (fun _ _ _ => False) p s → False := by
  induction t with
  | pure a => intro p s h; rw [Sem.wp] at h; exact h
  | raise e => intro p s h; rw [Sem.wp] at h; exact h
  | unsupported q => intro p s h; rw [Sem.wp] at h; exact h
  | finish e => intro p s h; rw [Sem.wp] at h; exact h
  | register a k => intro p s h; rw [Sem.wp] at h; exact h
  | yield v g l k => intro p s h; rw [Sem.wp] at h; exact h
  | fork c k => intro p s h; rw [Sem.wp] at h; exact h
  | await a f d l k => intro p s h; rw [Sem.wp] at h; exact h
  | rule t k ih => intro p s h; rw [Sem.wp] at h; exact ih _ _ _ h
  | «at» p' k ih => intro p s h; rw [Sem.wp] at h; exact ih _ _ _ h
  | load a q k ih => intro p s h; rw [Sem.wp] at h; obtain ⟨o, _, h⟩ := h; exact ih _ _ _ h
  | update a q f k ih => intro p s h; rw [Sem.wp] at h; exact ih _ _ _ h.2
  | loadIfAlive a k ih => intro p s h; rw [Sem.wp] at h; exact ih _ _ _ h
  | point l k ih => intro p s h; rw [Sem.wp] at h; exact ih _ _ _ h
  | alloc o k ih => intro p s h; rw [Sem.wp] at h; exact ih _ _ _ h
  | fresh k ih => intro p s h; rw [Sem.wp] at h; exact ih _ _ _ h
  | ask k ih => intro p s h; rw [Sem.wp] at h; exact ih _ _ _ h
  | choose q n k ih => intro p s h; rw [Sem.wp] at h; exact ih _ _ _ h.2
  | os q l k ih => intro p s h; rw [Sem.wp] at h; exact ih _ _ _ h
  | call c m g l k ih => intro p s h; rw [Sem.wp] at h; obtain ⟨r, s1, _, h⟩ := h; exact ih _ _ _ h
  | handled o k ih => intro p s h; rw [Sem.wp] at h; exact ih _ _ _ h
  | genState g k ih => intro p s h; rw [Sem.wp] at h; obtain ⟨st, _, h⟩ := h; exact ih _ _ _ h
  | newGen c k ih => intro p s h; rw [Sem.wp] at h; exact ih _ _ _ h
  | resume g r l k ih => intro p s h; rw [Sem.wp] at h; obtain ⟨r1, s1, _, h⟩ := h; exact ih _ _ _ h
  | stack k ih => intro p s h; rw [Sem.wp] at h; exact ih _ _ _ h
  | thread k ih => intro p s h; rw [Sem.wp] at h; exact ih _ _ _ h
/-- the consumer of a generator, while that sleeps: it puts v behind its list at S, and stores at C -/
structure Nap (S C : Addr) (v : Value) (s s' : Shared) : Prop where
  os : s'.os = s.os
  bare : AllBare s'.gens
  rest : ∀ b o, b ≠ S → b ≠ C → s.heap.get? b = some o → s'.heap.get? b = some o
  mine : ∀ acc c, s.heap.get? S = some (lstObj acc c) → ∃ c', s'.heap.get? S = some (lstObj (acc.push v) c')
  oth : ∃ o, s'.heap.get? C = some o ∧ ∀ w, o.data ≠ .cell w
/-- running: ys is out, at S; C is the consumer's -/
def GJ (X : Cx) (S C : Addr) (ip : List (Addr × Obj)) (ys : List V) (σ : L2.St) (H : Hp) (s : Shared) : Prop :=
  ∃ (acc : Array Value) (c : Nat) (oC : Obj), Vals ys acc.toList ∧ Inv X ([(S, lstObj acc c), (C, oC)] ++ ip) σ H s
structure Off (X : Cx) (S C : Addr) : Prop where
  ne : S ≠ C
  s1 : X.s_0.heap.objs.size ≤ S
  s2 : S ≠ X.env.locals
  s3 : ∀ x c, X.env.cells.lookup x = some c → c ≠ S
  s4 : ∀ p ∈ X.pn, p.1 ≠ S
  c1 : X.s_0.heap.objs.size ≤ C
  c2 : C ≠ X.env.locals
  c3 : ∀ x c, X.env.cells.lookup x = some c → c ≠ C
  c4 : ∀ p ∈ X.pn, p.1 ≠ C
theorem GJ.nap {X : Cx} {S C : Addr} {ip : List (Addr × Obj)} {ys : List V} {x : V} {v : Value} {σ : L2.St} {H : Hp} {s s' : Shared} (F : Off X S C) (hip : ∀ p ∈ ip, p.1 ≠ S ∧ p.1 ≠ C) (h : GJ X S C ip ys σ H s) (rv : RelV x v) (z : Nap S C v s s') :
    GJ X S C ip (ys ++ [x]) σ H s' := by
  obtain ⟨acc, c, oC, r, I⟩ := h
  obtain ⟨pS1, pS2, pS3, pS4, _⟩ := I.pin (S, lstObj acc c) (List.mem_append_right _ (List.mem_append_left _ List.mem_cons_self))
  obtain ⟨pC1, pC2, pC3, pC4, pC5⟩ := I.pin (C, oC) (List.mem_append_right _ (List.mem_append_left _ (List.mem_cons_of_mem _ List.mem_cons_self)))
  have I0 : Inv X ip σ H s := I.pins_of fun p hp => I.pin p (List.mem_append_right _ (List.mem_append_right _ hp))
  obtain ⟨z1, z2, z3, z4, oC', z5, z6⟩ := z
  obtain ⟨c', eS'⟩ := z4 acc c pS1
  have tr : ∀ b u, H b = some u → b ≠ S ∧ b ≠ C := fun b u q => ⟨fun e => (by rw [e, pS2] at q; cases q), fun e => (by rw [e, pC2] at q; cases q)⟩
  have out : ∀ b, b ∉ [S, C] → b ≠ S ∧ b ≠ C := fun b hb => ⟨fun e => hb (by rw [e]; exact List.mem_cons_self), fun e => hb (by rw [e]; exact List.mem_cons_of_mem _ List.mem_cons_self)⟩
  obtain ⟨hh, g, d, t, o⟩ := s'
  obtain rfl : o = s.os := z1
  have pair : ∀ b ∈ [S, C], (b ∈ X.ex ∨ X.s_0.heap.objs.size ≤ b) ∧ b ≠ X.env.locals ∧ (∀ x c, X.env.cells.lookup x = some c → c ≠ b) ∧ ∀ p ∈ X.pn ++ ip, p.1 ≠ b := fun b hb => by
    rcases List.mem_cons.mp hb with rfl | hb
    · exact ⟨Or.inr F.s1, F.s2, F.s3, fun p hp => (List.mem_append.mp hp).elim (F.s4 p) fun q => (hip p q).1⟩
    · obtain rfl := List.mem_singleton.mp hb
      exact ⟨Or.inr F.c1, F.c2, F.c3, fun p hp => (List.mem_append.mp hp).elim (F.c4 p) fun q => (hip p q).2⟩
  have J : Inv X ip σ H { s with heap := hh, gens := g, drawn := d, toks := t } := by
    refine I0.step (g' := g) (t' := t) (d' := d) (ch := [S, C]) pair ?_ ?_ ?_ ?_ ?_ ?_ ?_ ?_ ?_ z2
    · exact fun b ob _ _ hc q _ => z3 b ob (out b hc).1 (out b hc).2 q
    · exact fun b ob _ _ hc q _ => ⟨ob.slots, z3 b ob (out b hc).1 (out b hc).2 q⟩
    · exact fun _ _ _ _ n => n
    · exact fun b ob hc q => ⟨ob, z3 b ob (out b hc).1 (out b hc).2 q⟩
    · exact fun _ _ q => q
    · exact fun _ _ _ q => q
    · exact fun b ps q => ⟨#[], by rw [q]; simp⟩
    · rintro m ⟨ob, es, ep, ho, rr⟩
      exact ⟨ob, es, ep, z3 _ ob (Ne.symm pS3) (Ne.symm pC3) ho, rr⟩
    · intro b u q
      have nb : ∀ a, (a = b ∨ ∃ w, H a = some w) → a ≠ S ∧ a ≠ C := fun a ha => by
        rcases ha with rfl | ⟨w, hw⟩
        · exact tr a u q
        · exact tr a w hw
      refine (I0.hok b u q).stay (fun a w ha y => ?_) (fun _ y => y) fun _ _ y => y
      rcases ha with y1 | y1
      · exact z3 a w (by rw [y1]; exact (tr b u q).1) (by rw [y1]; exact (tr b u q).2) y
      · exact z3 a w (tr a _ y1).1 (tr a _ y1).2 y
  refine ⟨acc.push v, c', oC', ?_, J.pins_of fun p hp => ?_⟩
  · rw [Array.toList_push]
    exact r.append (.cons rv .nil)
  · rcases List.mem_append.mp hp with hp | hp
    · rcases List.mem_cons.mp hp with rfl | hp
      · exact ⟨eS', pS2, pS3, pS4, fun v q => nomatch q⟩
      · obtain rfl := List.mem_singleton.mp hp
        exact ⟨z5, pC2, pC3, pC4, z6⟩
    · exact J.pin p (List.mem_append_right _ hp)
end LF

set_option Elab.async false
set_option linter.all false
set_option maxRecDepth 100000
set_option maxHeartbeats 4000000
namespace LF
open PySem PySem.Spec PyProof.Rows L2 GenW
section
variable {M : Model} {A : Around} {R : GenEnd} {Y : Protocol} {n : Nat} {s₀ : Shared} {c : Code} {fs : List Frame} {s : Shared} {env : Env} {K : Flow → Sem Fin} {J : Value → Sem Fin} {gd : Bool → Bool} {lv : List Value → List Value}
/-- no exception -/
abbrev NoX : Value → Shared → Prop := fun _ _ => False
/-- what a loop's call gives back -/
abbrev backR (env : Env) (K : Flow → Sem Fin) (J : Value → Sem Fin) (gd : Bool → Bool) (lv : List Value → List Value) : Result → Sem Fin := fun r =>
  ((match r with | .ok f => (.pure f : Sem Flow) | .error e => .raise e).onRaise (cameBack env)).wrap K J gd lv
theorem seg_forS {tg iter : Expr} {body : List Stmt} {pos : Pos} (hs : ∀ x, foldedSetIterable iter env x = pure x)
    (h : wpAny M (A.over c fs) (eval iter env) (fun v s1 => wpAny M (A.over c fs) (pyIter v) (fun it s2 => ∀ p, Seg M A R Y n s₀ (.forLoop tg it body [] env) (M.den (.forLoop tg it body [] env)) (.ret (backR env K J gd lv) none (gd false) (lv []) c p [] :: fs) s2) NoX s1) NoX s) :
    Seg M A R Y n s₀ c ((exec (.For tg iter body [] pos) env).wrap K J gd lv) fs s := by
  rw [exec_For]
  rw [Sem.bind_eq_wrap', Sem.wrap_wrap]
  refine seg_wrap (wpAny_standAt ?_)
  rw [Sem.bind_eq_wrap', Sem.wrap_wrap]
  refine seg_wrap (wpAny_mono h (fun v s1 h1 => ?_) fun _ _ q => q.elim)
  rw [hs, Sem.bind_eq_wrap', Sem.wrap_wrap]
  refine seg_wrap (wpAny_pure ?_)
  rw [Sem.bind_eq_wrap', Sem.wrap_wrap]
  refine seg_wrap (wpAny_standAt ?_)
  rw [Sem.bind_eq_wrap', Sem.wrap_wrap]
  refine seg_wrap (wpAny_holding (wpAny_mono h1 (fun it s2 h2 => ?_) fun _ _ q => q.elim))
  exact seg_call fun p => h2 p
end
section
variable {prog : Program} {w : World} {A : Around} {R : GenEnd} {Y : Protocol} {n : Nat} {s₀ : Shared} {fs : List Frame} {s : Shared} {env : Env}
abbrev badR (env : Env) : Value → Sem Fin := fun e => (do noteFrame e env; theTreesLotGoes e : Sem Unit).wrap (fun _ => .raise e) .raise id id
abbrev turnR (cd : Code) : Flow → Sem Fin := fun f => match f with
  | .next | .cont => .pure (.again cd)
  | .brk => .pure (.done .next)
  | .ret v => .pure (.done (.ret v))
theorem seg_blk0 (h : Seg (model prog w) A R Y n s₀ (.block [] env) (leafOf (.ok .next)) fs s) : Seg (model prog w) A R Y n s₀ (.block [] env) ((model prog w).den (.block [] env)) fs s := h
theorem seg_forT {tg : Expr} {it : Value} {body : List Stmt}
    (h : wpAny (model prog w) (A.over (.forLoop tg it body [] env) fs) (pyNext it) (fun r s1 => match r with
      | none => Seg (model prog w) A R Y n s₀ (.block [] env) (leafOf (.ok .next)) fs s1
      | some v => wpAny (model prog w) (A.over (.forLoop tg it body [] env) fs) (letOwnedTupleGo tg it v) (fun _ s2 => wpAny (model prog w) (A.over (.forLoop tg it body [] env) fs) (assign tg env v) (fun _ s3 =>
          Seg (model prog w) A R Y n s₀ (.forLoop tg it body [] env) ((execs body env).wrap (turnR (.forLoop tg it body [] env)) (badR env) id id) fs s3) NoX s2) NoX s1) NoX s) :
    Seg (model prog w) A R Y n s₀ (.forLoop tg it body [] env) ((model prog w).den (.forLoop tg it body [] env)) fs s := by
  show Seg _ A R Y n s₀ _ ((forTurn tg it body [] env).onRaise (fun x => do noteFrame x env; theTreesLotGoes x)) fs s
  rw [Sem.onRaise_eq_wrap]
  unfold forTurn
  rw [Sem.bind_eq_wrap', Sem.wrap_wrap]
  refine seg_wrap (wpAny_standAt ?_)
  rw [Sem.bind_eq_wrap', Sem.wrap_wrap]
  refine seg_wrap (wpAny_onRaise (wpAny_mono h (fun r s1 h1 => ?_) fun _ _ q => q.elim))
  cases r with
  | none => exact seg_again rfl (seg_blk0 h1)
  | some v =>
    show Seg _ A R Y n s₀ _ (Sem.wrap _ _ _ _ (letOwnedTupleGo tg it v >>= fun _ => assign tg env v >>= fun _ => execs body env >>= fun f => _)) fs s1
    rw [Sem.bind_eq_wrap', Sem.wrap_wrap]
    refine seg_wrap (wpAny_mono h1 (fun _ s2 h2 => ?_) fun _ _ q => q.elim)
    rw [Sem.bind_eq_wrap', Sem.wrap_wrap]
    refine seg_wrap (wpAny_mono h2 (fun _ s3 h3 => ?_) fun _ _ q => q.elim)
    rw [Sem.bind_eq_wrap', Sem.wrap_wrap]
    rw [Sem.wrap_congr (execs body env) _ _ (K' := turnR (.forLoop tg it body [] env)) (H' := badR env) (fun f => by cases f <;> rfl) (fun e => by
      show ((do noteFrame e env; theTreesLotGoes e : Sem Unit).bind fun _ => .raise e) = _
      rw [Sem.bind_eq_wrap])]
    exact h3
end
end LF

set_option Elab.async false
set_option linter.all false
set_option maxRecDepth 100000
set_option maxHeartbeats 4000000
namespace LF
open PySem PySem.Spec PyProof.Rows L2 GenW
def NY (X : Cx) (S C : Addr) : Protocol := fun n s₀ v s kap => ∃ ys x ip σ H, n + 1 + ys.length = sizeLine ∧ RelV x v ∧ GJ X S C ip ys σ H s ∧ s.heap.get? C = s₀.heap.get? C ∧ ∀ s', Nap S C v s s' → kap (.send .none) s'
/-- for tg in iter: yield e, what it wants: N turns, Pv by what is out -/
def tGF (wi : TI) (g : TG) (te : TE) : L2.St → Hp → (List V → L2.St → Hp → Prop) → Prop := fun σ H Q => wi σ H fun Jt H1 => ∃ (N : Nat) (Pv : Nat → List V → L2.St → Hp → Prop), N ≤ sizeLine ∧ Pv 0 [] σ H1 ∧ (∀ i ys σ H, Pv i ys σ H → ys.length = i) ∧
  (∀ i ys σ H, i < N → Pv i ys σ H → Jt.go i H ∧ ∀ x H', Jt.yld i H x H' → g x σ H' fun σ2 H2 => te σ2 H2 fun y H3 => Pv (i + 1) (ys ++ [y]) σ2 H3) ∧ (∀ ys σ H, Pv N ys σ H → Jt.stop N H ∧ Q ys σ H)
theorem atC {X : Cx} {S C : Addr} {l oC : Obj} {ip : List (Addr × Obj)} {σ : L2.St} {H : Hp} {s : Shared} (I : Inv X ([(S, l), (C, oC)] ++ ip) σ H s) : s.heap.get? C = some oC :=
  (I.pin (C, oC) (List.mem_append_right _ (List.mem_append_left _ (List.mem_cons_of_mem _ List.mem_cons_self)))).1
theorem gen_for {X : Cx} {S C : Addr} {tg iter e : Expr} {yp yq pos : Pos} {wi : TI} {g : TG} {te : TE} (hc : X.calm = true) (hi : PI X tg iter wi) (hg : PG X tg g) (he : PE X e te) (hs : ∀ x, foldedSetIterable iter X.env x = pure x) (noX : ∀ e s, X.xe e s → False) (F : Off X S C)
    (hco : X.env.scope.isCoroutine = false) (hin : interactive X.env = false)
    {A : Around} {R : GenEnd} {c : Code} {fs : List Frame} {K : Flow → Sem Fin} {J : Value → Sem Fin} {gd : Bool → Bool} {lv : List Value → List Value} {n : Nat} {s₀ s : Shared} {σ : L2.St} {H : Hp} {Q : List V → L2.St → Hp → Prop}
    (ho : A.over c fs = X.A) (h1 : splitAtGen fs = none) (h2 : fs.any Frame.guarded = false) (h3 : gd false = false) (hn : n = sizeLine) (hI : GJ X S C [] [] σ H s) (hC0 : s.heap.get? C = s₀.heap.get? C) (ht : tGF wi g te σ H Q)
    (fin : ∀ n ys s₀ s σ H, n + ys.length = sizeLine → GJ X S C [] ys σ H s → s.heap.get? C = s₀.heap.get? C → Q ys σ H → Seg (model X.prog X.w) A R (NY X S C) n s₀ c (K .next) fs s) :
    Seg (model X.prog X.w) A R (NY X S C) n s₀ c ((exec (.For tg iter [.Expr (.Yield (some e) yp) yq] [] pos) X.env).wrap K J gd lv) fs s := by
  obtain ⟨acc, cc, oC, hv, I⟩ := hI
  refine seg_forS hs ?_
  rw [ho]
  refine wpAny_mono (hi.run _ s σ H _ I ht) (fun v s1 q1 => wpAny_mono q1 (fun itv s2 q2 => ?_) fun e s' q => noX e s' q) fun e s' q => noX e s' q
  obtain ⟨it, fp, tn, Jt, H2, rfl, I2, T, st2, f2, N, Pv, hN, p0, hlen, hgo, hstop⟩ := q2
  intro p
  have neS : ∀ b ∈ fp, S ≠ b ∧ C ≠ b := fun b hb => ⟨(f2 b hb).2.2.2.2.2 (S, lstObj acc cc) (List.mem_append_right _ (List.mem_append_left _ List.mem_cons_self)), (f2 b hb).2.2.2.2.2 (C, oC) (List.mem_append_right _ (List.mem_append_left _ (List.mem_cons_of_mem _ List.mem_cons_self)))⟩
  have stat : ∀ {a2 : Array Value} {c2 : Nat} {o2 : Obj} {H' : Hp}, (∀ b ∈ fp, H' b = none) → ∀ b ∈ fp, FpOk X ([(S, lstObj a2 c2), (C, o2)] ++ []) H' b := fun {a2 c2 o2 H'} hf b hb => by
    obtain ⟨_, w2, w3, w4, w5, w6⟩ := f2 b hb
    refine ⟨hf b hb, w2, w3, w4, w5, fun p hp => ?_⟩
    rcases List.mem_append.mp hp with hp | hp
    · exact w6 p (List.mem_append_left _ hp)
    · rw [List.append_nil] at hp
      rcases List.mem_cons.mp hp with rfl | hp
      · exact (neS b hb).1
      · obtain rfl := List.mem_singleton.mp hp
        exact (neS b hb).2
  have over' : A.over (.forLoop tg (.ref it) [.Expr (.Yield (some e) yp) yq] [] X.env) (.ret (backR X.env K J gd lv) none (gd false) (lv []) c p [] :: fs) = X.A := (over_loop rfl rfl).trans ho
  have split' : splitAtGen (.ret (backR X.env K J gd lv) none (gd false) (lv []) c p [] :: fs) = none := by
    show (splitAtGen fs).map _ = none
    rw [h1]; rfl
  have guard' : (Frame.ret (backR X.env K J gd lv) none (gd false) (lv []) c p [] :: fs).any Frame.guarded = false := by
    show (gd false || fs.any Frame.guarded) = false
    rw [h3, h2]; rfl
  generalize hfs : (Frame.ret (backR X.env K J gd lv) none (gd false) (lv []) c p [] :: fs) = fs' at over' split' guard' ⊢
  have loop : ∀ m i, N - i = m → i ≤ N → ∀ (n : Nat) (ys : List V) (s₀ s : Shared) (σ : L2.St) (H : Hp), n + ys.length = sizeLine → GJ X S C [] ys σ H s → s.heap.get? C = s₀.heap.get? C → tn i s.heap → (∀ b ∈ fp, H b = none) → Pv i ys σ H →
      Seg (model X.prog X.w) A R (NY X S C) n s₀ (.forLoop tg (.ref it) [.Expr (.Yield (some e) yp) yq] [] X.env) ((model X.prog X.w).den (.forLoop tg (.ref it) [.Expr (.Yield (some e) yp) yq] [] X.env)) fs' s := by
    intro m
    induction m with
    | zero =>
      intro i hm hi' n ys s₀ s σ H hn ⟨a2, c2, o2, hv2, I2⟩ eC st fr pv
      obtain rfl : i = N := by omega
      obtain ⟨stop, qq⟩ := hstop ys σ H pv
      refine seg_forT ?_
      rw [over']
      refine wpAny_mono (T.done X rfl rfl rfl hc i _ s σ H NoX I2 (stat fr) st stop) (fun r s4 ⟨hr, I4⟩ => ?_) fun _ _ q => q
      subst hr
      subst hfs
      refine seg_leaf (.ok .next) ?_
      exact fin n ys s₀ s4 σ H hn ⟨a2, c2, o2, hv2, I4⟩ ((atC I4).trans ((atC I2).symm.trans eC)) qq
    | succ m ih =>
      intro i hm hi' n ys s₀ s σ H hn ⟨a2, c2, o2, hv2, I2⟩ eC st fr pv
      have hlt : i < N := by omega
      obtain ⟨go, step⟩ := hgo i ys σ H hlt pv
      have hyl := hlen i ys σ H pv
      refine seg_forT ?_
      rw [over']
      refine wpAny_mono (T.item X rfl rfl rfl hc i _ s σ H NoX I2 (stat fr) st go) (fun r s4 ⟨u, hr, h4⟩ => ?_) fun _ _ q => q
      subst hr
      refine wpAny_mono h4 (fun _ s5 ⟨x, H5, I5, r5, y5, st5, fr5⟩ => ?_) fun _ _ q => q
      have I5' := I5.pinned (stat fr5) (T.obj _ _ st5)
      refine wpAny_mono (hg.run _ s5 σ H5 x u _ I5' r5 (step x H5 y5)) (fun _ s6 ⟨σ6, H6, I6, q6⟩ => ?_) fun e s' q => noX e s' q
      obtain ⟨n', rfl⟩ : ∃ n', n = n' + 1 := ⟨n - 1, by omega⟩
      refine seg_execs_cons (seg_Expr_Yield split' rfl guard' ?_ hco hin)
      rw [over']
      refine wpAny_mono (he.run _ s6 σ6 H6 _ I6 q6) (fun v s7 ⟨y, H7, I7, r7, pv7⟩ => ?_) fun e s' q => (noX e s' q).elim
      intro kap hk
      have hip : ∀ q ∈ pinsAt fp s5.heap, q.1 ≠ S ∧ q.1 ≠ C := fun q hq => by
        have hb := (of_pinsAt hq).1
        exact ⟨(neS _ hb).1.symm, (neS _ hb).2.symm⟩
      have I7' : Inv X ([(S, lstObj a2 c2), (C, o2)] ++ pinsAt fp s5.heap) σ6 H7 s7 := by
        rw [List.append_nil] at I7
        exact I7
      refine ⟨ys, y, pinsAt fp s5.heap, σ6, H7, hn, r7, ⟨a2, c2, o2, hv2, I7'⟩, (atC I7').trans ((atC I2).symm.trans eC), fun s' z => hk .none s' ?_⟩
      obtain ⟨a8, c8, o8, hv8, I8⟩ := GJ.nap F hip ⟨a2, c2, o2, hv2, I7'⟩ r7 z
      have pin8 : ∀ b ∈ fp, ∀ o, s5.heap.get? b = some o → s'.heap.get? b = some o ∧ H7 b = none := fun b hb o e =>
        let w := I8.pin (b, o) (List.mem_append_right _ (List.mem_append_right _ (mem_pinsAt hb e)))
        ⟨w.1, w.2.1⟩
      refine seg_execs_nil (seg_again rfl (ih (i + 1) (by omega) (by omega) n' (ys ++ [y]) s' s' σ6 H7 ?_ ⟨a8, c8, o8, hv8, I8.pins_of fun q hq => I8.pin q (List.mem_append_right _ ?_)⟩ rfl (T.keep _ _ _ st5 fun b hb o e => (pin8 b hb o e).1) (fun b hb => ?_) pv7))
      · rw [List.length_append, List.length_singleton]; omega
      · rw [List.append_nil] at hq
        exact List.mem_append_left _ hq
      · obtain ⟨o, e, _⟩ := T.obj _ _ st5 b hb
        exact (pin8 b hb o e).2
  exact loop N 0 (by omega) (Nat.zero_le _) n [] s₀ s2 σ H2 (by rw [List.length_nil, hn]; rfl) ⟨acc, cc, oC, hv, I2⟩ ((atC I2).trans ((atC I).symm.trans hC0)) st2 (fun b hb => (f2 b hb).1) p0
end LF

set_option Elab.async false
set_option linter.all false
set_option maxRecDepth 100000
set_option maxHeartbeats 4000000
namespace LF
open PySem PySem.Spec PyProof.Rows L2 GenW
abbrev SpH := List V → Hp → (List V → Hp → Prop) → Prop
abbrev E00 : XK := fun _ _ _ => False
/-- the generator is through: all that was handed out stands at S -/
def NFin (P : Program) (w : World) (outer : List Env) (H : Hp) (s : Shared) (S C : Addr) (Q : List V → Hp → Prop) : Nat → Shared → Shared → Prop := fun _ s₀ s1 =>
  s1.heap.get? C = s₀.heap.get? C ∧ ∃ H' ys acc c, s1.os = s.os ∧ AllBare s1.gens ∧ Un (frs outer) [] H H' s.heap s1.heap ∧ HOk P w H' s1.heap ∧ H' S = none ∧ H' C = none ∧ s1.heap.get? S = some (lstObj acc c) ∧ Vals ys acc.toList ∧ ys.length ≤ sizeLine ∧ Q ys H'
abbrev NEr : Value → Shared → Prop := fun _ _ => False
def NEnd (P : Program) (w : World) (outer : List Env) (H : Hp) (s : Shared) (S C : Addr) (Q : List V → Hp → Prop) : GenEnd := fun n s₀ r s1 =>
  ((r = .ok (.ret .none) ∨ r = .ok .next) ∧ NFin P w outer H s S C Q n s₀ s1) ∨ ∃ e, r = .error e ∧ NEr e s1
def NItem (s : Shared) (S C a : Addr) (g : Nat) : Protocol := fun n s₀ v s1 kap =>
  s1.os = s.os ∧ AllBare s1.gens ∧ s1.heap.NoLimit ∧ s1.heap.IsGen a g ∧ s1.heap.get? C = s₀.heap.get? C ∧ (∃ (acc : Array Value) (c : Nat), s1.heap.get? S = some (lstObj acc c) ∧ n + 1 + acc.size = sizeLine) ∧ ∀ s', Nap S C v s1 s' → kap (.send .none) s'
/-- a generator that has not begun -/
def GMadeC (P : Program) (w : World) (k : Nat) (outer : List Env) (H : Hp) (s : Shared) (Q : List V → Hp → Prop) (u : Value) (s' : Shared) : Prop :=
  ∃ (a : Addr) (g : Nat) (c : Code), u = .ref a ∧ s.heap.objs.size ≤ a ∧ a < s'.heap.objs.size ∧ s'.heap.IsGen a g ∧ s'.gens[g]? = some (.fresh c) ∧ s'.os = s.os ∧ AllBare s'.gens ∧ s'.heap.NoLimit ∧ (∀ b o, s.heap.get? b = some o → s'.heap.get? b = some o) ∧
    ∀ (A : Around) (S C : Addr) (s2 : Shared), Room k A → A.frames = some outer → s'.heap.objs.size ≤ S → s'.heap.objs.size ≤ C → S ≠ C → (∀ b o, s'.heap.get? b = some o → s2.heap.get? b = some o) → (∃ c, s2.heap.get? S = some (lstObj #[] c)) →
      (∃ o, s2.heap.get? C = some o ∧ ∀ v, o.data ≠ .cell v) → s2.os = s.os → AllBare s2.gens → Seg (model P w) A (NEnd P w outer H s S C Q) (NItem s S C a g) sizeLine s2 c ((model P w).den c) [] s2
structure GFnC (P : Program) (w : World) (K : PySem.W.Frag) (mg : Str → Option Value) (base : Heap) (k : Nat) (f : Addr) (fd : FuncData) (ps : List Str) (sp : SpH) : Prop where
  len : ∀ vs H Q, sp vs H Q → vs.length = ps.length
  run : ∀ (A : Around) (outer : List Env) (s : Shared) (H : Hp) (args : Args) (us : List Value) (vs : List V) (Q : List V → Hp → Prop), Room k A → Env0 P w K mg base A outer s H → BindsTo s fd args (ps.zip us) → Vals vs us → sp vs H Q →
    codeAny (model P w) A (.call (.ref f) args) (fun r s' => match r with | .ok (.ret u) => GMadeC P w k outer H s Q u s' | _ => False) s
theorem seg_weak {M : Model} {A : Around} {R R' : GenEnd} {Y Y' : Protocol} (hR : ∀ n s₀ r s, R n s₀ r s → R' n s₀ r s) (hY : ∀ n s₀ v s kap kap', (∀ r s', kap r s' → kap' r s') → Y n s₀ v s kap → Y' n s₀ v s kap')
    (n : Nat) {s₀ : Shared} {c : Code} {t : Sem Fin} {fs : List Frame} {s : Shared} (h : Seg M A R Y n s₀ c t fs s) : Seg M A R' Y' n s₀ c t fs s := seg_imp hR hY n h
theorem gen_noX {P : Program} {w : World} {K : PySem.W.Frag} {mg : Str → Option Value} {base : Heap} {N : List Str} {qual : Str} {scope : Scope} {f : Addr} {cdv : Value} {A : Around} {outer : List Env} {s : Shared} {H : Hp} {pn : List (Addr × Obj)} {Γ : PySem.Ctx}
    (hΓ : Γ.In (gcxOf P w K mg base N qual scope f cdv A outer s H E00 pn).A) : ∀ e s', (gcxOf P w K mg base N qual scope f cdv A outer s H E00 pn).xe e s' → False := fun e s' hx => by
  have h : wpAny (model P w) (A.deeper (envOfC qual scope s.heap.objs.size f cdv)) (leaving (envOfC qual scope s.heap.objs.size f cdv) e) (fun _ s'' => CX P w outer H s E00 e s'' ∧ ∀ p ∈ pn, s''.heap.get? p.1 = some p.2) (fun _ _ => False) s' := hx
  have h2 := wpAny_mono h (Q' := fun _ _ => False) (E' := fun _ _ => False) (fun _ s'' q => by
    obtain ⟨⟨a, B, H', cls, d, _, _, _, _, _, _, _, hW⟩, _⟩ := q
    exact hW) fun _ _ q => q
  exact wp_no _ _ _ (h2 Γ default hΓ)
end LF

set_option Elab.async false
set_option linter.all false
set_option maxRecDepth 100000
set_option maxHeartbeats 4000000
namespace LF
open PySem PySem.Spec PyProof.Rows L2 GenW
abbrev GT := List V → L2.St → Hp → (List V → L2.St → Hp → Prop) → Prop
/-- a part of a generator's body, S the consumer's list, C its cell: ip are the pins of the walks around it -/
def GSt (X : Cx) (S C : Addr) (run : Sem Flow) (t : GT) : Prop :=
  ∀ (A : Around) (R : GenEnd) (c : Code) (fs : List Frame) (K : Flow → Sem Fin) (J : Value → Sem Fin) (gd : Bool → Bool) (lv : List Value → List Value) (n : Nat) (s₀ s : Shared) (σ : L2.St) (H : Hp) (ip : List (Addr × Obj)) (ys : List V) (Q : List V → L2.St → Hp → Prop),
    A.over c fs = X.A → splitAtGen fs = none → fs.any Frame.guarded = false → gd false = false → (∀ p ∈ ip, p.1 ≠ S ∧ p.1 ≠ C) → n + ys.length = sizeLine → GJ X S C ip ys σ H s → s.heap.get? C = s₀.heap.get? C → t ys σ H Q →
    (∀ n ys s₀ s σ H, n + ys.length = sizeLine → GJ X S C ip ys σ H s → s.heap.get? C = s₀.heap.get? C → Q ys σ H → Seg (model X.prog X.w) A R (NY X S C) n s₀ c (K .next) fs s) →
    Seg (model X.prog X.w) A R (NY X S C) n s₀ c (run.wrap K J gd lv) fs s
section
variable {X : Cx} {S C : Addr}
theorem gst_yield {e : Expr} {yp yq : Pos} {te : TE} (he : PE X e te) (noX : ∀ e s, X.xe e s → False) (F : Off X S C) (hco : X.env.scope.isCoroutine = false) (hin : interactive X.env = false) :
    GSt X S C (exec (.Expr (.Yield (some e) yp) yq) X.env) (fun ys σ H Q => ys.length < sizeLine ∧ te σ H fun y H1 => Q (ys ++ [y]) σ H1) := by
  intro A R c fs K J gd lv n s₀ s σ H ip ys Q ho h1 h2 h3 hip hn hI hC0 ht fin
  obtain ⟨hyl, ht⟩ := ht
  obtain ⟨a2, c2, o2, hv2, I2⟩ := hI
  obtain ⟨n', rfl⟩ : ∃ n', n = n' + 1 := ⟨n - 1, by omega⟩
  refine seg_Expr_Yield h1 h3 h2 ?_ hco hin
  rw [ho]
  refine wpAny_mono (he.run _ s σ H _ I2 ht) (fun v s7 ⟨y, H7, I7, r7, pv7⟩ => ?_) fun e s' q => (noX e s' q).elim
  intro kap hk
  refine ⟨ys, y, ip, σ, H7, hn, r7, ⟨a2, c2, o2, hv2, I7⟩, (atC I7).trans ((atC I2).symm.trans hC0), fun s' z => hk .none s' ?_⟩
  exact fin n' (ys ++ [y]) s' s' σ H7 (by rw [List.length_append, List.length_singleton]; omega) (GJ.nap F hip ⟨a2, c2, o2, hv2, I7⟩ r7 z) rfl pv7
theorem gst_ps {st : Stmt} {ts : TS} (hp : PS X st ts) (noX : ∀ e s, X.xe e s → False) : GSt X S C (exec st X.env) (fun ys σ H Q => ts { nx := fun σ' H' => Q ys σ' H', rt := fun _ _ => False, bk := fun _ _ => False, ct := fun _ _ => False } σ H) := by
  intro A R c fs K J gd lv n s₀ s σ H ip ys Q ho h1 h2 h3 hip hn hI hC0 ht fin
  obtain ⟨a2, c2, o2, hv2, I2⟩ := hI
  refine seg_wrap ?_
  rw [ho]
  refine wpAny_mono (hp.run _ s σ H _ I2 ht) (fun f s7 q => ?_) fun e s' q => (noX e s' q).elim
  cases f with
  | next =>
    obtain ⟨σ7, H7, I7, q⟩ := q
    exact fin n ys s₀ s7 σ7 H7 hn ⟨a2, c2, o2, hv2, I7⟩ ((atC I7).trans ((atC I2).symm.trans hC0)) q
  | brk => obtain ⟨_, _, _, q⟩ := q; exact q.elim
  | cont => obtain ⟨_, _, _, q⟩ := q; exact q.elim
  | ret u => obtain ⟨_, _, _, _, _, q⟩ := q; exact q.elim
theorem gst_nil : GSt X S C (execs [] X.env) (fun ys σ H Q => Q ys σ H) := by
  intro A R c fs K J gd lv n s₀ s σ H ip ys Q ho h1 h2 h3 hip hn hI hC0 ht fin
  exact seg_execs_nil (fin n ys s₀ s σ H hn hI hC0 ht)
theorem gst_cons {st : Stmt} {rest : List Stmt} {t u : GT} (a : GSt X S C (exec st X.env) t) (b : GSt X S C (execs rest X.env) u) : GSt X S C (execs (st :: rest) X.env) (fun ys σ H Q => t ys σ H fun ys' σ' H' => u ys' σ' H' Q) := by
  intro A R c fs K J gd lv n s₀ s σ H ip ys Q ho h1 h2 h3 hip hn hI hC0 ht fin
  refine seg_execs_cons (a A R c fs _ J gd lv n s₀ s σ H ip ys _ ho h1 h2 h3 hip hn hI hC0 ht fun n2 ys2 s₂ s2 σ2 H2 hn2 hI2 hC2 hq => ?_)
  exact b A R c fs K J gd lv n2 s₂ s2 σ2 H2 ip ys2 Q ho h1 h2 h3 hip hn2 hI2 hC2 hq fin
/-- for tg in iter: body -/
def tGFor (wi : TI) (g : TG) (tb : GT) : GT := fun ys σ H Q => wi σ H fun Jt H1 => ∃ (N : Nat) (Pv : Nat → List V → L2.St → Hp → Prop), Pv 0 ys σ H1 ∧
  (∀ i ys σ H, i < N → Pv i ys σ H → Jt.go i H ∧ ∀ x H', Jt.yld i H x H' → g x σ H' fun σ2 H2 => tb ys σ2 H2 (Pv (i + 1))) ∧ (∀ ys σ H, Pv N ys σ H → Jt.stop N H ∧ Q ys σ H)
theorem gst_for {tg iter : Expr} {body : List Stmt} {pos : Pos} {wi : TI} {g : TG} {tb : GT} (hc : X.calm = true) (hi : PI X tg iter wi) (hg : PG X tg g) (hb : GSt X S C (execs body X.env) tb) (hs : ∀ x, foldedSetIterable iter X.env x = pure x) (noX : ∀ e s, X.xe e s → False) :
    GSt X S C (exec (.For tg iter body [] pos) X.env) (tGFor wi g tb) := by
  intro A R c fs K J gd lv n s₀ s σ H ip ys Q ho h1 h2 h3 hip hn hI hC0 ht fin
  obtain ⟨acc, cc, oC, hv, I⟩ := hI
  refine seg_forS hs ?_
  rw [ho]
  refine wpAny_mono (hi.run _ s σ H _ I ht) (fun v s1 q1 => wpAny_mono q1 (fun itv s2 q2 => ?_) fun e s' q => noX e s' q) fun e s' q => noX e s' q
  obtain ⟨it, fp, tn, Jt, H2, rfl, I2, T, st2, f2, N, Pv, p0, hgo, hstop⟩ := q2
  intro p
  have neS : ∀ b ∈ fp, S ≠ b ∧ C ≠ b := fun b hb => ⟨(f2 b hb).2.2.2.2.2 (S, lstObj acc cc) (List.mem_append_right _ (List.mem_append_left _ List.mem_cons_self)), (f2 b hb).2.2.2.2.2 (C, oC) (List.mem_append_right _ (List.mem_append_left _ (List.mem_cons_of_mem _ List.mem_cons_self)))⟩
  have stat : ∀ {a2 : Array Value} {c2 : Nat} {o2 : Obj} {H' : Hp}, (∀ b ∈ fp, H' b = none) → ∀ b ∈ fp, FpOk X ([(S, lstObj a2 c2), (C, o2)] ++ ip) H' b := fun {a2 c2 o2 H'} hf b hb => by
    obtain ⟨_, w2, w3, w4, w5, w6⟩ := f2 b hb
    refine ⟨hf b hb, w2, w3, w4, w5, fun p hp => ?_⟩
    rcases List.mem_append.mp hp with hp | hp
    · exact w6 p (List.mem_append_left _ hp)
    · rcases List.mem_append.mp hp with hp | hp
      · rcases List.mem_cons.mp hp with rfl | hp
        · exact (neS b hb).1
        · obtain rfl := List.mem_singleton.mp hp
          exact (neS b hb).2
      · exact w6 p (List.mem_append_right _ (List.mem_append_right _ hp))
  have over' : A.over (.forLoop tg (.ref it) body [] X.env) (.ret (backR X.env K J gd lv) none (gd false) (lv []) c p [] :: fs) = X.A := (over_loop rfl rfl).trans ho
  have split' : splitAtGen (.ret (backR X.env K J gd lv) none (gd false) (lv []) c p [] :: fs) = none := by
    show (splitAtGen fs).map _ = none
    rw [h1]; rfl
  have guard' : (Frame.ret (backR X.env K J gd lv) none (gd false) (lv []) c p [] :: fs).any Frame.guarded = false := by
    show (gd false || fs.any Frame.guarded) = false
    rw [h3, h2]; rfl
  generalize hfs : (Frame.ret (backR X.env K J gd lv) none (gd false) (lv []) c p [] :: fs) = fs' at over' split' guard' ⊢
  have loop : ∀ m i, N - i = m → i ≤ N → ∀ (n : Nat) (ys : List V) (s₀ s : Shared) (σ : L2.St) (H : Hp), n + ys.length = sizeLine → GJ X S C ip ys σ H s → s.heap.get? C = s₀.heap.get? C → tn i s.heap → (∀ b ∈ fp, H b = none) → Pv i ys σ H →
      Seg (model X.prog X.w) A R (NY X S C) n s₀ (.forLoop tg (.ref it) body [] X.env) ((model X.prog X.w).den (.forLoop tg (.ref it) body [] X.env)) fs' s := by
    intro m
    induction m with
    | zero =>
      intro i hm hi' n ys s₀ s σ H hn ⟨a2, c2, o2, hv2, I2⟩ eC st fr pv
      obtain rfl : i = N := by omega
      obtain ⟨stop, qq⟩ := hstop ys σ H pv
      refine seg_forT ?_
      rw [over']
      refine wpAny_mono (T.done X rfl rfl rfl hc i _ s σ H NoX I2 (stat fr) st stop) (fun r s4 ⟨hr, I4⟩ => ?_) fun _ _ q => q
      subst hr
      subst hfs
      refine seg_leaf (.ok .next) ?_
      exact fin n ys s₀ s4 σ H hn ⟨a2, c2, o2, hv2, I4⟩ ((atC I4).trans ((atC I2).symm.trans eC)) qq
    | succ m ih =>
      intro i hm hi' n ys s₀ s σ H hn ⟨a2, c2, o2, hv2, I2⟩ eC st fr pv
      have hlt : i < N := by omega
      obtain ⟨go, step⟩ := hgo i ys σ H hlt pv
      refine seg_forT ?_
      rw [over']
      refine wpAny_mono (T.item X rfl rfl rfl hc i _ s σ H NoX I2 (stat fr) st go) (fun r s4 ⟨u, hr, h4⟩ => ?_) fun _ _ q => q
      subst hr
      refine wpAny_mono h4 (fun _ s5 ⟨x, H5, I5, r5, y5, st5, fr5⟩ => ?_) fun _ _ q => q
      have I5' := I5.pinned (stat fr5) (T.obj _ _ st5)
      refine wpAny_mono (hg.run _ s5 σ H5 x u _ I5' r5 (step x H5 y5)) (fun _ s6 ⟨σ6, H6, I6, q6⟩ => ?_) fun e s' q => noX e s' q
      rw [List.append_assoc] at I6
      refine hb A R _ fs' _ _ id id n s₀ s6 σ6 H6 (ip ++ pinsAt fp s5.heap) ys (Pv (i + 1)) over' split' guard' rfl (fun q hq => ?_) hn ⟨a2, c2, o2, hv2, I6⟩ ((atC I6).trans ((atC I2).symm.trans eC)) q6 fun n8 ys8 s₈ s8 σ8 H8 hn8 hI8 hC8 pv8 => ?_
      · rcases List.mem_append.mp hq with hq | hq
        · exact hip q hq
        · have hb := (of_pinsAt hq).1
          exact ⟨(neS _ hb).1.symm, (neS _ hb).2.symm⟩
      obtain ⟨a8, c8, o8, hv8, I8⟩ := hI8
      have pin8 : ∀ b ∈ fp, ∀ o, s5.heap.get? b = some o → s8.heap.get? b = some o ∧ H8 b = none := fun b hb o e =>
        let w := I8.pin (b, o) (List.mem_append_right _ (List.mem_append_right _ (List.mem_append_right _ (mem_pinsAt hb e))))
        ⟨w.1, w.2.1⟩
      refine seg_again rfl (ih (i + 1) (by omega) (by omega) n8 ys8 s₈ s8 σ8 H8 hn8 ⟨a8, c8, o8, hv8, I8.pins_of fun q hq => I8.pin q (List.mem_append_right _ ?_)⟩ hC8 (T.keep _ _ _ st5 fun b hb o e => (pin8 b hb o e).1) (fun b hb => ?_) pv8)
      · rcases List.mem_append.mp hq with hq | hq
        · exact List.mem_append_left _ hq
        · exact List.mem_append_right _ (List.mem_append_left _ hq)
      · obtain ⟨o, e, _⟩ := T.obj _ _ st5 b hb
        exact (pin8 b hb o e).2
  exact loop N 0 (by omega) (Nat.zero_le _) n ys s₀ s2 σ H2 hn ⟨acc, cc, oC, hv, I2⟩ ((atC I2).trans ((atC I).symm.trans hC0)) st2 (fun b hb => (f2 b hb).1) p0
end
end LF

set_option Elab.async false
set_option linter.all false
set_option maxRecDepth 100000
set_option maxHeartbeats 4000000
namespace LF
open PySem PySem.Spec PyProof.Rows L2 GenW
section
variable {X : Cx} {S C : Addr}
/-- around a walk: the dict that it walks over does not change -/
def tGLock (t : GT) : GT := fun ys σ H Q => ∃ (d : Addr) (u : HO), H d = some u ∧ Mut (some u) ∧ ∀ od, t ys σ (upd H d (.frz od u)) fun ys' σ' H' => H' d = some (.frz od u) ∧ Q ys' σ' (upd H' d u)
theorem gst_lock {run : Sem Flow} {t : GT} (h : GSt X S C run t) : GSt X S C run (tGLock t) := by
  intro A R c fs K J gd lv n s₀ s σ H ip ys Q ho h1 h2 h3 hip hn hI hC0 ht fin
  obtain ⟨d, u, hd, mu, ht⟩ := ht
  obtain ⟨a2, c2, o2, hv2, I2⟩ := hI
  obtain ⟨od, I4⟩ := I2.lock hd mu
  have nf := I2.nofrz hd mu
  exact h A R c fs K J gd lv n s₀ s σ _ ip ys _ ho h1 h2 h3 hip hn ⟨a2, c2, o2, hv2, I4⟩ hC0 (ht od) fun n8 ys8 s₈ s8 σ8 H8 hn8 ⟨a8, c8, o8, hv8, I8⟩ hC8 ⟨hd8, q8⟩ => fin n8 ys8 s₈ s8 σ8 _ hn8 ⟨a8, c8, o8, hv8, I8.unlock hd8 nf⟩ hC8 q8
end
/-- a generator def of any body -/
theorem gfnC_ofB {P : Program} {w : World} {K : PySem.W.Frag} {mg : Str → Option Value} {base : Heap} {k : Nat} {f : Addr} {name qual : Str} {params : Arguments} {body : List Stmt} {scope : Scope} {dV kV doc pm cdv ct oc : Value} {an od : Option Addr}
    {osl : Array (Option Value)} {N ps : List Str} {sp : SpH} (lk : K.lookup f = some ⟨oc, od, .func (PySem.W.fnOf name qual params body scope dV kV doc pm an cdv ct), osl⟩) (hcd : PySem.W.codeIn K cdv qual = true) (G0 : GScope N ps scope) (hint : ∀ n, interactive (envOfC qual scope n f cdv) = false)
    (len : ∀ vs H Q, sp vs H Q → vs.length = ps.length)
    (hbody : ∀ (A : Around) (outer : List Env) (s : Shared) (H : Hp) (vs : List V) (Q : List V → Hp → Prop) (pn : List (Addr × Obj)), Room k (A.deeper (envOfC qual scope s.heap.objs.size f cdv)) → sp vs H Q →
      ∃ t : GT, (∀ S C, (∀ e s', (gcxOf P w K mg base N qual scope f cdv A outer s H E00 pn).xe e s' → False) → Off (gcxOf P w K mg base N qual scope f cdv A outer s H E00 pn) S C → GSt (gcxOf P w K mg base N qual scope f cdv A outer s H E00 pn) S C (execs body (gcxOf P w K mg base N qual scope f cdv A outer s H E00 pn).env) t) ∧
        t [] (start N vs) H fun ys _ H' => Q ys H') :
    GFnC P w K mg base (k + 1) f (PySem.W.fnOf name qual params body scope dV kV doc pm an cdv ct) ps sp := by
  refine ⟨len, fun A outer s H args us vs Q hr e0 hb r hsp => ?_⟩
  have hl := len _ _ _ hsp
  have KX : K.In s.heap := e0.mod.kin.keeps fun b o e => (e0.bs b o e).1
  have lim : s.heap.NoLimit := e0.mod.nolimit.keeps fun b o e => (e0.bs b o e).1
  have hk : ∀ y ∈ ps.zip us, scope.names.lookup y.1 = some .local ∨ (scope.names.lookup y.1 = some .cell ∧ ((cellsFrom (s.heap.objs.size + 1) scope.names []).lookup y.1).isSome = true) := by
    rintro ⟨n, v⟩ hy
    rcases G0.par n (List.of_mem_zip hy).1 with q | q
    · exact Or.inl q
    · exact Or.inr ⟨q, PySem.W.cellsFrom_some _ _ _ (Or.inl q)⟩
  refine codeAny_call_generator hr.depth (KX _ _ lk) rfl G0.co G0.gen rfl (PySem.W.codeRec_of KX hcd) (hb _ _ _ _ ?_)
  refine wpAny_newFunctionEnv_cells G0.kind hk fun env he s1 xx => ?_
  subst he
  have lim1 : s1.heap.NoLimit := lim.keeps xx.toInCall.keep
  refine ⟨lim1, ?_⟩
  obtain ⟨h1, tk, es1, _⟩ := xx.done
  have os1 : s1.os = s.os := by rw [es1]
  have gen1 : s1.gens = s.gens := by rw [es1]
  have lt1 : s.heap.objs.size < s1.heap.objs.size := xx.toInCall.ns.lt
  have sz1 := Nat.le_of_lt lt1
  have kp1 : ∀ b o, s.heap.get? b = some o → s1.heap.get? b = some o := xx.toInCall.keep
  have main : ∀ (go : Obj) (nm qn : Value) (tk2 : Nat), go.cls = .type "generator" → go.data = .fields #[.int s1.gens.size 0, nm, qn] → go.slots = #[] → (∀ h : Heap, (h.push go).get? h.objs.size = some go) →
      GMadeC P w (k + 1) outer H s Q (.ref s1.heap.objs.size) { s1 with gens := s1.gens.push (.fresh (.func body (envOfC qual scope s.heap.objs.size f cdv))), toks := tk2, heap := s1.heap.push go } := by
    intro go nm qn tk2 g1 g2 g3 g4
    have isg : ∀ h : Heap, h.get? s1.heap.objs.size = some go → h.IsGen s1.heap.objs.size s1.gens.size := fun h e => ⟨go, nm, qn, e, g1, g2, g3⟩
    have here : (s1.heap.push go).get? s1.heap.objs.size = some go := g4 _
    refine ⟨s1.heap.objs.size, s1.gens.size, _, rfl, sz1, ?_, isg _ here, Array.getElem?_push_size .., os1, ?_, lim1.keeps fun b o e => Heap.get?_push_of_some _ e, fun b o e => Heap.get?_push_of_some _ (kp1 b o e), ?_⟩
    · show _ < (s1.heap.push _).objs.size
      rw [Heap.size_push]; exact Nat.lt_succ_self _
    · exact AllBare.push (by rw [gen1]; exact e0.bare) rfl
    intro B S C s2 hrB hfr hS hC hne hk2 hSo hCo hos hba
    have hS' : s1.heap.objs.size < S := by
      have q : (s1.heap.push go).objs.size ≤ S := hS
      rw [Heap.size_push] at q; exact q
    have hC' : s1.heap.objs.size < C := by
      have q : (s1.heap.push go).objs.size ≤ C := hC
      rw [Heap.size_push] at q; exact q
    have e0w : Env0 P w K mg base B outer s H := ⟨hfr, e0.mod, e0.bs, e0.bsz, e0.funs, e0.frf, e0.hok, e0.bare⟩
    obtain ⟨tb, hG, hq⟩ := hbody B outer s H vs Q [(s1.heap.objs.size, go)] (hrB.deeper _) hsp
    have I1 : Inv (gcxOf P w K mg base N qual scope f cdv B outer s H E00 []) [] (start N vs) H s1 := inv_startG G0 hrB.hd e0w hl r xx
    have kp2 : ∀ b o, s1.heap.get? b = some o → s2.heap.get? b = some o := fun b o e => hk2 b o (Heap.get?_push_of_some _ e)
    have I2 : Inv (gcxOf P w K mg base N qual scope f cdv B outer s H E00 []) [] (start N vs) H s2 :=
      I1.call' (ch := []) (hos.trans os1.symm) (Un.kept kp2) (I1.hok.kept kp2) hba fun b z => by simp at z
    obtain ⟨cS, heS⟩ := hSo
    obtain ⟨oC, heC, hncC⟩ := hCo
    have hea : s2.heap.get? s1.heap.objs.size = some go := hk2 s1.heap.objs.size go here
    have hgd : ∀ v, go.data ≠ .cell v := fun v q => by rw [g2] at q; cases q
    have young : ∀ b, s1.heap.objs.size ≤ b → H b = none ∧ b ≠ s.heap.objs.size ∧ b ∉ frs outer ∧ s.heap.objs.size ≤ b ∧ ∀ y c, (cellsFrom (s.heap.objs.size + 1) scope.names []).lookup y = some c → c ≠ b := fun b hb => by
      refine ⟨I1.hok.fresh hb, Nat.ne_of_gt (Nat.lt_of_lt_of_le lt1 hb), I1.nofs hb, Nat.le_trans sz1 hb, fun y c e z => ?_⟩
      obtain ⟨v, ob, ho, _⟩ := I1.cell y c e
      have q := Heap.lt_size ho
      rw [z] at q
      exact absurd (Nat.lt_of_lt_of_le q hb) (Nat.lt_irrefl _)
    have yS := young S (Nat.le_of_lt hS')
    have yC := young C (Nat.le_of_lt hC')
    have yg := young s1.heap.objs.size (Nat.le_refl _)
    have F : Off (gcxOf P w K mg base N qual scope f cdv B outer s H E00 [(s1.heap.objs.size, go)]) S C := by
      refine ⟨hne, yS.2.2.2.1, yS.2.1, yS.2.2.2.2, fun p hp => ?_, yC.2.2.2.1, yC.2.1, yC.2.2.2.2, fun p hp => ?_⟩
      · rw [List.mem_singleton.mp hp]; exact Nat.ne_of_lt hS'
      · rw [List.mem_singleton.mp hp]; exact Nat.ne_of_lt hC'
    have I3 : Inv (gcxOf P w K mg base N qual scope f cdv B outer s H E00 [(s1.heap.objs.size, go)]) ([(S, lstObj #[] cS), (C, oC)] ++ []) (start N vs) H s2 := by
      refine Inv.pinnedG I2 fun p hp => ?_
      rcases List.mem_append.mp hp with z | z
      · rw [List.mem_singleton.mp z]
        exact ⟨hea, yg.1, yg.2.1, yg.2.2.1, hgd⟩
      · rw [List.append_nil] at z
        rcases List.mem_cons.mp z with rfl | z
        · exact ⟨heS, yS.1, yS.2.1, yS.2.2.1, fun v q => nomatch q⟩
        · obtain rfl := List.mem_singleton.mp z
          exact ⟨heC, yC.1, yC.2.1, yC.2.2.1, hncC⟩
    have pinned : ∀ {ip : List (Addr × Obj)} {ys : List V} {s' : Shared} {σ' : L2.St} {H' : Hp}, GJ (gcxOf P w K mg base N qual scope f cdv B outer s H E00 [(s1.heap.objs.size, go)]) S C ip ys σ' H' s' → s'.heap.IsGen s1.heap.objs.size s1.gens.size := fun {ip ys s' σ' H'} hI => by
      obtain ⟨acc, cc, o, _, J⟩ := hI
      exact isg _ (J.pin (s1.heap.objs.size, go) (List.mem_append_left _ (List.mem_singleton.mpr rfl))).1
    -- there is no exception
    rw [seg_iff]
    intro Γ p hc hΓ
    have hin : (Γ.over []).In (gcxOf P w K mg base N qual scope f cdv B outer s H E00 [(s1.heap.objs.size, go)]).A := by
      have q := hΓ.over []
      rw [hc, over_func] at q
      exact q
    have noX := gen_noX hin
    refine seg_iff.mp ?_ Γ p hc hΓ
    refine seg_func ?_
    refine seg_weak (R := fun n s₀ r s' => r = .ok (.ret .none) ∧ s'.heap.get? C = s₀.heap.get? C ∧ ∃ ys σ' H', n + ys.length = sizeLine ∧ GJ (gcxOf P w K mg base N qual scope f cdv B outer s H E00 [(s1.heap.objs.size, go)]) S C [] ys σ' H' s' ∧ Q ys H')
      (Y := NY (gcxOf P w K mg base N qual scope f cdv B outer s H E00 [(s1.heap.objs.size, go)]) S C) ?_ ?_ sizeLine ?_
    · rintro n s₀ r s' ⟨rfl, eC, ys, σ', H', hn, ⟨acc, cc, o, hv, J⟩, hQ⟩
      have J' := J
      obtain ⟨p1, p2, _⟩ := J'.pin (S, lstObj acc cc) (List.mem_append_right _ (List.mem_append_left _ List.mem_cons_self))
      obtain ⟨_, p3, _⟩ := J'.pin (C, o) (List.mem_append_right _ (List.mem_append_left _ (List.mem_cons_of_mem _ List.mem_cons_self)))
      exact Or.inl ⟨Or.inl rfl, eC, _, ys, acc, cc, J'.os, J'.bare, J'.base, J'.hok, p2, p3, p1, hv, by omega, hQ⟩
    · rintro n s₀ v s' kap kap' hkk ⟨ys, x, ip, σ', H', hn, rv, hI, eC, hz⟩
      have hg := pinned hI
      obtain ⟨acc, cc, o, hv, J⟩ := hI
      have hsz : acc.size = ys.length := by
        have e1 := hv.length
        have e2 : acc.toList.length = acc.size := by simp
        omega
      exact ⟨J.os, J.bare, J.nolimit, hg, eC, ⟨acc, cc, (J.pin (S, lstObj acc cc) (List.mem_append_right _ (List.mem_append_left _ List.mem_cons_self))).1, by rw [hsz]; exact hn⟩, fun s'' z => hkk _ _ (hz s'' z)⟩
    · refine hG S C noX F _ _ _ _ _ _ _ _ _ _ _ _ _ [] [] (fun ys _ H' => Q ys H') over_func rfl rfl rfl (fun _ h => nomatch h) (by rw [List.length_nil, Nat.add_zero]) ⟨#[], cS, oC, .nil, I3⟩ rfl hq ?_
      rintro n ys s₀ s' σ' H' hn hI eC hQ
      exact seg_end (.ok (.ret .none)) ⟨rfl, eC, ys, σ', H', hn, hI, hQ⟩
  exact main _ _ _ _ rfl rfl rfl fun h => Heap.get?_push_size _ rfl
end LF

set_option Elab.async false
set_option linter.all false
set_option maxRecDepth 100000
set_option maxHeartbeats 8000000
namespace KC
open PySem PySem.Spec PyProof.Rows L2 LF
open Evl (Ev EvL EvU EvT EvA Ex sq_of st_of)
open PySem.W (EachIs)
abbrev s_links : Stmt := inClass s_Layout 4
theorem gs_links : GScope ["self", "joint", "row", "name"] ["self"] (defScope s_links) := ⟨rfl, rfl, rfl, by decide +kernel, rfl, by decide +kernel, by decide +kernel⟩
def linksR (j : Int) (r : Row) : List (Int × Str × Tg) := r.map fun y => (j, y.1, y.2)
def linksOf (s : Tabs) : List (Int × Str × Tg) := s.flatMap fun x => linksR x.1 x.2
/-- a link, told -/
def LkA (b : Addr) (H : Hp) (v : V) (z : Int × Str × Tg) : Prop := ∃ q u, v = .ref q ∧ H q = some (.tup [.int z.1, .str z.2.1, u]) ∧ TgA b H u z.2.2
theorem LkA.tups {b : Addr} {H H' : Hp} {v : V} {z : Int × Str × Tg} (h : LkA b H v z) (e : ∀ a xs, H a = some (.tup xs) → H' a = some (.tup xs)) : LkA b H' v z := by
  obtain ⟨q, u, e1, h1, h2⟩ := h
  refine ⟨q, u, e1, e _ _ h1, ?_⟩
  revert h2
  cases z.2.2 with
  | inl i => exact id
  | inr p => exact fun ⟨q, a, n, h⟩ => ⟨q, a, n, e _ _ h⟩
def spLinks (C : Addr) : SpH := fun vs H Q => ∃ (l b : Addr) (s : Tabs) (top : Int), vs = [.ref l] ∧ LayA C b H l s top ∧ TabOk s ∧ ∀ H' zs, Ex H H' → EachIs (LkA b H') zs (linksOf s) → Q zs H'
theorem each_app {α β : Type} {R : α → β → Prop} : ∀ {xs ys : List α} {bs cs : List β}, EachIs R xs bs → EachIs R ys cs → EachIs R (xs ++ ys) (bs ++ cs)
  | _, _, _, _, .nil, h => h
  | _, _, _, _, .cons r t, h => .cons r (each_app t h)
section
variable {P : Program} {w : World} {K : PySem.W.Frag} {mg : Str → Option Value} {base : Heap} {tk1 tk2 : Tok}
theorem ok_links {f C : Addr} {fd : FuncData} (F : Fun K "links" "Layout.links" s_links f fd) (R : LayTxt K mg C) : GFnC P w K mg base 2 f fd ["self"] (spLinks C) := by
  obtain ⟨oc, od, kW, doc, pm, an, cdv, ct, osl, rfl, lk, hcd⟩ := F.ex
  refine gfnC_ofB (k := 1) lk hcd gs_links (fun n => rfl) (fun vs H Q h => ?_) (fun A outer s H vs Q pn hr h => ?_)
  · obtain ⟨l, b, s, top, rfl, _⟩ := h
    rfl
  have hu1 := hu_of hr
  refine ⟨_, fun S Cc noX FF => gst_cons (gst_lock (gst_for rfl (pi_keys (pe_fld (pv 0) rfl)) (pg_name (i := 1) gs_links.nd rfl (Or.inl rfl)) (gst_cons (gst_ps (ps_set (i := 2) gs_links.nd rfl (Or.inl rfl) (pe_dget hu1 (show PE _ _ (tFld K (tVar 0) "rows") from pe_fld (pv 0) rfl) (pv 1) (fun _ _ => rfl))) noX) (gst_cons (gst_lock (gst_for rfl (pi_keys (pv 2)) (pg_name (i := 3) gs_links.nd rfl (Or.inl rfl)) (gst_cons (gst_yield (pe_tup (pa_cons (pv 1) (pa_cons (pv 3) (pa_cons (pe_dget hu1 (pv 2) (pv 3) (fun _ _ => rfl)) pa_nil)))) noX FF rfl rfl) gst_nil) (by intro _; rfl) noX)) gst_nil)) (by intro _; rfl) noX)) gst_nil, ?_⟩
  obtain ⟨l, b, s, top, rfl, ⟨dx, Rr, nlb, hl, kvs, nRb, hR, heach, _⟩, hok, hq⟩ := h
  have hkn : (kvs.map (·.1)).Nodup := by
    have : kvs.map (·.1) = (s.map (·.1)).map Sum.inl := by
      rw [List.map_map]
      exact each_map (fun a c h => h.1) heach
    rw [this]; exact nodup_map_inl hok.1
  refine ⟨Rr, .dK kvs, hR, True.intro, fun od => ?_⟩
  have nlR : l ≠ Rr := fun z => by rw [z, hR] at hl; cases hl
  have hlL : (upd H Rr (.frz od (.dK kvs))) l = some (.ins C dx (layFs Rr top)) := by rw [upd_ne nlR]; exact hl
  have hRL : (upd H Rr (.frz od (.dK kvs))) Rr = some (.frz od (.dK kvs)) := upd_same
  have oldL : ∀ a o, a ≠ Rr → H a = some o → (upd H Rr (.frz od (.dK kvs))) a = some o := fun a o n h => by rw [upd_ne n]; exact h
  have unl : ∀ {H'}, Ex (upd H Rr (.frz od (.dK kvs))) H' → Ex H (upd H' Rr (.dK kvs)) := fun e => ex_unlock hR e
  generalize upd H Rr (.frz od (.dK kvs)) = L at *
  refine ⟨_, rfl, l, C, dx, _, _, rfl, hlL, R.cl, R.nR, lk_rows, Rr, od, rfl, Or.inl ⟨kvs, hRL, ?_⟩⟩
  have h6 := hok.2.2.1
  have hkl : kvs.length = s.length := heach.length
  have hbig : (1000 : Nat) ≤ sizeLine := by decide
  have tupL : ∀ a xs, H a = some (.tup xs) → L a = some (.tup xs) := fun a xs h => oldL a _ (fun z => by rw [z, hR] at h; cases h) h
  refine ⟨kvs.length, fun i ys σ H' => ∃ (v1 v2 v3 : Option V), σ = [some (.ref l), v1, v2, v3] ∧ Ex L H' ∧ EachIs (LkA b H') ys (linksOf (s.take i)) ∧ ys.length ≤ 10 * i, ⟨_, _, _, rfl, Ex.refl L, .nil, Nat.zero_le _⟩, ?_, ?_⟩
  · rintro i ys σ H5 hi ⟨v1, v2, v3, rfl, e5, hys, hyl⟩
    have hlk := e5 _ _ hRL
    refine ⟨walk_keys.goes i H5 hi hlk, fun x H2 hyy => ?_⟩
    obtain ⟨rfl, k, v, hk, rfl⟩ := walk_keys.yields i H5 x H2 hi hlk hyy
    obtain ⟨y, hyn, hk1, e, hve, neR, ekvs, neb, he, hrow⟩ := each_get heach hk
    cases (show k = Sum.inl y.1 from hk1)
    cases (show v = V.ref e from hve)
    have hv : valV kvs (.inl y.1) = some (.ref e) := val_of hkn (List.mem_of_getElem? hk)
    have dg : DGet H2 Rr (kV (.inl y.1)) (valV kvs (.inl y.1)) := Or.inl ⟨kvs, .inl y.1, Or.inr ⟨od, hlk⟩, rfl, rfl⟩
    rw [hv] at dg
    have hyo := (hok.2.2.2 y (List.mem_of_getElem? hyn)).2
    have hekn : (ekvs.map (·.1)).Nodup := by
      have : ekvs.map (·.1) = (y.2.map (·.1)).map Sum.inr := by
        rw [List.map_map]
        exact each_map (fun a c h => h.1) hrow
      rw [this]; exact nodup_map_inr hyo.1
    have he5 := e5 _ _ (oldL _ _ neR he)
    have h10 := hyo.2.1
    have hi6 : i < 6 := by omega
    refine ⟨_, rfl, l, C, dx, _, _, rfl, e5 _ _ hlL, R.cl, R.nR, lk_rows, _, rfl, Rr, _, rfl, dg, ?_⟩
    refine ⟨e, .dK ekvs, he5, True.intro, fun od2 => ?_⟩
    have tup2 : ∀ a xs, H2 a = some (.tup xs) → (upd H2 e (.frz od2 (.dK ekvs))) a = some (.tup xs) := fun a xs h => by rw [upd_ne (fun z => by rw [z, he5] at h; cases h)]; exact h
    have heL : (upd H2 e (.frz od2 (.dK ekvs))) e = some (.frz od2 (.dK ekvs)) := upd_same
    have unl2 : ∀ {H'}, Ex (upd H2 e (.frz od2 (.dK ekvs))) H' → Ex H2 (upd H' e (.dK ekvs)) := fun x => ex_unlock he5 x
    generalize upd H2 e (.frz od2 (.dK ekvs)) = L2 at *
    refine ⟨_, rfl, e, od2, rfl, Or.inl ⟨ekvs, heL, ?_⟩⟩
    refine ⟨ekvs.length, fun m ys' σ' H' => ∃ (v3 : Option V), σ' = [some (.ref l), some (.int y.1), some (.ref e), v3] ∧ Ex L2 H' ∧ EachIs (LkA b H') ys' (linksOf (s.take i) ++ linksR y.1 (y.2.take m)) ∧ ys'.length ≤ 10 * i + m, ⟨_, rfl, Ex.refl L2, ?_, by omega⟩, ?_, ?_⟩
    · have : linksOf (s.take i) ++ linksR y.1 (y.2.take 0) = linksOf (s.take i) := List.append_nil _
      rw [this]
      exact hys.mono fun v z h => h.tups tup2
    · rintro m ys' σ' H7 hm ⟨v3', rfl, e7, hys', hyl'⟩
      have hek := e7 _ _ heL
      refine ⟨walk_keys.goes m H7 hm hek, fun x H8 hy8 => ?_⟩
      obtain ⟨rfl, k2, vv, hk2, rfl⟩ := walk_keys.yields m H7 x H8 hm hek hy8
      obtain ⟨yy, hyy, hk3, hta⟩ := each_get hrow hk2
      cases (show k2 = Sum.inr yy.1 from hk3)
      have hvv : valV ekvs (.inr yy.1) = some vv := val_of hekn (List.mem_of_getElem? hk2)
      have dge : DGet H8 e (.str yy.1) (some vv) := by
        have : DGet _ e (kV (.inr yy.1)) (valV ekvs (.inr yy.1)) := Or.inl ⟨ekvs, .inr yy.1, Or.inr ⟨od2, hek⟩, rfl, rfl⟩
        rw [hvv] at this; exact this
      have hml : m < 10 := by have := hrow.length; omega
      refine ⟨by omega, _, rfl, _, rfl, _, rfl, _, rfl, e, _, rfl, dge, (by show 3 ≤ sizeLine; decide), fun q hq0 => ?_⟩
      have x9 : Ex H8 (upd H8 q (.tup [.int y.1, .str yy.1, vv])) := Ex.new hq0
      refine ⟨_, rfl, e7.trans x9, ?_, by rw [List.length_append, List.length_singleton]; omega⟩
      have hsn : y.2.take (m + 1) = y.2.take m ++ [yy] := by rw [List.take_add_one, hyy]; rfl
      have e1 : linksOf (s.take i) ++ linksR y.1 (y.2.take (m + 1)) = (linksOf (s.take i) ++ linksR y.1 (y.2.take m)) ++ [(y.1, yy.1, yy.2)] := by
        rw [hsn, List.append_assoc]
        unfold linksR
        rw [List.map_append]; rfl
      rw [e1]
      refine each_app (hys'.mono fun v z h => h.tups fun a xs h => x9 _ _ h) (.cons ⟨q, vv, rfl, upd_same, ?_⟩ .nil)
      revert hta
      cases yy.2 with
      | inl k => exact id
      | inr p => exact fun ⟨q, a, n, h⟩ => ⟨q, a, n, x9 _ _ (e7 _ _ (tup2 _ _ (e5 _ _ (tupL _ _ h))))⟩
    · rintro ys' σ' H7 ⟨v3', rfl, e7, hys', hyl'⟩
      have hek := e7 _ _ heL
      refine ⟨walk_keys.stops H7 hek, hek, _, _, _, rfl, e5.trans (unl2 e7), ?_, by have := hrow.length; omega⟩
      have e1 : linksOf (s.take (i + 1)) = linksOf (s.take i) ++ linksR y.1 y.2 := by
        unfold linksOf
        rw [List.take_add_one, hyn, List.flatMap_append]
        show _ ++ (linksR y.1 y.2 ++ []) = _
        rw [List.append_nil]
      rw [hrow.length, List.take_length] at hys'
      rw [e1]
      exact hys'.mono fun v z h => h.tups fun a xs h => by rw [upd_ne (fun z => by rw [z, hek] at h; cases h)]; exact h
  · rintro ys σ H5 ⟨v1, v2, v3, rfl, e5, hys, hyl⟩
    have hlk := e5 _ _ hRL
    refine ⟨walk_keys.stops H5 hlk, hlk, ?_⟩
    rw [hkl, List.take_length] at hys
    exact hq _ ys (unl e5) (hys.mono fun v z h => h.tups fun a xs h => by rw [upd_ne (fun z => by rw [z, hlk] at h; cases h)]; exact h)
end
end KC

set_option Elab.async false
set_option linter.all false
set_option maxRecDepth 100000
set_option maxHeartbeats 4000000
namespace LF
open PySem PySem.Spec PyProof.Rows L2
section
variable {X : Cx} {k : Nat} {C f : Addr} {fd : FuncData} {ps : List Str} {sp : Sp}
/-- the call of a class's own method -/
theorem own_call {A : Around} {pins : List (Addr × Obj)} {s : Shared} {σ : L2.St} {H : Hp} {vs : List V} {us : List Value} {R : VK} {Z : Value → Shared → Prop} {EX : Value → Shared → Prop} (G : FnOk X.prog X.w X.K X.mg X.base CX0 k f fd ps sp) (hr : Room k A) (hfr : A.frames = X.A.frames) (hb : Binds X.K fd ps []) (I : Inv X pins σ H s)
    (rv : Vals vs us) (hsp : sp vs H R E0) (hz : ∀ v u H' s', Inv X pins σ H' s' → RelV v u → R v H' → Z u s') : wpAny (model X.prog X.w) A (call (.ref f) us) Z EX s := by
  have e0 : Env0 X.prog X.w X.K X.mg X.base A X.stack s H := by
    have e := I.env0
    exact ⟨by rw [hfr]; exact e.frames, e.mod, e.bs, e.bsz, e.funs, e.frf, e.hok, e.bare⟩
  have hl := G.len _ _ _ _ hsp
  have b' := hb s us I.kIn (by rw [List.append_nil, ← rv.length]; exact hl)
  rw [List.append_nil] at b'
  refine wpAny_call (codeAny_mono (G.run A X.stack s H ⟨us, []⟩ us vs _ E0 hr e0 b' rv hsp) fun r s' hq => ?_)
  cases r with
  | error e => exact hq.elim
  | ok fl =>
    cases fl with
    | next => exact hq.elim
    | brk => exact hq.elim
    | cont => exact hq.elim
    | ret u =>
      obtain ⟨v, H', I', rv, q⟩ := I.after hq
      exact hz v u H' s' I' rv q
theorem special_own {M : Model} {A : Around} {s : Shared} {KK : PySem.W.Frag} {x D g : Addr} {ox : Obj} {od : Option Obj} {name : Str} {Q : Option Value → Shared → Prop} {EX : Value → Shared → Prop} (KX : KK.In s.heap) (J : PySem.W.InstAt s.heap x ox D od) (hs : PySem.W.findIn KK (.ref D) name = some (some (.ref g))) (h : Q (some (.ref g)) s) : wpAny M A (specialOf (.ref x) name) Q EX s := by
  simp only [specialOf]
  exact wpAny_bind (J.type.here ((PySem.W.looks_findIn KX hs).here h))
def rInO (neg : Bool) (C : Addr) (sp : Sp) : R2 := fun x y H Q => ∃ b dx fs, y = .ref b ∧ H b = some (.ins C dx fs) ∧ sp [.ref b, x] H (fun v H' => ∃ r : Bool, v = .bl r ∧ Q (.bl (if neg = true then !r else r)) H') E0
theorem contains_own {A : Around} {pins : List (Addr × Obj)} {s : Shared} {σ : L2.St} {H : Hp} {b dx : Addr} {fs : List (Str × V)} {x : V} {v : Value} {R : Bool → Hp → Prop} {Z : Bool → Shared → Prop} {EX : Value → Shared → Prop} (G : FnOk X.prog X.w X.K X.mg X.base CX0 k f fd ps sp) (hr : Room k A) (hfr : A.frames = X.A.frames) (hb : Binds X.K fd ps []) (hs : PySem.W.findIn X.K (.ref C) "__contains__" = some (some (.ref f))) (hf : PySem.W.isFn X.K (.ref f) = true)
    (I : Inv X pins σ H s) (hB : H b = some (.ins C dx fs)) (rx : RelV x v) (hsp : sp [.ref b, x] H (fun w H' => ∃ r : Bool, w = .bl r ∧ R r H') E0) (hz : ∀ r H' s', Inv X pins σ H' s' → R r H' → Z r s') :
    wpAny (model X.prog X.w) A (contains (.ref b) v) Z EX s := by
  obtain ⟨mA, J, _⟩ := ins_get I.hok hB
  obtain ⟨od, J, _⟩ := J.look
  have KX := I.kIn
  unfold contains
  refine wpAny_holding ?_
  rw [show stdlibNamesSay? (.ref b) v = none from rfl]
  refine wpAny_bind (special_own KX J hs ?_)
  show wpAny _ _ (if (some (Value.ref f) == some Value.none) = true then _ else _) _ _ _
  rw [if_neg (by simp)]
  refine wpAny_bind (m := callSpecialUnlessNone? (.ref b) (Str.ofString "__contains__") [v] _) ?_
  unfold callSpecialUnlessNone?
  refine wpAny_bind (special_own KX J hs ?_)
  refine wpAny_holding (wpAny_bind ((PySem.W.bind_fn KX _ (beq_iff_eq.mp hf)).here ?_))
  show wpAny _ _ (if (Value.ref f == Value.none) = true then _ else _) _ _ _
  rw [if_neg (by simp)]
  refine wpAny_bind (own_call (vs := [.ref b, x]) G hr hfr hb I (.cons rfl (.cons rx .nil)) hsp fun w u H' s' I' rw q => ?_)
  obtain ⟨r, rfl, q⟩ := q
  obtain rfl : u = Value.bool r := rw
  exact wpAny_pure (wpAny_truthy_bool (hz r H' s' I' q))
/-- x in o of an own instance by the class's own __contains__ -/
theorem op_inO (G : FnOk X.prog X.w X.K X.mg X.base CX0 k f fd ps sp) (hr : Room k X.A) (hb : Binds X.K fd ps []) (hs : PySem.W.findIn X.K (.ref C) "__contains__" = some (some (.ref f))) (hf : PySem.W.isFn X.K (.ref f) = true) : OpR X (compareOp .In) (rInO false C sp) := by
  intro pins s σ H x y v u Q I rx ry h
  obtain ⟨b, dx, fs, rfl, hB, hsp⟩ := h
  obtain rfl : u = Value.ref b := ry
  show wpAny (model X.prog X.w) X.A (do return Value.bool (← contains (.ref b) v)) _ X.xe s
  refine wpAny_bind (contains_own (R := fun r H' => Q (.bl (if false = true then !r else r)) H') G hr rfl hb hs hf I hB rx hsp fun r H' s' I' q => wpAny_pure ?_)
  show EP X pins σ Q (Value.bool r) s'
  exact ⟨.bl r, H', I', rfl, q⟩
theorem op_notinO (G : FnOk X.prog X.w X.K X.mg X.base CX0 k f fd ps sp) (hr : Room k X.A) (hb : Binds X.K fd ps []) (hs : PySem.W.findIn X.K (.ref C) "__contains__" = some (some (.ref f))) (hf : PySem.W.isFn X.K (.ref f) = true) : OpR X (compareOp .NotIn) (rInO true C sp) := by
  intro pins s σ H x y v u Q I rx ry h
  obtain ⟨b, dx, fs, rfl, hB, hsp⟩ := h
  obtain rfl : u = Value.ref b := ry
  show wpAny (model X.prog X.w) X.A (do return Value.bool (!(← contains (.ref b) v))) _ X.xe s
  refine wpAny_bind (contains_own (R := fun r H' => Q (.bl (if true = true then !r else r)) H') G hr rfl hb hs hf I hB rx hsp fun r H' s' I' q => wpAny_pure ?_)
  show EP X pins σ Q (Value.bool (!r)) s'
  exact ⟨.bl (!r), H', I', rfl, q⟩
end
end LF

set_option Elab.async false
set_option linter.all false
set_option maxRecDepth 100000
set_option maxHeartbeats 4000000
namespace LF
open PySem PySem.Spec PyProof.Rows L2
open PySem.Builtin
/-- repr(x), x an own instance of the class at C: its own __repr__ -/
def rReprO (C : Addr) (sp : Sp) : List V → Hp → VK → Prop := fun xs H Q => ∃ (a dx : Addr) (fs : List (Str × V)), xs = [.ref a] ∧ H a = some (.ins C dx fs) ∧ sp [.ref a] H (fun v H' => ∃ z, v = .str z ∧ Q (.str z) H') E0
theorem call_reprO {X : Cx} {k : Nat} {f C : Addr} {fd : FuncData} {sp : Sp} {ps : List Str} (G : FnOk X.prog X.w X.K X.mg X.base CX0 k f fd ps sp) (hr : Room (k + 1) X.A) (hb : Binds X.K fd ps [])
    (hs : PySem.W.findIn X.K (.ref C) "__repr__" = some (some (.ref f))) (hf : PySem.W.isFn X.K (.ref f) = true) : CallR X (.builtin "repr") (rReprO C sp) := by
  intro pins s σ H xs us Q I r h
  obtain ⟨a, dx, fs, rfl, ha, hsp⟩ := h
  rw [Vals.ref1 r]
  obtain ⟨mA, O, _, _, _, _⟩ := ins_get I.hok ha
  obtain ⟨od, J, _⟩ := O.look
  have hu := hr.in1.un
  refine Calls.call_function_entry F.kind_repr F.plain_repr F.entry_repr (F.args_repr1 _) ?_
  unfold Builtin.«repr»
  refine wpAny_bind (m := oneArg "repr" _) (wpAny_pure ?_)
  refine wpAny_bind (m := cRoomFor _ _) (wpAny_cRoomFor (by omega) ?_)
  refine wpAny_bind (special_own I.kIn J hs ?_)
  refine wpAny_bind (m := callSpecialIfBound? (.ref a) (Str.ofString "__repr__")) (PySem.W.ifBound_K I.kIn J hs hf ?_)
  refine own_call (vs := [.ref a]) G hr.in1 rfl hb I (.cons rfl .nil) hsp fun w u H' s' I' rw q => ?_
  obtain ⟨z, rfl, q⟩ := q
  obtain ⟨tk, rfl⟩ := rw
  refine wpAny_bind (wpAny_isInstance (T := "str") (b := true) rfl isSubtype_str_str ?_)
  exact wpAny_pure ⟨_, rfl, .str z, H', I', ⟨_, rfl⟩, q⟩
end LF

set_option Elab.async false
set_option linter.all false
set_option maxRecDepth 100000
set_option maxHeartbeats 4000000
namespace LF
open PySem PySem.Spec PyProof.Rows L2 GenW
/-- a generator def whose body is one for over a locked thing, with one yield -/
theorem gfnC_of {P : Program} {w : World} {K : PySem.W.Frag} {mg : Str → Option Value} {base : Heap} {k : Nat} {f : Addr} {name qual : Str} {params : Arguments} {tg iter e : Expr} {yp yq pos : Pos} {scope : Scope} {dV kV doc pm cdv ct oc : Value} {an od : Option Addr}
    {osl : Array (Option Value)} {N ps : List Str} {sp : SpH} (lk : K.lookup f = some ⟨oc, od, .func (PySem.W.fnOf name qual params [.For tg iter [.Expr (.Yield (some e) yp) yq] [] pos] scope dV kV doc pm an cdv ct), osl⟩) (hcd : PySem.W.codeIn K cdv qual = true) (G0 : GScope N ps scope) (hint : ∀ n, interactive (envOfC qual scope n f cdv) = false)
    (len : ∀ vs H Q, sp vs H Q → vs.length = ps.length)
    (hbody : ∀ (A : Around) (outer : List Env) (s : Shared) (H : Hp) (vs : List V) (Q : List V → Hp → Prop) (pn : List (Addr × Obj)), Room k (A.deeper (envOfC qual scope s.heap.objs.size f cdv)) → sp vs H Q →
      ∃ (d : Addr) (u : HO) (wi : TI) (g : TG) (te : TE), PI (gcxOf P w K mg base N qual scope f cdv A outer s H E00 pn) tg iter wi ∧ PG (gcxOf P w K mg base N qual scope f cdv A outer s H E00 pn) tg g ∧ PE (gcxOf P w K mg base N qual scope f cdv A outer s H E00 pn) e te ∧
        (∀ x, foldedSetIterable iter (gcxOf P w K mg base N qual scope f cdv A outer s H E00 pn).env x = pure x) ∧ H d = some u ∧ Mut (some u) ∧ ∀ od, tGF wi g te (start N vs) (upd H d (.frz od u)) fun ys _ H' => H' d = some (.frz od u) ∧ Q ys (upd H' d u)) :
    GFnC P w K mg base (k + 1) f (PySem.W.fnOf name qual params [.For tg iter [.Expr (.Yield (some e) yp) yq] [] pos] scope dV kV doc pm an cdv ct) ps sp := by
  refine ⟨len, fun A outer s H args us vs Q hr e0 hb r hsp => ?_⟩
  have hl := len _ _ _ hsp
  have KX : K.In s.heap := e0.mod.kin.keeps fun b o e => (e0.bs b o e).1
  have lim : s.heap.NoLimit := e0.mod.nolimit.keeps fun b o e => (e0.bs b o e).1
  have hk : ∀ y ∈ ps.zip us, scope.names.lookup y.1 = some .local ∨ (scope.names.lookup y.1 = some .cell ∧ ((cellsFrom (s.heap.objs.size + 1) scope.names []).lookup y.1).isSome = true) := by
    rintro ⟨n, v⟩ hy
    rcases G0.par n (List.of_mem_zip hy).1 with q | q
    · exact Or.inl q
    · exact Or.inr ⟨q, PySem.W.cellsFrom_some _ _ _ (Or.inl q)⟩
  refine codeAny_call_generator hr.depth (KX _ _ lk) rfl G0.co G0.gen rfl (PySem.W.codeRec_of KX hcd) (hb _ _ _ _ ?_)
  refine wpAny_newFunctionEnv_cells G0.kind hk fun env he s1 xx => ?_
  subst he
  have lim1 : s1.heap.NoLimit := lim.keeps xx.toInCall.keep
  refine ⟨lim1, ?_⟩
  obtain ⟨h1, tk, es1, _⟩ := xx.done
  have os1 : s1.os = s.os := by rw [es1]
  have gen1 : s1.gens = s.gens := by rw [es1]
  have lt1 : s.heap.objs.size < s1.heap.objs.size := xx.toInCall.ns.lt
  have sz1 := Nat.le_of_lt lt1
  have kp1 : ∀ b o, s.heap.get? b = some o → s1.heap.get? b = some o := xx.toInCall.keep
  have main : ∀ (go : Obj) (nm qn : Value) (tk2 : Nat), go.cls = .type "generator" → go.data = .fields #[.int s1.gens.size 0, nm, qn] → go.slots = #[] → (∀ h : Heap, (h.push go).get? h.objs.size = some go) →
      GMadeC P w (k + 1) outer H s Q (.ref s1.heap.objs.size) { s1 with gens := s1.gens.push (.fresh (.func [.For tg iter [.Expr (.Yield (some e) yp) yq] [] pos] (envOfC qual scope s.heap.objs.size f cdv))), toks := tk2, heap := s1.heap.push go } := by
    intro go nm qn tk2 g1 g2 g3 g4
    have isg : ∀ h : Heap, h.get? s1.heap.objs.size = some go → h.IsGen s1.heap.objs.size s1.gens.size := fun h e => ⟨go, nm, qn, e, g1, g2, g3⟩
    have here : (s1.heap.push go).get? s1.heap.objs.size = some go := g4 _
    refine ⟨s1.heap.objs.size, s1.gens.size, _, rfl, sz1, ?_, isg _ here, Array.getElem?_push_size .., os1, ?_, lim1.keeps fun b o e => Heap.get?_push_of_some _ e, fun b o e => Heap.get?_push_of_some _ (kp1 b o e), ?_⟩
    · show _ < (s1.heap.push _).objs.size
      rw [Heap.size_push]; exact Nat.lt_succ_self _
    · exact AllBare.push (by rw [gen1]; exact e0.bare) rfl
    intro B S C s2 hrB hfr hS hC hne hk2 hSo hCo hos hba
    have hS' : s1.heap.objs.size < S := by
      have q : (s1.heap.push go).objs.size ≤ S := hS
      rw [Heap.size_push] at q; exact q
    have hC' : s1.heap.objs.size < C := by
      have q : (s1.heap.push go).objs.size ≤ C := hC
      rw [Heap.size_push] at q; exact q
    have e0w : Env0 P w K mg base B outer s H := ⟨hfr, e0.mod, e0.bs, e0.bsz, e0.funs, e0.frf, e0.hok, e0.bare⟩
    obtain ⟨d, u, wi, g, te, hPI, hPG, hPE, hfs, hd, mu, hq⟩ := hbody B outer s H vs Q [(s1.heap.objs.size, go)] (hrB.deeper _) hsp
    have I1 : Inv (gcxOf P w K mg base N qual scope f cdv B outer s H E00 []) [] (start N vs) H s1 := inv_startG G0 hrB.hd e0w hl r xx
    have kp2 : ∀ b o, s1.heap.get? b = some o → s2.heap.get? b = some o := fun b o e => hk2 b o (Heap.get?_push_of_some _ e)
    have I2 : Inv (gcxOf P w K mg base N qual scope f cdv B outer s H E00 []) [] (start N vs) H s2 :=
      I1.call' (ch := []) (hos.trans os1.symm) (Un.kept kp2) (I1.hok.kept kp2) hba fun b z => by simp at z
    obtain ⟨cS, heS⟩ := hSo
    obtain ⟨oC, heC, hncC⟩ := hCo
    have hea : s2.heap.get? s1.heap.objs.size = some go := hk2 s1.heap.objs.size go here
    have hgd : ∀ v, go.data ≠ .cell v := fun v q => by rw [g2] at q; cases q
    have young : ∀ b, s1.heap.objs.size ≤ b → H b = none ∧ b ≠ s.heap.objs.size ∧ b ∉ frs outer ∧ s.heap.objs.size ≤ b ∧ ∀ y c, (cellsFrom (s.heap.objs.size + 1) scope.names []).lookup y = some c → c ≠ b := fun b hb => by
      refine ⟨I1.hok.fresh hb, Nat.ne_of_gt (Nat.lt_of_lt_of_le lt1 hb), I1.nofs hb, Nat.le_trans sz1 hb, fun y c e z => ?_⟩
      obtain ⟨v, ob, ho, _⟩ := I1.cell y c e
      have q := Heap.lt_size ho
      rw [z] at q
      exact absurd (Nat.lt_of_lt_of_le q hb) (Nat.lt_irrefl _)
    have yS := young S (Nat.le_of_lt hS')
    have yC := young C (Nat.le_of_lt hC')
    have yg := young s1.heap.objs.size (Nat.le_refl _)
    have F : Off (gcxOf P w K mg base N qual scope f cdv B outer s H E00 [(s1.heap.objs.size, go)]) S C := by
      refine ⟨hne, yS.2.2.2.1, yS.2.1, yS.2.2.2.2, fun p hp => ?_, yC.2.2.2.1, yC.2.1, yC.2.2.2.2, fun p hp => ?_⟩
      · rw [List.mem_singleton.mp hp]; exact Nat.ne_of_lt hS'
      · rw [List.mem_singleton.mp hp]; exact Nat.ne_of_lt hC'
    have I3 : Inv (gcxOf P w K mg base N qual scope f cdv B outer s H E00 [(s1.heap.objs.size, go)]) ([(S, lstObj #[] cS), (C, oC)] ++ []) (start N vs) H s2 := by
      refine Inv.pinnedG I2 fun p hp => ?_
      rcases List.mem_append.mp hp with z | z
      · rw [List.mem_singleton.mp z]
        exact ⟨hea, yg.1, yg.2.1, yg.2.2.1, hgd⟩
      · rw [List.append_nil] at z
        rcases List.mem_cons.mp z with rfl | z
        · exact ⟨heS, yS.1, yS.2.1, yS.2.2.1, fun v q => nomatch q⟩
        · obtain rfl := List.mem_singleton.mp z
          exact ⟨heC, yC.1, yC.2.1, yC.2.2.1, hncC⟩
    obtain ⟨od2, I4⟩ := I3.lock hd mu
    have nf := I3.nofrz hd mu
    have pinned : ∀ {ip : List (Addr × Obj)} {ys : List V} {s' : Shared} {σ' : L2.St} {H' : Hp}, GJ (gcxOf P w K mg base N qual scope f cdv B outer s H E00 [(s1.heap.objs.size, go)]) S C ip ys σ' H' s' → s'.heap.IsGen s1.heap.objs.size s1.gens.size := fun {ip ys s' σ' H'} hI => by
      obtain ⟨acc, cc, o, _, J⟩ := hI
      exact isg _ (J.pin (s1.heap.objs.size, go) (List.mem_append_left _ (List.mem_singleton.mpr rfl))).1
    -- there is no exception
    rw [seg_iff]
    intro Γ p hc hΓ
    have hin : (Γ.over []).In (gcxOf P w K mg base N qual scope f cdv B outer s H E00 [(s1.heap.objs.size, go)]).A := by
      have q := hΓ.over []
      rw [hc, over_func] at q
      exact q
    have noX := gen_noX hin
    refine seg_iff.mp ?_ Γ p hc hΓ
    refine seg_func (seg_execs_cons ?_)
    refine seg_weak (R := fun n s₀ r s' => r = .ok (.ret .none) ∧ s'.heap.get? C = s₀.heap.get? C ∧ ∃ ys σ' H', n + ys.length = sizeLine ∧ GJ (gcxOf P w K mg base N qual scope f cdv B outer s H E00 [(s1.heap.objs.size, go)]) S C [] ys σ' H' s' ∧ H' d = some (.frz od2 u) ∧ Q ys (upd H' d u))
      (Y := NY (gcxOf P w K mg base N qual scope f cdv B outer s H E00 [(s1.heap.objs.size, go)]) S C) ?_ ?_ sizeLine ?_
    · rintro n s₀ r s' ⟨rfl, eC, ys, σ', H', hn, ⟨acc, cc, o, hv, J⟩, hd', hQ⟩
      have J' := J.unlock hd' nf
      obtain ⟨p1, p2, _⟩ := J'.pin (S, lstObj acc cc) (List.mem_append_right _ (List.mem_append_left _ List.mem_cons_self))
      obtain ⟨_, p3, _⟩ := J'.pin (C, o) (List.mem_append_right _ (List.mem_append_left _ (List.mem_cons_of_mem _ List.mem_cons_self)))
      exact Or.inl ⟨Or.inl rfl, eC, _, ys, acc, cc, J'.os, J'.bare, J'.base, J'.hok, p2, p3, p1, hv, by omega, hQ⟩
    · rintro n s₀ v s' kap kap' hkk ⟨ys, x, ip, σ', H', hn, rv, hI, eC, hz⟩
      have hg := pinned hI
      obtain ⟨acc, cc, o, hv, J⟩ := hI
      have hsz : acc.size = ys.length := by
        have e1 := hv.length
        have e2 : acc.toList.length = acc.size := by simp
        omega
      exact ⟨J.os, J.bare, J.nolimit, hg, eC, ⟨acc, cc, (J.pin (S, lstObj acc cc) (List.mem_append_right _ (List.mem_append_left _ List.mem_cons_self))).1, by rw [hsz]; exact hn⟩, fun s'' z => hkk _ _ (hz s'' z)⟩
    · refine gen_for rfl hPI hPG hPE hfs noX F G0.co (hint _) over_func rfl rfl rfl rfl ⟨#[], cS, oC, .nil, I4⟩ rfl (hq od2) ?_
      rintro n ys s₀ s' σ' H' hn hI eC ⟨hd', hQ⟩
      refine seg_execs_nil ?_
      exact seg_end (.ok (.ret .none)) ⟨rfl, eC, ys, σ', H', hn, hI, hd', hQ⟩
  exact main _ _ _ _ rfl rfl rfl fun h => Heap.get?_push_size _ rfl
end LF

set_option Elab.async false
set_option linter.all false
set_option maxRecDepth 100000
set_option maxHeartbeats 4000000
namespace LF
open PySem PySem.Spec PyProof.Rows L2 GenW
/-- an expression whose value is a generator that has not begun -/
structure PGenC (X : Cx) (k : Nat) (e : Expr) (tg : TGen) : Prop where
  run : ∀ (pins : List (Addr × Obj)) (s : Shared) (σ : L2.St) (H : Hp) (cont : List V → Hp → Prop), Inv X pins σ H s → tg σ H cont → wpAny (model X.prog X.w) X.A (eval e X.env)
    (fun u s' => ∃ H1 sc, Inv X pins σ H1 sc ∧ GMadeC X.prog X.w k X.stack H1 sc cont u s') X.xe s
theorem goes_of {P : Program} {w : World} {B : Around} {outer : List Env} {H : Hp} {sc : Shared} {S C a : Addr} {g n : Nat} {Q : List V → Hp → Prop} {gs : GenState} {r : Resume} {s : Shared} (h : gs.Goes (model P w) B (NEnd P w outer H sc S C Q) (NItem sc S C a g) n r s) :
    gs.Goes (model P w) B (fun n s₀ r s₁ => ((r = .ok (.ret .none) ∨ r = .ok .next) ∧ NFin P w outer H sc S C Q n s₀ s₁) ∨ ∃ e, r = .error e ∧ NEr e s₁) (NItem sc S C a g) n r s := h
/-- one turn: next, store, read, append -/
theorem gen_turn {P : Program} {w : World} {A : Around} {outer : List Env} {H : Hp} {sc : Shared} {S C a : Addr} {g n : Nat} {Q : List V → Hp → Prop} {gs : GenState} {s : Shared} {Z : Option Value → Shared → Prop} {EX : Value → Shared → Prop}
    (hh : A.handled = none) (hd : A.depth < recursionLimit) (hSa : S ≠ a) (hCa : C ≠ a) (hne : S ≠ C) (hSc : S ≠ cStatics) (hCc : C ≠ cStatics) (hl : s.heap.NoLimit) (hg : s.heap.IsGen a g) (hgs : s.gens[g]? = some gs)
    (hgo : gs.Goes (model P w) A.in1 (NEnd P w outer H sc S C Q) (NItem sc S C a g) n (.send .none) (s.setGen g .running))
    (hfin : ∀ s₁, NFin P w outer H sc S C Q n (s.setGen g .running) s₁ → ∀ h', (∀ b o, s₁.heap.get? b = some o → h'.get? b = some o) → Z none { s₁.setGen g .finished with heap := h' })
    (hitem : ∀ v s₁ gs', s₁.heap.NoLimit → s₁.heap.IsGen a g → g < s₁.gens.size → (∀ o, s.heap.get? C = some o → s₁.heap.get? C = some o) → AllBare (s₁.setGen g gs').gens → (∃ (acc : Array Value) (c : Nat), s₁.heap.get? S = some (lstObj acc c) ∧ acc.size < sizeLine) →
      (∀ s', Nap S C v s₁ s' → ∃ m', m' < n ∧ gs'.Goes (model P w) A.in1 (NEnd P w outer H sc S C Q) (NItem sc S C a g) m' (.send .none) s') → Z (some v) (s₁.setGen g gs')) :
    wpAny (model P w) A (pyNext (.ref a)) Z EX s := by
  have hgl : g < s.gens.size := (Array.getElem?_eq_some_iff.mp hgs).1
  refine wpAny_gsz (n := g + 1) hgl (next_genG hh hl hd hg hgs (goes_of hgo) (fun v s₁ gs' hbare hv => ?_) (fun s₁ hp h' hk => fun _ => hfin s₁ hp h' hk) fun e s₁ he => he.elim)
  · intro hsz
    obtain ⟨os1, hb1, hl1, hg1, eC, ⟨acc, c, hS1, hacc⟩, hk⟩ := hv
    have hsz1 : g < s₁.gens.size := by
      have q : (s₁.setGen g gs').gens.size = s₁.gens.size := setGen_size _ _ _
      have q2 : g + 1 ≤ (s₁.setGen g gs').gens.size := hsz
      omega
    refine hitem v s₁ gs' hl1 hg1 hsz1 (fun o e => eC.trans e) (allBare_setGen hb1 hbare) ⟨acc, c, hS1, by omega⟩ fun s' z => ?_
    have z2 := hk s' z
    cases n with
    | zero => exact z2.elim
    | succ n' => exact ⟨n', Nat.lt_succ_self _, z2⟩
end LF

set_option Elab.async false
set_option linter.all false
set_option maxRecDepth 100000
set_option maxHeartbeats 4000000
namespace LF
open PySem PySem.Spec PyProof.Rows L2 GenW
theorem cloNo {cells : List (Str × Addr)} : ∀ {l : List (Str × NameKind)}, (∀ y ∈ l, y.2 ≠ .free) → ∀ y ∈ l, y.2 = .free → ∃ c, cells.lookup y.1 = some c := fun h y hy e => absurd e (h y hy)
/-- [x for x in g], g a generator that has not begun -/
theorem pe_lcG {X : Cx} {k : Nat} {x : Str} {px px2 pos : Pos} {iter : Expr} {scope : Scope} {tg : TGen} (hgen : PGenC X k iter tg) (hr : Room (k + 1) X.A) (hkind : scope.kind = .function) (huniq : ∀ y ∈ scope.names, y.2 = .local → scope.names.lookup y.1 = some .local)
    (hx : scope.names.lookup x = some .local) (hnf : ∀ y ∈ scope.names, y.2 ≠ .free) (hdb : (x == ("__debug__" : Str)) = false := by decide) (hs : ∀ v, foldedSetIterable iter X.env v = pure v := by intro _; rfl) :
    PE X (.ListComp (.Name x px2) [⟨.Name x px, iter, [], 0⟩] scope pos) (tListG tg) := by
  refine ⟨fun pins s σ H Q I h => ?_⟩
  rw [eval_ListComp]
  refine wpAny_comprehension_free (use := none) rfl hs (closure_ok (cloNo hnf)) hkind (fun y hy e => huniq y hy e) (thn (hgen.run pins s σ H _ I h) fun u s1 ⟨H1, sc, I1, hG⟩ => ?_)
  obtain ⟨a, g, c, rfl, ha1, ha2, hg, hgs, hos, hb, hl, hkp, wake⟩ := hG
  refine wpAny_pyIter_gen hg ?_
  refine wpAny_newObj_type (newEnv_comp ?_) (by show 0 ≤ sizeLine; decide)
  generalize hS : s1.heap.objs.size = S
  generalize hs3 : ({ s1 with heap := s1.heap.push { cls := .type "list", data := .seq ([] : List Value).toArray } } : Shared) = s3
  have h3 : s3.heap = s1.heap.push { cls := .type "list", data := .seq ([] : List Value).toArray } := by rw [← hs3]
  show codeAny _ _ (.compStart (.ListComp (.Name x px2) [⟨.Name x px, iter, [], 0⟩] scope pos) 0 (.ref a) (.ref S) (compEnvC scope (cellsFrom (s3.heap.objs.size + 1) scope.names (cloFrom X.env.cells scope.names [])) s3.heap.objs.size X.env)) (compPost (model X.prog X.w) X.A X.xe none _ (.ref S) s3.heap.objs.size) { s3 with heap := pushCells (s3.heap.push { cls := .type "dict", data := .dict #[] }) scope.names }
  generalize hC : s3.heap.objs.size = C
  generalize hce : compEnvC scope (cellsFrom (C + 1) scope.names (cloFrom X.env.cells scope.names [])) C X.env = ce
  generalize hs4 : ({ s3 with heap := pushCells (s3.heap.push { cls := .type "dict", data := .dict #[] }) scope.names } : Shared) = s4
  have h4 : s4.heap = pushCells (s3.heap.push { cls := .type "dict", data := .dict #[] }) scope.names := by rw [← hs4]
  have eSC : C = S + 1 := by rw [← hC, h3, Heap.size_push, hS]
  have k13 : ∀ b o, s1.heap.get? b = some o → s3.heap.get? b = some o := fun b o e => by rw [h3]; exact Heap.get?_push_of_some _ e
  have k34 : ∀ b o, s3.heap.get? b = some o → s4.heap.get? b = some o := fun b o e => by rw [h4]; exact pushCells_keeps _ _ _ _ (Heap.get?_push_of_some _ e)
  have k14 : ∀ b o, s1.heap.get? b = some o → s4.heap.get? b = some o := fun b o e => k34 b o (k13 b o e)
  have gS : s4.heap.get? S = some (lstObj #[] 0) := k34 _ _ (by rw [h3, ← hS]; exact Heap.get?_push_size _ rfl)
  have gC0 : (s3.heap.push { cls := .type "dict", data := .dict #[] }).get? C = some { cls := .type "dict", data := .dict #[] } := by rw [← hC]; exact Heap.get?_push_size _ rfl
  have gC : s4.heap.get? C = some { cls := .type "dict", data := .dict #[] } := by rw [h4]; exact pushCells_keeps _ _ _ _ gC0
  have nC : s4.heap.Ns C (fun _ => none) := ⟨_, #[], _, gC, rfl, (fun e he => absurd he (by simp)), fun name => rfl⟩
  have sz4 : s1.heap.objs.size ≤ S := Nat.le_of_eq hS
  have szC : s1.heap.objs.size ≤ C := by rw [eSC]; exact Nat.le_succ_of_le sz4
  have sc1 : sc.heap.objs.size ≤ s1.heap.objs.size := Nat.le_trans ha1 (Nat.le_of_lt ha2)
  have scS : sc.heap.objs.size ≤ S := Nat.le_trans sc1 sz4
  have scC : sc.heap.objs.size ≤ C := Nat.le_trans sc1 szC
  have nSC : S ≠ C := by rw [eSC]; exact Nat.ne_of_lt (Nat.lt_succ_self _)
  have nSa : S ≠ a := Nat.ne_of_gt (Nat.lt_of_lt_of_le ha2 sz4)
  have nCa : C ≠ a := Nat.ne_of_gt (Nat.lt_of_lt_of_le ha2 szC)
  have hcl : cStatics < s1.heap.objs.size := let ⟨_, hn, _⟩ := hl; hn.lt
  have nSs : S ≠ cStatics := Nat.ne_of_gt (Nat.lt_of_lt_of_le hcl sz4)
  have nCs : C ≠ cStatics := Nat.ne_of_gt (Nat.lt_of_lt_of_le hcl szC)
  have gens4 : s4.gens = s1.gens := by rw [← hs4, ← hs3]
  have os4 : s4.os = s1.os := by rw [← hs4, ← hs3]
  have ck : ce.kindOf x = some .local := by rw [← hce]; exact lookup_relabel_local hx
  have ckd : ce.scope.kind = .function := by rw [← hce]; exact hkind
  have cL : ce.locals = C := by rw [← hce]; rfl
  have clsF : (ce.scope.kind == .class || (ce.scope.kind == .module && ce.locals != ce.globals)) = false := by rw [ckd]; rfl
  have bareOf : ∀ {t : Shared} {y : GenState}, AllBare t.gens → y.bare = true → AllBare (t.setGen g y).gens := fun h1 h2 => allBare_setGen h1 h2
  have loop : codeAny (model X.prog X.w) X.A (.compLoop (.ListComp (.Name x px2) [⟨.Name x px, iter, [], 0⟩] scope pos) 0 (.ref a) (.ref S) ce) (compPost (model X.prog X.w) X.A X.xe none (fun v s' => ∃ x H1, L2.Inv X pins σ H1 s' ∧ L2.RelV x v ∧ Q x H1) (.ref S) C) s4 := by
    refine compLoop_any (fun n t => t.heap.IsGen a g ∧ t.heap.NoLimit ∧ (∃ m, t.heap.Ns C m) ∧ ∃ gs, t.gens[g]? = some gs ∧ gs.Goes (model X.prog X.w) X.A.in1 (NEnd X.prog X.w X.stack H1 sc S C fun out H2 => ∀ p, H2 p = none → Q (.ref p) (upd H2 p (.lst out))) (NItem sc S C a g) n (.send .none) (t.setGen g .running)) ?_ sizeLine ?_
    rotate_left
    · refine ⟨hg.keeps k14, hl.keeps k14, ⟨_, nC⟩, .fresh c, by rw [gens4]; exact hgs, rfl, ?_⟩
      refine wake X.A.in1 S C (s4.setGen g .running) hr.in1 I1.ok.frames sz4 szC nSC k14 ⟨0, gS⟩ ⟨_, gC, fun v q => nomatch q⟩ (os4.trans hos) (bareOf (by rw [gens4]; exact hb) rfl)
    · rintro n t ⟨tg1, tl, ⟨m, tn⟩, gs, tgs, tgo⟩
      refine gen_turn hr.hd (by have := hr.dp; omega) nSa nCa nSC nSs nCs tl tg1 tgs tgo (fun s₁ hp h' hk => ?_) (fun v s₁ gs' l1 g1 gz kC hbare ⟨acc, cc, hS1, hlt⟩ hk => ?_)
      · obtain ⟨eC, H', ys, acc, cc, os1, hb1, un, hok, hSn, hCn, hS1, hv, hle, hQ⟩ := hp
        have I3 := I1.drained (s' := { s₁.setGen g .finished with heap := h' }) scS hle (hk _ _ hS1) hv ExOk.nil os1 (bareOf hb1 rfl) (un.trans (Un.kept hk)) (hok.kept hk) hSn
        have hCn2 : (upd H' S (.lst ys)) C = none := by rw [upd_ne nSC.symm]; exact hCn
        obtain ⟨f0, f1, f2, f3, f4, f5⟩ := I1.fpOk scC hCn2
        refine ⟨m, tn.at' fun o e => hk _ _ (eC.trans e), fun h3 sb => ⟨.ref S, upd H' S (.lst ys), I3.turned (t' := s₁.toks) (fun b o hb e => (sb.2 b hb).trans e) f0 f1 f3 f4 f5, rfl, hQ S hSn⟩⟩
      · have tn1 : (s₁.setGen g gs').heap.Ns ce.locals m := by rw [cL]; exact tn.at' kC
        show wpAny _ _ (letOwnedTupleGo (.Name x px) (.ref a) v) _ _ _
        unfold letOwnedTupleGo
        refine wpAny_pure ?_
        refine wpAny_assign_Name (wpAny_storeName_local ck tn1 (fun h1 hn1 sb1 => ?_) clsF)
        refine wpAny_tests_nil ?_
        rw [if_pos rfl, eval_Name _ x px2 hdb]
        refine wpAny_bind (wpAny_standAt (wpAny_loadName_local ckd ck hn1 (if_pos rfl) ?_))
        rw [cL] at sb1 hn1
        have eS1 : h1.get? S = some (lstObj acc cc) := (sb1.2 S nSC).trans hS1
        refine append_at (D := S) (its := acc) (n := cc) eS1 (fun h2 sb2 ho2 => ?_) (Nat.le_of_lt hlt)
        have k2 : ∀ b o, b ≠ S → b ≠ C → s₁.heap.get? b = some o → h2.get? b = some o := fun b o n1 n2 e => (sb2.2 b n1).trans ((sb1.2 b n2).trans e)
        have hn2 := hn1.sameBut sb2 nSC.symm
        obtain ⟨m', hm, hgo⟩ := hk ({ s₁.setGen g gs' with heap := h2, toks := s₁.toks + 1 }.setGen g .running) ⟨rfl, bareOf (t := { s₁.setGen g gs' with heap := h2, toks := s₁.toks + 1 }) hbare rfl, k2, fun acc2 c2 e2 => by
          rw [hS1] at e2
          cases e2
          exact ⟨cc + 1, ho2⟩, by
          obtain ⟨o, es, ep, e, d, _⟩ := hn2
          exact ⟨o, e, fun v q => by rw [d] at q; cases q⟩⟩
        refine ⟨m', hm, ?_, ?_, ⟨_, hn2⟩, gs', setGen_at gz, hgo⟩
        · obtain ⟨o, nm, qn, ho, r⟩ := g1
          exact ⟨o, nm, qn, k2 a o nSa.symm nCa.symm ho, r⟩
        · obtain ⟨mc, hns, hnn⟩ := l1
          exact ⟨mc, hns.at' fun o e => k2 _ o nSs.symm nCs.symm e, hnn⟩
  exact codeAny_compStart_list loop (wpAny_pyIter_gen (hg.keeps k14) loop)
end LF

set_option Elab.async false
set_option linter.all false
set_option maxRecDepth 100000
set_option maxHeartbeats 4000000
namespace LF
open PySem PySem.Spec PyProof.Rows L2 GenW
def tMethC (C : Addr) (m : Str) (sp : SpH) (ta : TE) : TGen := fun σ H cont => ta σ H fun x H1 => ∃ a dx fs, x = .ref a ∧ H1 a = some (.ins C dx fs) ∧ fs.lookup m = none ∧ sp [x] H1 cont
/-- o.m(), m a generator method -/
theorem pgenC_meth {X : Cx} {k : Nat} {o : Expr} {ta : TE} {C f : Addr} {m : Str} {fd : FuncData} {apos pos' : Pos} {pl : Sem Bool} {px : Str} {sp : SpH} (he : PE X o ta) (c : Cls X.K C) (hm : Meth X.K C m f) (F : GFnC X.prog X.w X.K X.mg X.base k f fd [px] sp) (hr : Room k X.A) (hb : Binds X.K fd [px] [])
    (ht : eval (.Call (.Attribute o m apos) [] [] pos') X.env = (do
      let ov ← eval o X.env
      standAt apos.atName
      let (f, first) ← holding [ov] (getMethod ov m pl)
      callWith pos' f first (backTo pos' (starEach [] X.env)) (backToKw pos' (keywordEach [] X.env))) := by rfl) :
    PGenC X k (.Call (.Attribute o m apos) [] [] pos') (tMethC C m sp ta) := by
  refine ⟨fun pins s σ H cont I h => ?_⟩
  refine PySem.W.methodCall_KW (pl := pl) (thn (he.run pins s σ H _ I h) fun u s1 ⟨x, H1, I1, rx, a, dx, fs, ex, ea, l, q⟩ => ?_) ht
  subst ex
  obtain rfl : u = Value.ref a := rx
  refine getmeth_ok I1 ea c hm l ?_
  refine PySem.W.callWith_K0 (first := [.ref a]) I1.kIn hm.kp ?_
  have b' := hb s1 [.ref a] I1.kIn rfl
  rw [List.append_nil] at b'
  refine wpAny_call (codeAny_mono (F.run X.A X.stack s1 H1 ⟨[.ref a], []⟩ [.ref a] [.ref a] cont hr I1.env0 b' (.cons rfl .nil) q) fun r s' hq => ?_)
  cases r with
  | error e => exact hq.elim
  | ok fl =>
    cases fl with
    | ret u => exact ⟨H1, s1, I1, hq⟩
    | next => exact hq.elim
    | brk => exact hq.elim
    | cont => exact hq.elim
end LF

set_option Elab.async false
set_option linter.all false
set_option maxRecDepth 100000
set_option maxHeartbeats 16000000
namespace KC
open PySem PySem.Spec PyProof.Rows L2 LF
open Evl (Ev EvL EvU EvT EvA Ex sq_of st_of)
open PySem.W (EachIs)
/-! data that is told -/
def lkP (z : Int × Str × Tg) : PyData := .tuple [.int z.1, .str z.2.1, tgP z.2.2]
theorem lk_dp {K : PySem.W.Frag} {b : Addr} {H : Hp} {v : V} {z : Int × Str × Tg} (h : LkA b H v z) : Dp K H v (lkP z) := by
  obtain ⟨q, u, e, h1, h2⟩ := h
  rw [e]
  exact .tup (SqT.of h1) (.cons (.int _) (.cons (.str _) (.cons (tg_dp h2) .nil)))
theorem dpall_of {α : Type} {K : PySem.W.Frag} {H : Hp} {R : V → α → Prop} {f : α → PyData} (h : ∀ v z, R v z → Dp K H v (f z)) : ∀ {vs : List V} {zs : List α}, EachIs R vs zs → DpAll K H vs (zs.map f)
  | _, _, .nil => .nil
  | _, _, .cons r t => .cons (h _ _ r) (dpall_of h t)
theorem dpall_map {α : Type} {K : PySem.W.Frag} {H : Hp} {g : α → V} {f : α → PyData} (h : ∀ z, Dp K H (g z) (f z)) : ∀ {zs : List α}, DpAll K H (zs.map g) (zs.map f)
  | [] => .nil
  | z :: zs => .cons (h z) (dpall_map h)
theorem lay_all {α : Type} {f : α → PyData} : ∀ {l : List α}, (∀ a ∈ l, (f a).canLay0 = true ∧ (f a).depth ≤ 60) → PyData.canLayAll0 (l.map f) = true ∧ PyData.depthAll (l.map f) ≤ 60
  | [], _ => by rw [List.map_nil, PyData.canLayAll0, PyData.depthAll]; exact ⟨rfl, by decide⟩
  | a :: l, h => by
    obtain ⟨h1, h2⟩ := h a List.mem_cons_self
    obtain ⟨h3, h4⟩ := lay_all fun b hb => h b (List.mem_cons_of_mem _ hb)
    rw [List.map_cons, PyData.canLayAll0, PyData.depthAll, h1, h3]
    exact ⟨rfl, by omega⟩
theorem shaped_lst {α : Type} {f : α → PyData} {l : List α} (h : ∀ a ∈ l, (f a).canLay0 = true ∧ (f a).depth ≤ 60) : SeqAt.shaped (.list (l.map f)) = true ∧ PyData.eqv (.list (l.map f)) (.list (l.map f)) = true := by
  obtain ⟨h1, h2⟩ := lay_all h
  have h3 : (PyData.list (l.map f)).canLay0 = true := by rw [PyData.canLay0]; exact h1
  refine ⟨?_, PySem.SeqAt.eqv_refl _ h3⟩
  unfold SeqAt.shaped
  rw [h3, Bool.true_and]
  refine decide_eq_true ?_
  rw [PyData.depth]
  omega
theorem lay_int (i : Int) : (PyData.int i).canLay0 = true ∧ (PyData.int i).depth ≤ 60 := by
  rw [PyData.canLay0, PyData.depth]; exact ⟨rfl, by decide⟩
theorem lay_bool (c : Bool) : (PyData.bool c).canLay0 = true ∧ (PyData.bool c).depth ≤ 60 := by
  rw [PyData.canLay0, PyData.depth]; exact ⟨rfl, by decide⟩
theorem lay_tg {js : List Int} {x : Tg} (h : TgOk js x) : (tgP x).canLay0 = true ∧ (tgP x).depth ≤ 1 := by
  cases x with
  | inl i => exact ⟨(lay_int i).1, by show (PyData.int i).depth ≤ 1; rw [PyData.depth]; decide⟩
  | inr p =>
    have h1 := strOk_nm h.1
    have h2 := h.2.strOk
    simp only [tgP, PyData.canLay0, PyData.canLayAll0, PyData.depth, PyData.depthAll, h1, h2]
    exact ⟨rfl, by decide⟩
theorem lay_lk {js : List Int} {j : Int} {y : Str × Tg} (h1 : isNm y.1 = true) (h2 : TgOk js y.2) : (lkP (j, y.1, y.2)).canLay0 = true ∧ (lkP (j, y.1, y.2)).depth ≤ 60 := by
  obtain ⟨h3, h4⟩ := lay_tg h2
  have h5 := strOk_nm h1
  simp only [lkP, PyData.canLay0, PyData.canLayAll0, PyData.depth, PyData.depthAll, h5, h3]
  exact ⟨rfl, by omega⟩
theorem lay_links {s : Tabs} (h : TabOk s) : ∀ z ∈ linksOf s, (lkP z).canLay0 = true ∧ (lkP z).depth ≤ 60 := fun z hz => by
  obtain ⟨x, hx, hz⟩ := List.mem_flatMap.mp hz
  obtain ⟨y, hy, rfl⟩ := List.mem_map.mp hz
  obtain ⟨h1, h2⟩ := (h.2.2.2 x hx).2.2.2 y hy
  exact lay_lk h1 h2
theorem links_len (s : Tabs) : (linksOf s).length = cntS s := by
  unfold linksOf cntS
  rw [List.length_flatMap]
  congr 1
  exact List.map_congr_left fun x _ => by unfold linksR; rw [List.length_map]
theorem ints_one {xs ys : List Int} (hp : xs.Perm ys) (h1 : xs.Pairwise (· ≤ ·)) (h2 : ys.Pairwise (· ≤ ·)) : xs = ys :=
  List.Perm.eq_of_pairwise (le := (· ≤ ·)) (fun a b _ _ h1 h2 => Int.le_antisymm h1 h2) h1 h2 hp
theorem LkA.keep {b a : Addr} {H H' : Hp} {v : V} {z : Int × Str × Tg} {xs : List V} (h : LkA b H v z) (ha : H a = some (.lst xs)) (k : ∀ c o, c ≠ a → H c = some o → H' c = some o) : LkA b H' v z :=
  h.tups fun c ys hc => k c _ (fun e => by rw [e, ha] at hc; cases hc) hc
theorem lk_seen {R : Addr} {top : Int} : List.lookup ("seen" : Str) (layFs R top) = none := by
  have e1 : (("seen" : Str) == ("rows" : Str)) = false := by decide +kernel
  have e2 : (("seen" : Str) == ("peak" : Str)) = false := by decide +kernel
  simp [layFs, List.lookup, e1, e2]
theorem lk_links {R : Addr} {top : Int} : List.lookup ("links" : Str) (layFs R top) = none := by
  have e1 : (("links" : Str) == ("rows" : Str)) = false := by decide +kernel
  have e2 : (("links" : Str) == ("peak" : Str)) = false := by decide +kernel
  simp [layFs, List.lookup, e1, e2]
/-- everything that a layout is asked for -/
structure LayAll (P : Program) (w : World) (K : PySem.W.Frag) (mg : Str → Option Value) (base : Heap) (C fT pT fB fE fI fS fG fN fL fR : Addr) (fdT fdB fdE fdI fdS fdG fdN fdL fdR : FuncData) : Prop where
  R : LayTxt K mg C
  mkr : Mk K C fI
  FI : FnOk P w K mg base CX0 6 fI fdI ["self", "tables", "top"] (spInit C)
  kb : ∃ g, KBn K fdI ["self", "tables", "top"] 2 ["top"] g (fun vs zs => vs ++ zs)
  b1 : ∃ ds, L2.Binds K fdI ["self", "tables", "top"] ds ∧ Vals [.int 0] ds
  top : PropOf K C "top" pT fT
  FT : FnOk P w K mg base CX0 1 fT fdT ["self"] (spTop C)
  bT : L2.Binds K fdT ["self"] []
  mB : Meth K C "tables" fB
  FB : FnOk P w K mg base CX0 1 fB fdB ["self"] (spTables C)
  bB : L2.Binds K fdB ["self"] []
  FE : FnOk P w K mg base CX0 1 fE fdE ["self", "other"] (fun vs H Q E => spEq C vs H Q E ∨ spEqX K C vs H Q E)
  bE : L2.Binds K fdE ["self", "other"] []
  sE : PySem.W.findIn K (.ref C) "__eq__" = some (some (.ref fE))
  iE : PySem.W.isFn K (.ref fE) = true
  mS : Meth K C "seen" fS
  FS : FnOk P w K mg base CX0 2 fS fdS ["self"] (spSeen C)
  bS : L2.Binds K fdS ["self"] []
  mG : Meth K C "links" fG
  GG : GFnC P w K mg base 2 fG fdG ["self"] (spLinks C)
  bG : L2.Binds K fdG ["self"] []
  FN : FnOk P w K mg base CX0 3 fN fdN ["self", "thing"] (spCont K C)
  bN : L2.Binds K fdN ["self", "thing"] []
  sN : PySem.W.findIn K (.ref C) "__contains__" = some (some (.ref fN))
  iN : PySem.W.isFn K (.ref fN) = true
  FL : FnOk P w K mg base CX0 1 fL fdL ["self"] (spLen C)
  bL : L2.Binds K fdL ["self"] []
  sL : PySem.W.findIn K (.ref C) "__len__" = some (some (.ref fL))
  iL : PySem.W.isFn K (.ref fL) = true
  FR : FnOk P w K mg base CX0 1 fR fdR ["self"] (spRepr C)
  bR : L2.Binds K fdR ["self"] []
  sR : PySem.W.findIn K (.ref C) "__repr__" = some (some (.ref fR))
  iR : PySem.W.isFn K (.ref fR) = true
  nD : PySem.W.subIn K (.type "dict") (.ref C) = some false
  nS : PySem.W.subIn K (.type "str") (.ref C) = some false
  LI : LayIs K C
  kCI : PySem.W.kitOne K (.ref C) (.type "int") = some false
  kDC : PySem.W.kitOne K (.type "dict") (.ref C) = some false
  kSC : PySem.W.kitOne K (.type "str") (.ref C) = some false
def spAsk (C : Addr) : Sp := fun vs H Q _ => ∃ (l t b : Addr) (tabs s : Tabs) (top : Int), vs = [.ref l, .ref t, .int top] ∧ LayA C b H l s top ∧ TabA b H t tabs ∧ TabOk tabs ∧ SrtT tabs s ∧ top ∈ tabs.map (·.1) ∧ (∃ o, H b = some o) ∧ ∀ H', Ex H H' → Q (.bl true) H'
abbrev s__law_asked_right : Stmt := topS 28
abbrev N__law_asked_right : List Str := ["_law_layout", "_law_tables", "_law_head", "_law_links", "_law_joint", "_law_name", "_law_link", "_law_words_here", "_law_told"]
theorem sc__law_asked_right : FnScope ["_law_layout", "_law_tables", "_law_head", "_law_links", "_law_joint", "_law_name", "_law_link", "_law_words_here", "_law_told"] ["_law_layout", "_law_tables", "_law_head"] (defScope s__law_asked_right) := ⟨rfl, rfl, rfl, by decide +kernel, rfl, by decide +kernel, by decide +kernel⟩
section
variable {P : Program} {w : World} {K : PySem.W.Frag} {mg : Str → Option Value} {base : Heap} {tk1 tk2 : Tok}
theorem ok_asked {f f1 C fT pT fB fE fI fS fG fN fL fR : Addr} {fd fd1 fdT fdB fdE fdI fdS fdG fdN fdL fdR : FuncData} (F : Fun K "_law_asked_right" "_law_asked_right" s__law_asked_right f fd) (T : Txt K mg tk1 tk2)
    (d__law_seen : DefAt P w K mg base "_law_seen" 1 f1 fd1 ["_law_tables", "_law_head"] spLSeen) (G : LayAll P w K mg base C fT pT fB fE fI fS fG fN fL fR fdT fdB fdE fdI fdS fdG fdN fdL fdR) :
    FnOk P w K mg base CX0 6 f fd ["_law_layout", "_law_tables", "_law_head"] (spAsk C) := by
  refine F.ok sc__law_asked_right (fun vs H Q E h => ?_) (fun cdv A outer st H vs Q E hr h => ?_)
  · obtain ⟨l, t, b, tabs, s, top, rfl, _⟩ := h
    rfl
  have hu := hr.units
  have hu1 := hu_of hr
  refine ⟨_, (pss_cons (ps_set (i := 3) sc__law_asked_right.nd rfl (Or.inl rfl) (pe_lst pa_nil))
    (pss_cons (ps_for PassesOwn.never rfl (pi_list (pe_callB (call_sortedDI rfl) (by rfl) T.n_sorted (by decide +kernel) (pa_cons (pv 1) pa_nil))) (pg_name (i := 4) sc__law_asked_right.nd rfl (Or.inr rfl)) (pss_one (ps_expr (pe_bm PySem.F.plainAttrs_list PySem.F.slot_list_extend PySem.F.type_list_extend mt_extend (pv 3) (pa_cons (pe_lc (own := [("_law_name", 5)]) rfl sc__law_asked_right.nd (pi_list (pe_callB (call_sortedD rfl) (by rfl) T.n_sorted (by decide +kernel) (pa_cons (pe_dget hu1 (pv 1) (pv 4) (fun _ _ => rfl)) pa_nil))) (blkOk_by (N := N__law_asked_right) (sc := defScope s__law_asked_right) (by decide +kernel)) (fun _ _ _ _ _ => pg_name (i := 5) sc__law_asked_right.nd rfl (Or.inl rfl)) (fun _ _ _ _ _ => pts_nil) (fun _ _ _ _ _ => (pe_tup (pa_cons (pv 4) (pa_cons (pv 5) (pa_cons (pe_dget hu1 (pe_dget hu1 (pv 1) (pv 4) (fun _ _ => rfl)) (pv 5) (fun _ _ => rfl)) pa_nil)))))) pa_nil)))))
    (pss_cons (ps_if (PW.pt (pw_or (pt_cmpR (op_neT hu) (pe_meth0 (pv 0) G.R.cl G.mB G.FB (hr.mono (by decide)) G.bB .nil pass0) (pv 1) (nomark _)) (pw_or (pt_cmpR op_ne (pe_prop (pv 0) G.R.cl G.top G.FT (hr.mono (by decide)) G.bT .nil pass0 rfl) (pv 2) (nomark _)) (pw_or1 (pt_cmpR (op_neD hu) (pe_meth0 (pv 0) G.R.cl G.mS G.FS (hr.mono (by decide)) G.bS .nil pass0) (pe_callD d__law_seen (hr.mono (by decide)) (pa_cons (pv 1) (pa_cons (pv 2) pa_nil))) (nomark _)))))) (pss_one (ps_ret pe_bl)) pss_nil)
    (pss_cons (ps_if (PW.pt (pw_or (pt_cmpR (op_neD hu) (pe_lcG (x := "_law_link") (pgenC_meth (pv 0) G.R.cl G.mG G.GG (hr.mono (by decide)) G.bG) (hr.mono (by decide)) rfl (by decide +kernel) (by decide +kernel) (by decide +kernel)) (pv 3) (nomark _)) (pw_or1 (pt_cmpR op_ne (pe_callB (call_lenO G.FL (hr.mono (by decide)) G.bL G.sL G.iL) (by rfl) T.n_len (by decide +kernel) (pa_cons (pv 0) pa_nil)) (pe_callB call_lenD (by rfl) T.n_len (by decide +kernel) (pa_cons (pv 1) pa_nil)) (nomark _))))) (pss_one (ps_ret pe_bl)) pss_nil)
    (pss_cons (ps_set (i := 7) sc__law_asked_right.nd rfl (Or.inl rfl) (pe_op op_add_str (pe_op op_add_str (pe_op op_add_str (pe_op op_add_str pe_str (pe_callTy call_str_int (by rfl) T.n_str (by decide +kernel) (pa_cons (pe_callB call_lenD (by rfl) T.n_len (by decide +kernel) (pa_cons (pv 1) pa_nil)) pa_nil))) pe_str) (pe_callTy call_str_int (by rfl) T.n_str (by decide +kernel) (pa_cons (pe_callB call_len_seq (by rfl) T.n_len (by decide +kernel) (pa_cons (pv 3) pa_nil)) pa_nil))) pe_str))
    (pss_cons (ps_setLc (i := 8) (own := [("_law_joint", 4)]) rfl sc__law_asked_right.nd rfl rfl (sw_true rfl rfl rfl (by decide +kernel)) (pi_range1 (by rfl) T.n_range (pa_cons pe_int pa_nil)) (blkOk_by (N := N__law_asked_right) (sc := defScope s__law_asked_right) (by decide +kernel)) (fun _ _ _ _ _ => pg_name (i := 4) sc__law_asked_right.nd rfl (Or.inl rfl)) (fun _ _ _ _ _ => pts_nil) (fun _ _ _ _ _ => (pe_cmpR (show OpR _ (compareOp .In) (rInO false C (spCont K C)) from op_inO G.FN (hr.mono (by decide)) G.bN G.sN G.iN) (pv 4) (pv 0) (by rfl))))
    (pss_one (ps_ret (pe_and (pe_cmpR op_eq (pe_callB (call_reprO G.FR (hr.mono (by decide)) G.bR G.sR G.iR) (by rfl) T.n_repr (by decide +kernel) (pa_cons (pv 0) pa_nil)) (pv 7) (nomark _)) (pe_one (pe_cmpR (op_eqD hu) (pv 8) (pe_lc (own := [("_law_joint", 4)]) rfl sc__law_asked_right.nd (pi_range1 (by rfl) T.n_range (pa_cons pe_int pa_nil)) (blkOk_by (N := N__law_asked_right) (sc := defScope s__law_asked_right) (by decide +kernel)) (fun _ _ _ _ _ => pg_name (i := 4) sc__law_asked_right.nd rfl (Or.inl rfl)) (fun _ _ _ _ _ => pts_nil) (fun _ _ _ _ _ => (pe_cmp (pc_din hu1 (pv 4) (pv 1))))) (nomark _)))))))))))), ?_⟩
  obtain ⟨l, t, b, tabs, s, top, rfl, hlay, hta, hok, hsrt, hhead, ⟨ob, hob⟩, hq⟩ := h
  have hbig : (1000 : Nat) ≤ sizeLine := by decide
  have hso := srt_ok hsrt hok
  have h6 := hok.2.2.1
  have hsl : s.length = tabs.length := by have := hsrt.1.length_eq; simpa using this
  have hks : top ∈ s.map (·.1) := hsrt.1.mem_iff.mpr hhead
  have hta0 := hta
  obtain ⟨kvs, ntb, ht, heach, _⟩ := hta0
  have hlay0 := hlay
  obtain ⟨dx, Rr, nlb, hl, _⟩ := hlay0
  have hkeys : kvs.map (·.1) = (tabs.map (·.1)).map Sum.inl := by
    rw [List.map_map]
    exact each_map (fun a c h => h.1) heach
  have hkl : kvs.length = tabs.length := heach.length
  refine ⟨by show 0 ≤ sizeLine; decide, fun L hL => ?_⟩
  have x1 : Ex H (upd H L (.lst [])) := Ex.new hL
  have hL1 : (upd H L (.lst [])) L = some (.lst []) := upd_same
  generalize upd H L (.lst []) = H1 at *
  have old : ∀ {a o}, H a = some o → a ≠ L := fun h z => by rw [z, hL] at h; cases h
  refine ⟨_, rfl, t, kvs, tabs.map (·.1), rfl, Rd.of (x1 _ _ ht), hkeys, by rw [List.length_map]; omega, fun ys p hperm hpw hp => ⟨p, rfl, ⟨_, SqL.of upd_same⟩, ?_⟩⟩
  obtain rfl : ys = s.map (·.1) := ints_one (hperm.trans hsrt.1.symm) hpw hsrt.2.1
  have x2 : Ex H1 (upd H1 p (.lst ((s.map (·.1)).map V.int))) := Ex.new hp
  have hp2 : (upd H1 p (.lst ((s.map (·.1)).map V.int))) p = some (.lst ((s.map (·.1)).map V.int)) := upd_same
  have npL : p ≠ L := fun z => by rw [z, hL1] at hp; cases hp
  generalize upd H1 p (.lst ((s.map (·.1)).map V.int)) = H2 at *
  have hL2 := x2 _ _ hL1
  refine for_it (walk_list (xs := (s.map (·.1)).map V.int)) (fun n σ' H' => ∃ (v4 v5 v6 v7 v8 : Option V) (zs : List V), σ' = [some (.ref l), some (.ref t), some (.int top), some (.ref L), v4, v5, v6, v7, v8] ∧ Keep L H2 H' ∧ H' L = some (.lst zs) ∧ EachIs (LkA b H') zs (linksOf (s.take n)) ∧ zs.length ≤ 10 * n)
    ⟨_, _, _, _, _, [], rfl, Keep.refl _ _, hL2, .nil, Nat.zero_le _⟩ (fun n σ' H' _ ⟨_, _, _, _, _, _, _, k, _⟩ => SqL.of (k _ _ npL hp2)) ?_ ?_
  · rintro n x σ' H5' H5 hn ⟨v4, v5, v6, v7, v8, zs, rfl, k5, hL5, hzs, hzl⟩ ⟨rfl, hxi⟩
    rw [List.getElem?_map, List.getElem?_map] at hxi
    obtain ⟨j, hj, rfl⟩ := Option.map_eq_some_iff.mp hxi
    obtain ⟨xr, hsn, rfl⟩ := Option.map_eq_some_iff.mp hj
    have hxm := List.mem_of_getElem? hsn
    have hxo := (hso.2.2.2 xr hxm).2
    obtain ⟨y, hy, hy1, hsr⟩ := hsrt.2.2 xr hxm
    obtain ⟨v, hv, hm⟩ := keys_val hkeys (List.mem_map.mpr ⟨y, hy, hy1⟩)
    obtain ⟨y', hy', hy1', e, rfl, net, ekvs, neb, he, hrow⟩ := each_mem heach _ hm
    have eyy : y'.2 = y.2 := by
      have h1 := rowOf_mem hok.1 hy'
      have h2 := rowOf_mem hok.1 hy
      rw [← show xr.1 = y'.1 from Sum.inl.inj hy1', ← hy1, h2] at h1
      exact h1.symm
    rw [eyy] at hrow
    have hyo := (hok.2.2.2 y hy).2
    have hek : ekvs.map (·.1) = (y.2.map (·.1)).map Sum.inr := by
      rw [List.map_map]
      exact each_map (fun a c h => h.1) hrow
    have hekn : (ekvs.map (·.1)).Nodup := by rw [hek]; exact nodup_map_inr hyo.1
    have x5 : Ex H H5 := fun a o h => k5 _ _ (old h) (x2 _ _ (x1 _ _ h))
    have dg : ∀ {H' : Hp}, Ex H5 H' → DGet H' t (.int xr.1) (some (.ref e)) := fun ex => by
      have := DGet.k (k := .inl xr.1) (ex _ _ (x5 _ _ ht))
      rw [hv] at this; exact this
    have hn6 : n < 6 := by rw [List.length_map, List.length_map] at hn; omega
    refine ⟨_, rfl, Or.inl ⟨rfl, _, SqL.of hL5⟩, ?_⟩
    refine ⟨_, rfl, _, rfl, t, _, rfl, dg (Ex.refl _), e, ekvs, y.2.map (·.1), rfl, Rd.of (x5 _ _ he), hek, by rw [List.length_map]; have := hyo.2.1; omega, fun ns p2 hperm2 hsorted2 hp2n => ⟨p2, rfl, ⟨_, SqL.of upd_same⟩, fun D hD => ?_⟩⟩
    obtain rfl : ns = xr.2.map (·.1) := sorted_one hsorted2 hsr.2 (hperm2.trans (hsr.1.symm.map (·.1)))
    have x6 : Ex H5 (upd H5 p2 (.lst ((xr.2.map (·.1)).map V.str))) := Ex.new hp2n
    have hp6 : (upd H5 p2 (.lst ((xr.2.map (·.1)).map V.str))) p2 = some (.lst ((xr.2.map (·.1)).map V.str)) := upd_same
    generalize upd H5 p2 (.lst ((xr.2.map (·.1)).map V.str)) = H6 at *
    have hL6 := x6 _ _ hL5
    have nDL : D ≠ L := fun z => by rw [z, hL6] at hD; cases hD
    refine lc_it (walk_list (xs := (xr.2.map (·.1)).map V.str)) (fun m H' => Ex H6 H' ∧ ∃ us, H' D = some (.lst us) ∧ EachIs (LkA b H') us (linksR xr.1 (xr.2.take m))) ⟨Ex.new hD, [], upd_same, .nil⟩ (fun m H' _ h => SqL.of (h.1 _ _ hp6)) ?_ ?_
    · rintro m x H7' H7 hm7 ⟨e7, us, hus, heu⟩ ⟨rfl, hxm7⟩
      rw [List.getElem?_map, List.getElem?_map] at hxm7
      obtain ⟨nm, hnm, rfl⟩ := Option.map_eq_some_iff.mp hxm7
      obtain ⟨z, hz, rfl⟩ := Option.map_eq_some_iff.mp hnm
      have hzy : z ∈ y.2 := hsr.1.mem_iff.mp (List.mem_of_getElem? hz)
      obtain ⟨⟨kk, u⟩, hkv, hkk, htg⟩ := each_back hrow z hzy
      have hu2 : valV ekvs (.inr z.1) = some u := by
        have := val_of hekn hkv
        rw [← show kk = Sum.inr z.1 from hkk]; exact this
      have x57 : Ex H5 H7 := x6.trans e7
      have dge : DGet H7 e (.str z.1) (some u) := by
        have := DGet.k (k := .inr z.1) (x57 _ _ (x5 _ _ he))
        rw [hu2] at this; exact this
      have hul : us.length ≤ 10 := by
        rw [heu.length]
        unfold linksR
        rw [List.length_map, List.length_take]
        have := hxo.2.1; omega
      refine ⟨wipe_set, ?_⟩
      refine ⟨_, rfl, _, rfl, _, rfl, _, rfl, t, _, rfl, dg x57, _, rfl, e, _, rfl, dge, (by show 3 ≤ sizeLine; decide), fun q hqn => ?_⟩
      have x8 : Ex H7 (upd H7 q (.tup [.int xr.1, .str z.1, u])) := Ex.new hqn
      have hq8 : (upd H7 q (.tup [.int xr.1, .str z.1, u])) q = some (.tup [.int xr.1, .str z.1, u]) := upd_same
      generalize upd H7 q (.tup [.int xr.1, .str z.1, u]) = H8 at *
      have hus8 := x8 _ _ hus
      refine ⟨us, hus8, Evl.sz_lt (by omega), Ex.mut (e7.trans x8) hD, us ++ [.ref q], upd_same, ?_⟩
      have e1 : linksR xr.1 (xr.2.take (m + 1)) = linksR xr.1 (xr.2.take m) ++ [(xr.1, z.1, z.2)] := by
        rw [List.take_add_one, hz]
        unfold linksR
        rw [List.map_append]; rfl
      rw [e1]
      have kD : ∀ c o, c ≠ D → H8 c = some o → (upd H8 D (.lst (us ++ [.ref q]))) c = some o := fun c o n h => by rw [upd_ne n]; exact h
      refine each_app (heu.mono fun v w h => (h.tups fun a xs h => x8 _ _ h).keep hus8 kD) (.cons (LkA.keep ⟨q, u, rfl, hq8, ?_⟩ hus8 kD) .nil)
      revert htg
      cases z.2 with
      | inl i => exact id
      | inr pp => exact fun ⟨q, a, n, h⟩ => ⟨q, a, n, x8 _ _ (x57 _ _ (x5 _ _ h))⟩
    · rintro H7 ⟨e7, us, hus, heu⟩
      rw [List.length_map, List.length_map, List.take_length] at heu
      have x57 : Ex H5 H7 := x6.trans e7
      have hL7 := x57 _ _ hL5
      have hul : us.length ≤ 10 := by
        rw [heu.length]
        unfold linksR
        rw [List.length_map]
        exact hxo.2.1
      refine ⟨L, D, zs, us, rfl, rfl, hL7, hus, by omega, ?_⟩
      have kL : ∀ c o, c ≠ L → H7 c = some o → (upd H7 L (.lst (zs ++ us))) c = some o := fun c o n h => by rw [upd_ne n]; exact h
      refine ⟨_, _, _, _, _, zs ++ us, rfl, fun a o n h => kL _ _ n (x57 _ _ (k5 _ _ n h)), upd_same, ?_, by rw [List.length_append]; omega⟩
      have e1 : linksOf (s.take (n + 1)) = linksOf (s.take n) ++ linksR xr.1 xr.2 := by
        unfold linksOf
        rw [List.take_add_one, hsn, List.flatMap_append]
        show _ ++ (linksR xr.1 xr.2 ++ []) = _
        rw [List.append_nil]
      rw [e1]
      exact each_app (hzs.mono fun v w h => (h.tups fun a xs h => x57 _ _ h).keep hL7 kL) (heu.mono fun v w h => h.keep hL7 kL)
  rintro σ' H5 ⟨v4, v5, v6, v7, v8, zs, rfl, k5, hL5, hzs, hzl⟩
  rw [List.length_map, List.length_map, List.take_length] at hzs
  have x5 : Ex H H5 := fun a o h => k5 _ _ (old h) (x2 _ _ (x1 _ _ h))
  have layK : ∀ {H' : Hp}, Ex H5 H' → LayA C b H' l s top := fun ex => hlay.keep fun a o _ h => ex _ _ (x5 _ _ h)
  have taK : ∀ {H' : Hp}, Ex H5 H' → TabA b H' t tabs := fun ex => hta.dt (KeepDT.of fun a o _ h => ex _ _ (x5 _ _ h))
  have hlK : ∀ {H' : Hp}, Ex H5 H' → H' l = some (.ins C dx (layFs Rr top)) := fun ex => ex _ _ (x5 _ _ hl)
  have zsK : ∀ {H' : Hp}, Ex H5 H' → EachIs (LkA b H') zs (linksOf s) := fun ex => hzs.mono fun v w h => h.tups fun a xs h => ex _ _ h
  refine ⟨_, rfl, l, dx, _, rfl, hlK (Ex.refl _), lk_tables, l, b, s, top, rfl, layK (Ex.refl _), ⟨ob, x5 _ _ hob⟩, hso.1, hso.2.2.1, fun H6 t1 e6 nt1 ht1 _ => ?_⟩
  refine ⟨_, rfl, t1, t, b, _, _, rfl, rfl, ht1, taK e6, hso.1, hso.w, hok.w, _, rfl, ?_⟩
  rw [show (!eqT s tabs) = false by rw [eqT_srt hsrt hok]; rfl]
  refine iteF ?_
  refine ⟨_, rfl, l, dx, _, rfl, hlK e6, l, b, s, top, rfl, layK e6, _, rfl, rfl, _, rfl, ?_⟩
  refine ifN (fun _ => ?_) (fun h => absurd rfl h)
  refine ⟨_, rfl, l, dx, _, rfl, hlK e6, lk_seen, l, b, s, top, rfl, layK e6, hso, hks, fun H7 p1 ys1 e7 np1 hp1 hperm1 hpw1 => ?_⟩
  have x67 := e6.trans e7
  refine ⟨_, rfl, _, rfl, t, b, tabs, top, rfl, taK x67, hok, hhead, fun H8 p2 ys2 e8 np2 hp2' hperm2 hpw2 => ?_⟩
  obtain rfl : ys2 = ys1 := ints_one (hperm2.trans ((bfs_perm hsrt hok hhead).trans hperm1.symm)) hpw2 hpw1
  have sh := shaped_lst (f := PyData.int) (l := ys2) fun a _ => lay_int a
  refine ⟨_, _, .lst (SqL.of (e8 _ _ hp1)) (dpall_map fun z => .int z), .lst (SqL.of hp2') (dpall_map fun z => .int z), sh.1, sh.1, _, rfl, ?_⟩
  rw [sh.2]
  refine iteF ?_
  have x8 := x67.trans e8
  refine ⟨_, rfl, l, dx, _, rfl, hlK x8, lk_links, l, b, s, top, rfl, layK x8, hso, fun H9 zs9 e9 hz9 p9 hp9 => ?_⟩
  have eN : Ex H9 (upd H9 p9 (.lst zs9)) := Ex.new hp9
  have x9 := x8.trans (e9.trans eN)
  have hz10 : EachIs (LkA b (upd H9 p9 (.lst zs9))) zs9 (linksOf s) := hz9.mono fun v w h => h.tups fun a xs h => eN _ _ h
  have sl := shaped_lst (f := lkP) (l := linksOf s) (lay_links hso)
  refine ⟨_, rfl, _, _, .lst (SqL.of upd_same) (dpall_of (f := lkP) (fun _ _ => lk_dp) hz10), .lst (SqL.of (x9 _ _ hL5)) (dpall_of (f := lkP) (fun _ _ => lk_dp) (zsK x9)), sl.1, sl.1, _, rfl, ?_⟩
  rw [sl.2]
  refine iteF ?_
  generalize upd H9 p9 (.lst zs9) = HA at *
  refine ⟨_, rfl, l, dx, _, rfl, hlK x9, l, b, s, top, rfl, layK x9, s.length, rfl, by omega, ?_⟩
  refine ⟨_, rfl, t, kvs, rfl, x9 _ _ (x5 _ _ ht), rfl, _, rfl, ?_⟩
  rw [hkl, hsl]
  refine ifN (fun _ => ?_) (fun h => absurd rfl h)
  have hkn : kvs.length = s.length := by rw [hkl, hsl]
  have hzn : zs.length = cntS s := by rw [hzs.length, links_len]
  have h6s : s.length ≤ 6 := by omega
  have hc := cnt_le hso
  have htA := x9 _ _ (x5 _ _ ht)
  have hLA := x9 _ _ hL5
  have l1 := num_len (n := s.length) (by omega)
  have l2 := num_len (n := cntS s) (by omega)
  have a1 : (" joints, " : Str).length = 9 := by decide +kernel
  have a2 : (" links)" : Str).length = 7 := by decide +kernel
  have a4 : ("Layout(" : Str).length = 7 := by decide +kernel
  have a6 : (1000000 : Nat) ≤ sizeLine := by decide
  refine ⟨_, rfl, t, kvs, rfl, htA, _, rfl, log_len (by omega), ?_⟩
  rw [hkn]
  refine ⟨_, _, rfl, rfl, (by show ("Layout(" : Str).length + (numT s.length).length ≤ sizeLine; omega), ?_⟩
  refine ⟨_, _, rfl, rfl, (by show ("Layout(" ++ numT s.length : Str).length + (" joints, " : Str).length ≤ sizeLine; rw [len_app]; omega), ?_⟩
  refine ⟨_, rfl, L, zs, rfl, Or.inl (SqL.of hLA), _, rfl, log_len (by omega), ?_⟩
  rw [hzn]
  refine ⟨_, _, rfl, rfl, (by show ("Layout(" ++ numT s.length ++ " joints, " : Str).length + (numT (cntS s)).length ≤ sizeLine; rw [len_app, len_app]; omega), ?_⟩
  refine ⟨_, _, rfl, rfl, (by show ("Layout(" ++ numT s.length ++ " joints, " ++ numT (cntS s) : Str).length + (" links)" : Str).length ≤ sizeLine; rw [len_app, len_app, len_app]; omega), ?_⟩
  have ew : reprS s = "Layout(" ++ numT s.length ++ " joints, " ++ numT (cntS s) ++ " links)" := by
    unfold reprS; rw [Str.empty_append]
  show tSeq _ _ _ [_, _, _, _, _, _, _, some (V.str ("Layout(" ++ numT s.length ++ " joints, " ++ numT (cntS s) ++ " links)")), _] HA
  rw [← ew]
  refine ⟨10, rfl, by decide, by decide, fun D hD => ?_⟩
  refine lc_it walk_range (fun m H' => Ex HA H' ∧ H' D = some (.lst (((List.range m).map fun i : Nat => decide ((i : Int) ∈ s.map (·.1))).map V.bl))) ⟨Ex.new hD, upd_same⟩ (fun _ _ _ _ => trivial) ?_ ?_
  · rintro m x H7' H7 hm ⟨e7, hd7⟩ ⟨rfl, rfl⟩
    have hm10 : m < 10 := hm
    refine ⟨wipe_set, ?_⟩
    refine ⟨_, rfl, _, rfl, l, dx, _, rfl, hlK (x9.trans e7), l, b, s, top, _, rfl, layK (x9.trans e7), Or.inl ⟨_, rfl, fun H8 e8 => ⟨_, rfl, ?_⟩⟩⟩
    refine ⟨_, e8 _ _ hd7, Evl.sz_lt (by rw [List.length_map, List.length_map, List.length_range]; omega), Ex.mut (e7.trans e8) hD, ?_⟩
    rw [upd_same, List.range_succ, List.map_append, List.map_append]
    have e1 : (decide (0 ≤ (0 : Int) + (m : Int)) && decide ((0 : Int) + (m : Int) ∈ s.map (·.1))) = decide ((m : Int) ∈ s.map (·.1)) := by
      rw [Int.zero_add, decide_eq_true (Int.natCast_nonneg m), Bool.true_and]
    rw [if_neg Bool.false_ne_true, e1]; rfl
  rintro HB ⟨eB, hdB⟩
  have xB := x9.trans eB
  refine ⟨_, rfl, l, dx, _, rfl, hlK xB, l, b, s, top, rfl, layK xB, hso, fun HC eC => ⟨_, rfl, ?_⟩⟩
  refine ⟨_, rfl, rfl, _, rfl, ?_⟩
  rw [show decide (V.str (reprS s) = V.str (reprS s)) = true from decide_eq_true rfl]
  refine iteT ?_
  have xC := xB.trans eC
  have hdC := eC _ _ hdB
  refine ⟨_, rfl, 10, rfl, by decide, by decide, fun D2 hD2 => ?_⟩
  refine lc_it walk_range (fun m H' => Ex HC H' ∧ H' D2 = some (.lst (((List.range m).map fun i : Nat => decide ((i : Int) ∈ s.map (·.1))).map V.bl))) ⟨Ex.new hD2, upd_same⟩ (fun _ _ _ _ => trivial) ?_ ?_
  · rintro m x H7' H7 hm ⟨e7, hd7⟩ ⟨rfl, rfl⟩
    have hm10 : m < 10 := hm
    refine ⟨wipe_set, ?_⟩
    refine ⟨_, rfl, _, rfl, t, _, rfl, DGet.k (k := .inl (0 + (m : Int))) (e7 _ _ (xC _ _ (x5 _ _ ht))), ?_⟩
    refine ⟨_, hd7, Evl.sz_lt (by rw [List.length_map, List.length_map, List.length_range]; omega), Ex.mut e7 hD2, ?_⟩
    rw [upd_same, List.range_succ, List.map_append, List.map_append, keys_has hkeys, Int.zero_add]
    have e1 : decide ((m : Int) ∈ tabs.map (·.1)) = decide ((m : Int) ∈ s.map (·.1)) := by
      rw [Bool.eq_iff_iff, decide_eq_true_eq, decide_eq_true_eq]
      exact hsrt.1.symm.mem_iff
    rw [e1]; rfl
  rintro HD ⟨eD, hdD⟩
  have sb := shaped_lst (f := PyData.bool) (l := (List.range (Int.toNat 10)).map fun i : Nat => decide ((i : Int) ∈ s.map (·.1))) fun a _ => lay_bool a
  refine ⟨_, _, .lst (SqL.of (eD _ _ hdC)) (dpall_map fun z => .bl z), .lst (SqL.of hdD) (dpall_map fun z => .bl z), sb.1, sb.1, ?_⟩
  rw [sb.2]
  exact hq HD (x5.trans (xC.trans eD))
end
end KC

set_option Elab.async false
set_option linter.all false
set_option maxRecDepth 100000
set_option maxHeartbeats 8000000
namespace KC
open PySem PySem.Spec PyProof.Rows L2 LF
open Evl (Ev EvL EvU EvT EvA Ex sq_of st_of)
open PySem.W (EachIs)
theorem none_mem {kvs : List (Key × V)} {k : Key} {u : V} (h : valV kvs k = none) : (k, u) ∉ kvs := fun hm => by
  unfold valV at h
  rw [Option.map_eq_none_iff, List.find?_eq_none] at h
  exact h _ hm (by simp)
theorem merge_app : ∀ {kvs acc : List (Key × V)}, (kvs.map (·.1)).Nodup → (∀ kv ∈ kvs, valV acc kv.1 = none) → mergeK acc kvs = acc ++ kvs
  | [], acc, _, _ => by rw [List.append_nil]; rfl
  | p :: r, acc, h, hn => by
    rw [List.map_cons, List.nodup_cons] at h
    rw [merge_cons, putK_new _ (hn p List.mem_cons_self), merge_app h.2 fun kv hkv => ?_, List.append_assoc]
    · rfl
    · cases hv : valV (acc ++ [(p.1, p.2)]) kv.1 with
      | none => rfl
      | some u =>
        have hm := val_mem hv
        rcases List.mem_append.mp hm with hm | hm
        · have h1 := hn kv (List.mem_cons_of_mem _ hkv)
          exact absurd hm (none_mem h1)
        · have e0 := List.mem_singleton.mp hm
          have e : kv.1 = p.1 := by injection e0
          exact absurd (List.mem_map.mpr ⟨kv, hkv, e⟩) h.1
/-! heaps that change -/
theorem each_monoM {α β : Type} {R S : α → β → Prop} : ∀ {xs : List α} {bs : List β}, EachIs R xs bs → (∀ a ∈ xs, ∀ b ∈ bs, R a b → S a b) → EachIs S xs bs
  | _, _, .nil, _ => .nil
  | _, _, .cons r t, h => .cons (h _ List.mem_cons_self _ List.mem_cons_self r) (each_monoM t fun a ha b hb => h a (List.mem_cons_of_mem _ ha) b (List.mem_cons_of_mem _ hb))
theorem each_mapR {α β γ : Type} {R : α → β → Prop} {S : α → γ → Prop} {g : β → γ} : ∀ {xs : List α} {bs : List β}, EachIs R xs bs → (∀ a ∈ xs, ∀ b ∈ bs, R a b → S a (g b)) → EachIs S xs (bs.map g)
  | _, _, .nil, _ => .nil
  | _, _, .cons r t, h => .cons (h _ List.mem_cons_self _ List.mem_cons_self r) (each_mapR t fun a ha b hb => h a (List.mem_cons_of_mem _ ha) b (List.mem_cons_of_mem _ hb))
theorem nodup_inj {α β : Type} {f : α → β} : ∀ {l : List α}, (l.map f).Nodup → ∀ p ∈ l, ∀ q ∈ l, f p = f q → p = q
  | [], _, p, hp, _, _, _ => nomatch hp
  | a :: l, h, p, hp, q, hq, e => by
    rw [List.map_cons, List.nodup_cons] at h
    rcases List.mem_cons.mp hp with e1 | hp'
    · rcases List.mem_cons.mp hq with e2 | hq'
      · rw [e1, e2]
      · exact absurd (List.mem_map.mpr ⟨q, hq', by rw [← e, e1]⟩) h.1
    · rcases List.mem_cons.mp hq with e2 | hq'
      · exact absurd (List.mem_map.mpr ⟨p, hp', by rw [e, e2]⟩) h.1
      · exact nodup_inj h.2 p hp' q hq' e
theorem TgA.tups {b : Addr} {H H' : Hp} {v : V} {x : Tg} (h : TgA b H v x) (k : ∀ a xs, H a = some (.tup xs) → H' a = some (.tup xs)) : TgA b H' v x := by
  cases x with
  | inl i => exact h
  | inr p =>
    obtain ⟨q, e, n, h⟩ := h
    exact ⟨q, e, n, k _ _ h⟩
theorem RowA.change {b e : Addr} {H H' : Hp} {r : Row} (h : RowA b H e r) (he : ∀ o, H e = some o → H' e = some o) (k : ∀ a xs, H a = some (.tup xs) → H' a = some (.tup xs)) : RowA b H' e r := by
  obtain ⟨kvs, n, h1, h2⟩ := h
  exact ⟨kvs, n, he _ h1, h2.mono fun kv x ⟨e, t⟩ => ⟨e, t.tups k⟩⟩
theorem TabA.change {b t : Addr} {H H' : Hp} {tabs : Tabs} (h : TabA b H t tabs) (ht : ∀ o, H t = some o → H' t = some o) (hr : ∀ kvs, H t = some (.dK kvs) → ∀ kv ∈ kvs, ∀ a, kv.2 = .ref a → ∀ o, H a = some o → H' a = some o) (k : ∀ a xs, H a = some (.tup xs) → H' a = some (.tup xs)) : TabA b H' t tabs := by
  obtain ⟨kvs, n, h1, h2, h3⟩ := h
  exact ⟨kvs, n, ht _ h1, each_monoM h2 fun kv hkv x _ ⟨e, a, h4, h5, h6⟩ => ⟨e, a, h4, h5, h6.change (hr kvs h1 kv hkv a h4) k⟩, h3⟩
/-! a name put in -/
def newG (top : Int) (x : Int × Row) : Int × Row := if x.1 = top then (x.1, x.2 ++ [(("new" : Str), (Sum.inl top : Tg))]) else x
theorem newG_1 (top : Int) (x : Int × Row) : (newG top x).1 = x.1 := by unfold newG; split <;> rfl
theorem newG_pos {top : Int} {x : Int × Row} (h : x.1 = top) : newG top x = (x.1, x.2 ++ [(("new" : Str), (Sum.inl top : Tg))]) := if_pos h
theorem newG_neg {top : Int} {x : Int × Row} (h : ¬ x.1 = top) : newG top x = x := if_neg h
def putNew (top : Int) (t : Tabs) : Tabs := t.map (newG top)
theorem putNew_keys (top : Int) (t : Tabs) : (putNew top t).map (·.1) = t.map (·.1) := by
  unfold putNew
  rw [List.map_map]
  exact List.map_congr_left fun x _ => newG_1 top x
theorem putNew_ok {top : Int} {t : Tabs} (h : TabOk t) (hf : ∀ x ∈ t, x.2.length ≤ 9 ∧ ∀ y ∈ x.2, ¬ y.1 = "new") (ht : top ∈ t.map (·.1)) : TabOk (putNew top t) := by
  have hlen : (putNew top t).length = t.length := by unfold putNew; rw [List.length_map]
  refine ⟨by rw [putNew_keys]; exact h.1, by rw [hlen]; exact h.2.1, by rw [hlen]; exact h.2.2.1, fun x hx => ?_⟩
  obtain ⟨z, hz, rfl⟩ := List.mem_map.mp (show x ∈ t.map (newG top) from hx)
  have ho := h.2.2.2 z hz
  rw [putNew_keys]
  by_cases hzt : z.1 = top
  · rw [newG_pos hzt]
    obtain ⟨f1, f2⟩ := hf z hz
    refine ⟨ho.1, ?_, by show (z.2 ++ [(("new" : Str), (Sum.inl top : Tg))]).length ≤ 10; rw [List.length_append]; simp only [List.length_cons, List.length_nil]; omega, fun y hy => ?_⟩
    · show ((z.2 ++ [(("new" : Str), (Sum.inl top : Tg))]).map (·.1)).Nodup
      rw [List.map_append, List.nodup_append]
      refine ⟨ho.2.1, by simp, fun a ha b' hb' => ?_⟩
      obtain ⟨y, hy, rfl⟩ := List.mem_map.mp ha
      rw [List.map_cons, List.map_nil, List.mem_singleton] at hb'
      rw [hb']
      exact f2 y hy
    · rcases List.mem_append.mp (show y ∈ z.2 ++ [(("new" : Str), (Sum.inl top : Tg))] from hy) with hy | hy
      · exact ho.2.2.2 y hy
      · rw [List.mem_singleton.mp hy]
        exact ⟨show isNm "new" = true by decide +kernel, ht⟩
  · rw [newG_neg hzt]; exact ho
theorem TabA.new {b t e : Addr} {H H' : Hp} {top : Int} {tabs : Tabs} {kvs ekvs : List (Key × V)} (h : TabA b H t tabs) (ho : TabOk tabs) (hf : ∀ x ∈ tabs, x.2.length ≤ 9 ∧ ∀ y ∈ x.2, ¬ y.1 = "new") (hk : H t = some (.dK kvs)) (hv : valV kvs (.inl top) = some (.ref e)) (he : H e = some (.dK ekvs))
    (hk' : H' t = some (.dK kvs)) (he' : H' e = some (.dK (putK ekvs (.inr "new") (.int top)))) (kr : ∀ a kv, a ≠ e → H a = some (.dK kv) → V.ref a ∈ kvs.map (·.2) → H' a = some (.dK kv)) (k : ∀ a xs, H a = some (.tup xs) → H' a = some (.tup xs)) : TabA b H' t (putNew top tabs) := by
  obtain ⟨kvs', n, h1, h2, h3⟩ := h
  rw [hk] at h1
  cases h1
  have hkeys : kvs.map (·.1) = (tabs.map (·.1)).map Sum.inl := by
    rw [List.map_map]
    exact each_map (fun a c h => h.1) h2
  have hkn : (kvs.map (·.1)).Nodup := by rw [hkeys]; exact nodup_map_inl ho.1
  have hem := val_mem hv
  refine ⟨kvs, n, hk', each_mapR h2 fun kv hkv x hx ⟨e1, a, h4, h5, h6⟩ => ?_, h3⟩
  by_cases hxt : x.1 = top
  · rw [newG_pos hxt]
    have : kv.2 = V.ref e := by
      have := val_of hkn hkv
      rw [e1, hxt, hv] at this
      exact (Option.some.inj this).symm
    have ea : a = e := V.ref.inj (h4.symm.trans this)
    subst ea
    obtain ⟨rk, n2, g1, g2⟩ := h6
    rw [he] at g1
    cases g1
    have hnew : valV ekvs (.inr "new") = none := by
      cases hv' : valV ekvs (.inr "new") with
      | none => rfl
      | some u =>
        obtain ⟨y, hy, ey, _⟩ := each_mem g2 _ (val_mem hv')
        exact absurd (Sum.inr.inj ey).symm ((hf x hx).2 y hy)
    refine ⟨e1, a, h4, h5, putK ekvs (.inr "new") (.int top), n2, he', ?_⟩
    rw [putK_new _ hnew]
    exact each_app (g2.mono fun kv y ⟨q1, q2⟩ => ⟨q1, q2.tups k⟩) (.cons ⟨rfl, rfl⟩ .nil)
  · rw [newG_neg hxt]
    have nae : a ≠ e := fun z => by
      subst z
      have := nodup_inj h3 kv hkv _ hem (by rw [h4])
      rw [this] at e1
      exact hxt (Sum.inl.inj e1).symm
    refine ⟨e1, a, h4, h5, h6.change (fun o h => ?_) k⟩
    obtain ⟨rk, _, g1, _⟩ := h6
    rw [g1] at h
    cases h
    exact kr a rk nae g1 (List.mem_map.mpr ⟨kv, hkv, h4⟩)
theorem eqT_new {top : Int} {tabs s s2 : Tabs} (h : SrtT tabs s) (h2 : SrtT (putNew top tabs) s2) (ho : TabOk tabs) (ho2 : TabOk (putNew top tabs)) (ht : top ∈ tabs.map (·.1)) : eqT s2 s = false := by
  have hs := srt_ok h ho
  have hs2 := srt_ok h2 ho2
  obtain ⟨x, hx, ex⟩ := List.mem_map.mp (h.1.mem_iff.mpr ht)
  obtain ⟨x2, hx2, ex2⟩ := List.mem_map.mp (h2.1.mem_iff.mpr (by rw [putNew_keys]; exact ht))
  obtain ⟨y, hy, ey, hr⟩ := h.2.2 x hx
  obtain ⟨y2, hy2, ey2, hr2⟩ := h2.2.2 x2 hx2
  obtain ⟨z, hz, ez⟩ := List.mem_map.mp (show y2 ∈ tabs.map (newG top) from hy2)
  have hz1 : z.1 = top := by
    rw [← newG_1 top z, ez, ey2]; exact ex2
  rw [newG_pos hz1] at ez
  have hyz : y.2 = z.2 := by
    have h1 := rowOf_mem ho.1 hy
    have h2 := rowOf_mem ho.1 hz
    rw [ey, ex, ← hz1, h2] at h1
    exact h1.symm
  have l1 : x2.2.length = z.2.length + 1 := by
    rw [hr2.1.length_eq, ← ez, List.length_append]; rfl
  have l2 : x.2.length = z.2.length := by rw [hr.1.length_eq, hyz]
  cases he : eqT s2 s with
  | false => rfl
  | true =>
    unfold eqT at he
    obtain ⟨_, he⟩ := Bool.and_eq_true_iff.mp he
    rw [List.all_eq_true] at he
    have he := he x2 hx2
    have e3 : x2.1 = x.1 := ex2.trans ex.symm
    rw [lookT_mem hs2.1 hx2, e3, lookT_mem hs.1 hx] at he
    simp only [Option.isSome_some, Option.getD_some, Bool.true_and] at he
    unfold eqR at he
    obtain ⟨he, _⟩ := Bool.and_eq_true_iff.mp he
    rw [beq_iff_eq] at he
    omega
/-! things that are in no layout -/
def OddAt (K : PySem.W.Frag) (s : Tabs) (H : Hp) (x : V) : Prop := (∃ d, Dq H x d ∧ intD d = false) ∨ (∃ i : Int, x = .int i ∧ (decide (0 ≤ i) && decide (i ∈ s.map (·.1))) = false) ∨ ∃ t, TyX K H x t ∧ PySem.W.kitOne K t (.type "int") = some false
theorem OddAt.ex {K : PySem.W.Frag} {s : Tabs} {H H' : Hp} {x : V} (h : OddAt K s H x) (e : Ex H H') : OddAt K s H' x := by
  rcases h with ⟨d, h1, h2⟩ | ⟨i, h1, h2⟩ | ⟨t, h1, h2⟩
  · exact Or.inl ⟨d, Dq.same e _ _ h1, h2⟩
  · exact Or.inr (Or.inl ⟨i, h1, h2⟩)
  · exact Or.inr (Or.inr ⟨t, TyX.same h1 e, h2⟩)
theorem OddAt.sp {K : PySem.W.Frag} {C l b : Addr} {s : Tabs} {top : Int} {H : Hp} {x : V} {Q : VK} {E : XK} (h : OddAt K s H x) (hl : LayA C b H l s top) (q : ∀ H', Ex H H' → Q (.bl false) H') : spCont K C [.ref l, x] H Q E := by
  refine ⟨l, b, s, top, x, rfl, hl, ?_⟩
  rcases h with ⟨d, h1, h2⟩ | ⟨i, h1, h2⟩ | ⟨t, h1, h2⟩
  · exact Or.inr (Or.inl ⟨d, h1, h2, q⟩)
  · exact Or.inl ⟨i, h1, fun H' e => by rw [h2]; exact q H' e⟩
  · exact Or.inr (Or.inr ⟨t, h1, h2, q H (Ex.refl H)⟩)
end KC

set_option Elab.async false
set_option linter.all false
set_option maxRecDepth 100000
set_option maxHeartbeats 32000000
namespace KC
open PySem PySem.Spec PyProof.Rows L2 LF
open Evl (Ev EvL EvU EvT EvA Ex sq_of st_of)
open PySem.W (EachIs)
/-- all but dicts stays -/
def KeepND (H H' : Hp) : Prop := ∀ a o, H a = some o → (∀ kvs, o ≠ .dK kvs) → H' a = some o
def spRight : Sp := fun vs H Q _ => ∃ (bg : V) (t b : Addr) (tabs : Tabs) (top : Int), vs = [bg, .ref t, .int top] ∧ TabA b H t tabs ∧ TabOk tabs ∧ (∀ x ∈ tabs, x.2.length ≤ 9 ∧ ∀ y ∈ x.2, ¬ y.1 = "new") ∧ top ∈ tabs.map (·.1) ∧ (∃ o, H b = some o) ∧ ∀ H', KeepND H H' → Q (.bl true) H'
abbrev s__law_right : Stmt := topS 29
abbrev N__law_right : List Str := ["_law_bag_here", "_law_tables", "_law_head", "_law_kept", "_law_joint", "_law_layout", "_law_thing", "_law_mine", "_law_told", "_law_seen_here", "_law_yours", "_law_others"]
theorem sc__law_right : FnScope ["_law_bag_here", "_law_tables", "_law_head", "_law_kept", "_law_joint", "_law_layout", "_law_thing", "_law_mine", "_law_told", "_law_seen_here", "_law_yours", "_law_others"] ["_law_bag_here", "_law_tables", "_law_head"] (defScope s__law_right) := ⟨rfl, rfl, rfl, by decide +kernel, rfl, by decide +kernel, by decide +kernel⟩
theorem paired_map {α β γ : Type} {F : α → β → Prop} {f : γ → α} {g : γ → β} : ∀ {l : List γ}, (∀ c ∈ l, F (f c) (g c)) → Paired F (l.map f) (l.map g)
  | [], _ => .nil
  | c :: l, h => .cons (h c List.mem_cons_self) (paired_map fun d hd => h d (List.mem_cons_of_mem _ hd))
theorem any_rep : ∀ n : Nat, (List.replicate n false).any id = false
  | 0 => rfl
  | n + 1 => by rw [List.replicate_succ, List.any_cons, any_rep n]; rfl
section
variable {P : Program} {w : World} {K : PySem.W.Frag} {mg : Str → Option Value} {base : Heap} {tk1 tk2 : Tok}
theorem ok_right {f f1 C fT pT fB fE fI fS fG fN fL fR : Addr} {fd fd1 fdT fdB fdE fdI fdS fdG fdN fdL fdR : FuncData} (F : Fun K "_law_right" "_law_right" s__law_right f fd) (T : Txt K mg tk1 tk2)
    (d_asked : DefAt P w K mg base "_law_asked_right" 6 f1 fd1 ["_law_layout", "_law_tables", "_law_head"] (spAsk C)) (G : LayAll P w K mg base C fT pT fB fE fI fS fG fN fL fR fdT fdB fdE fdI fdS fdG fdN fdL fdR) :
    FnOk P w K mg base CX0 8 f fd ["_law_bag_here", "_law_tables", "_law_head"] spRight := by
  obtain ⟨gk, kbn⟩ := G.kb
  refine F.ok sc__law_right (fun vs H Q E h => ?_) (fun cdv A outer st H vs Q E hr h => ?_)
  · obtain ⟨bg, t, b, tabs, top, rfl, _⟩ := h
    rfl
  have hu := hr.units
  have hu1 := hu_of hr
  refine ⟨_, (pss_cons (ps_set (i := 3) sc__law_right.nd rfl (Or.inr rfl) (pe_callTy (call_dictP rfl) (by rfl) T.n_dict (by decide +kernel) (pa_cons (pe_lock (pe_lc (own := [("_law_joint", 4)]) (te := tTup (tCons (tVar 4) (tCons (tCB (fun xs H Q => ∃ (a : Addr) (kvs : List (Key × V)), xs = [.ref a] ∧ Rd H a (.dK kvs) ∧ ∀ p, H p = none → Q (.ref p) (upd H p (.dK kvs))) (tCons (tDGet (tVar 1) (tVar 4)) tNil)) tNil))) rfl sc__law_right.nd (pi_keys (pv 1)) (blkOk_by (N := N__law_right) (sc := defScope s__law_right) (by decide +kernel)) (fun _ _ _ _ _ => pg_name (i := 4) sc__law_right.nd rfl (Or.inl rfl)) (fun _ _ _ _ _ => pts_nil) (fun _ _ _ _ _ => (pe_tup (pa_cons (pv 4) (pa_cons (pe_callTy call_dictD (by rfl) T.n_dict (by decide +kernel) (pa_cons (pe_dget hu1 (pv 1) (pv 4) (fun _ _ => rfl)) pa_nil)) pa_nil)))))) pa_nil)))
    (pss_cons (ps_set (i := 5) sc__law_right.nd rfl (Or.inr rfl) (pe_makeK G.mkr G.FI (hr.mono (by decide)) rfl G.R.gC kbn pass0 (pa_cons (pv 1) pa_nil) (pk_cons (pv 2) pk_nil)))
    (pss_cons (ps_if (pt_not (pt_val (pe_callD d_asked (hr.mono (by decide)) (pa_cons (pv 5) (pa_cons (pv 3) (pa_cons (pv 2) pa_nil)))))) (pss_one (ps_ret pe_bl)) pss_nil)
    (pss_cons (ps_if (pt_val (pe_callB (cr_any rfl) (by rfl) T.n_any (by decide +kernel) (pa_cons (pe_lc (own := [("_law_thing", 6)]) rfl sc__law_right.nd (pi_list (pe_lst (pa_cons pe_non (pa_cons pe_bl (pa_cons pe_bl (pa_cons pe_str (pa_cons (pe_un un_neg pe_int) (pa_cons (pe_tup (pa_cons pe_int pa_nil)) (pa_cons (pe_lst (pa_cons pe_int pa_nil)) (pa_cons (pe_op op_pow pe_int pe_int) (pa_cons (pv 5) (pa_cons (pe_disp (pps_cons pe_str pe_int pps_nil) rfl rfl (by simp) (by decide)) pa_nil)))))))))))) (blkOk_by (N := N__law_right) (sc := defScope s__law_right) (by decide +kernel)) (fun _ _ _ _ _ => pg_name (i := 6) sc__law_right.nd rfl (Or.inl rfl)) (fun _ _ _ _ _ => pts_nil) (fun _ _ _ _ _ => (pe_cmpR (show OpR _ (compareOp .In) (rInO false C (spCont K C)) from op_inO G.FN (hr.mono (by decide)) G.bN G.sN G.iN) (pv 6) (pv 5) (by rfl)))) pa_nil))) (pss_one (ps_ret pe_bl)) pss_nil)
    (pss_cons (ps_par3 (i := 7) (j := 8) (l := 9) (by rfl) sc__law_right.nd rfl rfl rfl (by decide) (by decide) (by decide) rfl rfl rfl (pa_cons (pe_dget hu1 (pv 1) (pv 2) (fun _ _ => rfl)) (pa_cons (pe_meth0 (pv 5) G.R.cl G.mB G.FB (hr.mono (by decide)) G.bB .nil pass0) (pa_cons (pe_meth0 (pv 5) G.R.cl G.mS G.FS (hr.mono (by decide)) G.bS .nil pass0) pa_nil))) (by rfl))
    (pss_cons (ps_set (i := 10) sc__law_right.nd rfl (Or.inl rfl) (pe_dget hu1 (pv 8) (pv 2) (fun _ _ => rfl)))
    (pss_cons (ps_expr (pe_bm PySem.F.plainAttrs_list PySem.F.slot_list_append PySem.F.type_list_append mt_append (pv 9) (pa_cons pe_int pa_nil)))
    (pss_cons (ps_asg (pe_tup (pa_cons (pv 2) (pa_cons (pv 2) pa_nil))) (pg_tup (by rfl) (pgs_cons (pg_sub (pv 7) pe_str (set_dict hu1)) (pgs_cons (pg_sub (pv 10) pe_str (set_dict hu1)) pgs_nil))))
    (pss_cons (ps_expr (pe_dclear (pv 8)))
    (pss_cons (ps_if (pt_not (pt_val (pe_callD d_asked (hr.mono (by decide)) (pa_cons (pv 5) (pa_cons (pv 3) (pa_cons (pv 2) pa_nil)))))) (pss_one (ps_ret pe_bl)) pss_nil)
    (pss_cons (ps_if (pt_cmpR op_notBl (pe_cmpR (op_eqO G.FE (hr.mono (by decide)) G.bE G.sE G.iE) (pe_makeK G.mkr G.FI (hr.mono (by decide)) rfl G.R.gC kbn pass0 (pa_cons (pe_meth0 (pv 5) G.R.cl G.mB G.FB (hr.mono (by decide)) G.bB .nil pass0) pa_nil) (pk_cons (pv 2) pk_nil)) (pv 5) (nomark _)) pe_bl (nomark _)) (pss_one (ps_ret pe_bl)) pss_nil)
    (pss_cons (ps_if (pt_cmpR op_notBl (pe_cmpR (op_eqO G.FE (hr.mono (by decide)) G.bE G.sE G.iE) (pe_makeK G.mkr G.FI (hr.mono (by decide)) rfl G.R.gC kbn pass0 (pa_cons (pv 1) pa_nil) (pk_cons (pv 2) pk_nil)) (pv 5) (nomark _)) pe_bl (nomark _)) (pss_one (ps_ret pe_bl)) pss_nil)
    (pss_cons (ps_setLc (i := 11) (own := [("_law_joint", 4)]) rfl sc__law_right.nd rfl rfl (sw_true rfl rfl rfl (by decide +kernel)) (pi_list (pe_callB (call_sortedDI rfl) (by rfl) T.n_sorted (by decide +kernel) (pa_cons (pv 3) pa_nil))) (blkOk_by (N := N__law_right) (sc := defScope s__law_right) (by decide +kernel)) (fun _ _ _ _ _ => pg_name (i := 4) sc__law_right.nd rfl (Or.inl rfl)) (fun _ _ _ _ _ => pts_nil) (fun _ _ _ _ _ => (pe_cmpR (show OpR _ (compareOp .Eq) (rCmpO false C (fun vs H Q E => spEq C vs H Q E ∨ spEqX K C vs H Q E)) from op_eqO G.FE (hr.mono (by decide)) G.bE G.sE G.iE) (pe_makeK G.mkr G.FI (hr.mono (by decide)) rfl G.R.gC kbn pass0 (pa_cons (pv 3) pa_nil) (pk_cons (pv 4) pk_nil)) (pv 5) (nomark _))))
    (pss_cons (ps_if (pt_cmpR (op_neD hu) (pv 11) (pe_lc (own := [("_law_joint", 4)]) rfl sc__law_right.nd (pi_list (pe_callB (call_sortedDI rfl) (by rfl) T.n_sorted (by decide +kernel) (pa_cons (pv 3) pa_nil))) (blkOk_by (N := N__law_right) (sc := defScope s__law_right) (by decide +kernel)) (fun _ _ _ _ _ => pg_name (i := 4) sc__law_right.nd rfl (Or.inl rfl)) (fun _ _ _ _ _ => pts_nil) (fun _ _ _ _ _ => (pe_cmpR op_eq (pv 4) (pv 2) (nomark _)))) (nomark _)) (pss_one (ps_ret pe_bl)) pss_nil)
    (pss_one (ps_ret (pe_and (pe_cmpR op_isBl (pe_cmpR (op_eqDc G.FE (hr.mono (by decide)) G.bE G.sE G.iE G.nD) (pv 5) (pv 3) (nomark _)) pe_bl (nomark _)) (pe_one (pe_cmpR op_isBl (pe_cmpR (op_eqSt G.FE (hr.mono (by decide)) G.bE G.sE G.iE G.nS) (pv 5) pe_str (nomark _)) pe_bl (nomark _)))))))))))))))))))), ?_⟩
  obtain ⟨bg, t, b, tabs, top, rfl, hta, hok, hfew, htop, ⟨ob, hob⟩, hq⟩ := h
  have hbig : (1000000 : Nat) ≤ sizeLine := by decide
  have h6 := hok.2.2.1
  have hta0 := hta
  obtain ⟨kvs, ntb, ht, heach, hvn⟩ := hta0
  have hkeys : kvs.map (·.1) = (tabs.map (·.1)).map Sum.inl := by
    rw [List.map_map]
    exact each_map (fun a c h => h.1) heach
  have hkn : (kvs.map (·.1)).Nodup := by rw [hkeys]; exact nodup_map_inl hok.1
  -- what is kept
  refine ⟨t, .dK kvs, ht, trivial, fun od => ?_⟩
  have htL : (upd H t (.frz od (.dK kvs))) t = some (.frz od (.dK kvs)) := upd_same
  have oldL : ∀ a o, a ≠ t → H a = some o → (upd H t (.frz od (.dK kvs))) a = some o := fun a o n h => by rw [upd_ne n]; exact h
  have unl : ∀ {H'}, Ex (upd H t (.frz od (.dK kvs))) H' → Ex H (upd H' t (.dK kvs)) := fun e => ex_unlock ht e
  generalize upd H t (.frz od (.dK kvs)) = L at *
  have tupL : ∀ a xs, H a = some (.tup xs) → L a = some (.tup xs) := fun a xs h => oldL _ _ (fun z => by rw [z, ht] at h; cases h) h
  refine ⟨_, rfl, t, od, rfl, Or.inl ⟨kvs, htL, fun D hD => ?_⟩⟩
  have nDt : D ≠ t := fun z => by rw [z, htL] at hD; cases hD
  have hbL : L b = some ob := oldL _ _ ntb.symm hob
  have nDb : D ≠ b := fun z => by rw [z, hbL] at hD; cases hD
  refine lc_it walk_keys (fun n H' => Ex L H' ∧ ∃ M : List (Addr × Int × Addr × Row), H' D = some (.lst ((M.map (·.1)).map V.ref)) ∧ M.map (fun m => (m.2.1, m.2.2.2)) = tabs.take n ∧ (M.map (·.2.2.1)).Nodup ∧ ∀ m ∈ M, H' m.1 = some (.tup [.int m.2.1, .ref m.2.2.1]) ∧ RowA b H' m.2.2.1 m.2.2.2 ∧ H m.2.2.1 = none)
    ⟨Ex.new hD, [], upd_same, rfl, .nil, fun _ h => nomatch h⟩ (fun n H' _ h => h.1 _ _ htL) ?_ ?_
  · rintro n x H3' H3 hn ⟨e3, M, hd, hM, hMn, hMr⟩ ⟨rfl, kk, vv, hkv, rfl⟩
    obtain ⟨y, hyn, hk1, e, hve, net, ekvs, neb, he, hrow⟩ := each_get heach hkv
    cases (show kk = Sum.inl y.1 from hk1)
    have hve' : vv = .ref e := hve
    subst hve'
    have hv : valV kvs (.inl y.1) = some (.ref e) := val_of hkn (List.mem_of_getElem? hkv)
    have dg : DGet H3 t (kV (.inl y.1)) (valV kvs (.inl y.1)) := Or.inl ⟨kvs, .inl y.1, Or.inr ⟨od, e3 _ _ htL⟩, rfl, rfl⟩
    rw [hv] at dg
    have he3 := e3 _ _ (oldL _ _ net he)
    refine ⟨wipe_set, ?_⟩
    refine ⟨_, rfl, _, rfl, _, rfl, t, _, rfl, dg, e, ekvs, rfl, Rd.of he3, fun p hp => ?_⟩
    have npb : p ≠ b := fun z => by rw [z, e3 _ _ hbL] at hp; cases hp
    have hpH : H p = none := by
      cases hh : H p with
      | none => rfl
      | some o =>
        have npt : p ≠ t := fun z => by rw [z, e3 _ _ htL] at hp; cases hp
        rw [e3 _ _ (oldL _ _ npt hh)] at hp; cases hp
    have x4 : Ex H3 (upd H3 p (.dK ekvs)) := Ex.new hp
    have hrow4 : RowA b (upd H3 p (.dK ekvs)) p y.2 := ⟨ekvs, npb, upd_same, hrow.mono fun kv x ⟨e1, t1⟩ => ⟨e1, t1.tups fun a xs h => x4 _ _ (e3 _ _ (tupL _ _ h))⟩⟩
    have hpD : ∀ m ∈ M, m.2.2.1 ≠ p := fun m hm z => by
      obtain ⟨_, ⟨_, _, h, _⟩, _⟩ := hMr m hm
      rw [z, hp] at h; cases h
    generalize upd H3 p (.dK ekvs) = H4 at *
    have hd4 := x4 _ _ hd
    refine ⟨by show 2 ≤ sizeLine; omega, fun q hq' => ?_⟩
    have x5 : Ex H4 (upd H4 q (.tup [kV (.inl y.1), .ref p])) := Ex.new hq'
    have hq5 : (upd H4 q (.tup [kV (.inl y.1), .ref p])) q = some (.tup [.int y.1, .ref p]) := upd_same
    generalize upd H4 q (.tup [kV (.inl y.1), .ref p]) = H5 at *
    have hd5 := x5 _ _ hd4
    have hMl : M.length ≤ 6 := by
      have := congrArg List.length hM
      rw [List.length_map, List.length_take] at this; omega
    have kD : ∀ a o, a ≠ D → H5 a = some o → (upd H5 D (.lst ((M.map (·.1)).map V.ref ++ [V.ref q]))) a = some o := fun a o n h => by rw [upd_ne n]; exact h
    have tD : ∀ a xs, H5 a = some (.tup xs) → (upd H5 D (.lst ((M.map (·.1)).map V.ref ++ [V.ref q]))) a = some (.tup xs) := fun a xs h => kD _ _ (fun z => by rw [z, hd5] at h; cases h) h
    have rD : ∀ a r, RowA b H5 a r → RowA b (upd H5 D (.lst ((M.map (·.1)).map V.ref ++ [V.ref q]))) a r := fun a r h => h.change (fun o ho => kD _ _ (fun z => by
      obtain ⟨_, _, g, _⟩ := h
      rw [z, hd5] at g; cases g) ho) tD
    refine ⟨_, hd5, Evl.sz_lt (by rw [List.length_map, List.length_map]; omega), Ex.mut (e3.trans (x4.trans x5)) hD, M ++ [(q, y.1, p, y.2)], ?_, ?_, ?_, fun m hm => ?_⟩
    · rw [upd_same, List.map_append, List.map_append]; rfl
    · rw [List.map_append, hM, List.take_add_one, hyn]; rfl
    · rw [List.map_append, List.nodup_append]
      refine ⟨hMn, by simp, fun a ha b' hb' => ?_⟩
      obtain ⟨m, hm, rfl⟩ := List.mem_map.mp ha
      rw [List.map_cons, List.map_nil, List.mem_singleton] at hb'
      rw [hb']
      exact hpD m hm
    · rcases List.mem_append.mp hm with hm | hm
      · obtain ⟨a1, a2, a3⟩ := hMr m hm
        exact ⟨tD _ _ (x5 _ _ (x4 _ _ a1)), rD _ _ (a2.change (fun o h => x5 _ _ (x4 _ _ h)) fun a xs h => x5 _ _ (x4 _ _ h)), a3⟩
      · rw [List.mem_singleton.mp hm]
        exact ⟨tD _ _ hq5, rD _ _ (hrow4.change (fun o h => x5 _ _ h) fun a xs h => x5 _ _ h), hpH⟩
  rintro H3 ⟨e3, M, hd, hM, hMn, hMr⟩
  rw [heach.length, List.take_length] at hM
  have htL3 := e3 _ _ htL
  refine ⟨htL3, ?_⟩
  have x4 : Ex H (upd H3 t (.dK kvs)) := unl e3
  have hd4 : (upd H3 t (.dK kvs)) D = some (.lst ((M.map (·.1)).map V.ref)) := by rw [upd_ne nDt]; exact hd
  have hM4 : ∀ m ∈ M, (upd H3 t (.dK kvs)) m.1 = some (.tup [.int m.2.1, .ref m.2.2.1]) ∧ RowA b (upd H3 t (.dK kvs)) m.2.2.1 m.2.2.2 ∧ H m.2.2.1 = none := fun m hm => by
    obtain ⟨a1, a2, a3⟩ := hMr m hm
    exact ⟨by rw [upd_ne (fun z => by rw [z, htL3] at a1; cases a1)]; exact a1, a2.frz htL3, a3⟩
  generalize upd H3 t (.dK kvs) = H4 at *
  have hMk : (M.map fun m => ((Sum.inl m.2.1 : Key), V.ref m.2.2.1)).map (·.1) = (tabs.map (·.1)).map Sum.inl := by
    rw [← hM, List.map_map, List.map_map, List.map_map]; rfl
  refine ⟨D, M.map (·.1), M.map (fun m => ((Sum.inl m.2.1 : Key), V.ref m.2.2.1)), rfl, SqL.of hd4, paired_map fun m hm => SqT.of (hM4 m hm).1, fun kp hkp => ?_⟩
  rw [merge_app (by rw [hMk]; exact nodup_map_inl hok.1) (fun _ _ => rfl), List.nil_append]
  have x5 : Ex H4 (upd H4 kp (.dK (M.map fun m => ((Sum.inl m.2.1 : Key), V.ref m.2.2.1)))) := Ex.new hkp
  have hk5 : (upd H4 kp (.dK (M.map fun m => ((Sum.inl m.2.1 : Key), V.ref m.2.2.1)))) kp = some (.dK (M.map fun m => ((Sum.inl m.2.1 : Key), V.ref m.2.2.1))) := upd_same
  have nkb : kp ≠ b := fun z => by rw [z, x4 _ _ hob] at hkp; cases hkp
  have hkpH : H kp = none := Evl.fresh_back x4 hkp
  have hnk : ∀ m ∈ M, m.2.2.1 ≠ kp := fun m hm z => by
    obtain ⟨_, ⟨_, _, h, _⟩, _⟩ := hM4 m hm
    rw [z, hkp] at h; cases h
  generalize upd H4 kp (.dK (M.map fun m => ((Sum.inl m.2.1 : Key), V.ref m.2.2.1))) = H5 at *
  have hkept : TabA b H5 kp tabs := by
    rw [← hM]
    refine ⟨_, nkb, hk5, each_maps fun m hm => ⟨rfl, m.2.2.1, rfl, hnk m hm, (hM4 m hm).2.1.change (fun o h => x5 _ _ h) fun a xs h => x5 _ _ h⟩, ?_⟩
    rw [List.map_map]
    have : M.map ((fun kv : Key × V => kv.2) ∘ fun m => ((Sum.inl m.2.1 : Key), V.ref m.2.2.1)) = (M.map (·.2.2.1)).map V.ref := by rw [List.map_map]; rfl
    rw [this]
    exact nodup_map_ref hMn
  have hkF : ∀ kvs', H5 kp = some (.dK kvs') → ∀ kv ∈ kvs', ∀ a, kv.2 = V.ref a → H a = none := fun kvs' h kv hkv a ea => by
    rw [hk5] at h
    cases h
    obtain ⟨m, hm, rfl⟩ := List.mem_map.mp hkv
    rw [← V.ref.inj ea]
    exact (hM4 m hm).2.2
  have xH5 : Ex H H5 := x4.trans x5
  clear hM4 hMr hnk hk5 hMk hM hMn hd4 hd
  -- the layout
  refine ⟨_, rfl, _, rfl, rfl, rfl, fun l dx h1 h2 h3 => ?_⟩
  refine lay_newK (hta.dt (KeepDT.of fun a o _ h => xH5 _ _ h)) hok htop ⟨ob, xH5 _ _ hob⟩ h1 h2 h3 fun H6 s e6 hsrt hlay hlF => ⟨rfl, ?_⟩
  have hlF : LayF C H5 H6 l := hlF
  have hso := srt_ok hsrt hok
  have hls := hsrt.lay
  have hks : top ∈ s.map (·.1) := hsrt.1.mem_iff.mpr htop
  have lay6 : ∀ {H' : Hp}, Ex H6 H' → LayA C b H' l s top := fun e => hlay.keep fun a o _ h => e _ _ h
  have kept5 : ∀ {H' : Hp}, Ex H5 H' → TabA b H' kp tabs := fun e => hkept.dt (KeepDT.of fun a o _ h => e _ _ h)
  refine ⟨_, rfl, _, rfl, _, rfl, l, kp, b, tabs, s, top, rfl, hlay, kept5 e6, hok, hsrt, htop, ⟨ob, e6 _ _ (xH5 _ _ hob)⟩, fun H7 e7 => ?_⟩
  refine ⟨true, rfl, ?_⟩
  refine iteF ?_
  have x7 : Ex H H7 := xH5.trans (e6.trans e7)
  have hlE : ∃ dxl Rl, H6 l = some (.ins C dxl (layFs Rl top)) := by obtain ⟨dx, R, _, h1, _⟩ := hlay; exact ⟨dx, R, h1⟩
  obtain ⟨dxl, Rl, hl6⟩ := hlE
  -- things that are in no layout
  refine ⟨1, rfl, ?_⟩
  refine ⟨by show 1 ≤ sizeLine; omega, fun tp htp => ?_⟩
  have y8 : Ex H7 (upd H7 tp (.tup [.int 0])) := Ex.new htp
  have htp8 : (upd H7 tp (.tup [.int 0])) tp = some (.tup [.int 0]) := upd_same
  generalize upd H7 tp (.tup [.int 0]) = H8 at *
  refine ⟨by show 1 ≤ sizeLine; omega, fun lp hlp => ?_⟩
  have y9 : Ex H8 (upd H8 lp (.lst [.int 0])) := Ex.new hlp
  have hlp9 : (upd H8 lp (.lst [.int 0])) lp = some (.lst [.int 0]) := upd_same
  generalize upd H8 lp (.lst [.int 0]) = H9 at *
  refine ⟨10, 30, rfl, rfl, ⟨by decide, by decide, by decide⟩, ?_⟩
  refine ⟨_, rfl, fun dp hdp => ?_⟩
  have y10 : Ex H9 (upd (upd H9 dp (.dK [])) dp (.dK [(Sum.inr "0", .int 0)])) := Ex.mut (Ex.new hdp) hdp
  refine ⟨upd_same, [(Sum.inr "0", .int 0)], rfl, by decide, ?_⟩
  rw [show mergeK [] [((Sum.inr "0" : Key), V.int 0)] = [((Sum.inr "0" : Key), V.int 0)] from rfl]
  have hdp10 : (upd (upd H9 dp (.dK [])) dp (.dK [((Sum.inr "0" : Key), V.int 0)])) dp = some (.dK [(Sum.inr "0", .int 0)]) := upd_same
  generalize upd (upd H9 dp (.dK [])) dp (.dK [((Sum.inr "0" : Key), V.int 0)]) = H10 at *
  refine ⟨by show 10 ≤ sizeLine; omega, fun al hal => ?_⟩
  have y11 : Ex H10 (upd H10 al (.lst [V.non, V.bl true, V.bl false, V.str "0", V.int (-1), V.ref tp, V.ref lp, V.int (10 ^ (30 : Int).toNat), V.ref l, V.ref dp])) := Ex.new hal
  have hal11 : (upd H10 al (.lst [V.non, V.bl true, V.bl false, V.str "0", V.int (-1), V.ref tp, V.ref lp, V.int (10 ^ (30 : Int).toNat), V.ref l, V.ref dp])) al = some (.lst [V.non, V.bl true, V.bl false, V.str "0", V.int (-1), V.ref tp, V.ref lp, V.int (10 ^ (30 : Int).toNat), V.ref l, V.ref dp]) := upd_same
  generalize upd H10 al (.lst [V.non, V.bl true, V.bl false, V.str "0", V.int (-1), V.ref tp, V.ref lp, V.int (10 ^ (30 : Int).toNat), V.ref l, V.ref dp]) = H11 at *
  have x11' : Ex H6 H11 := e7.trans (y8.trans (y9.trans (y10.trans y11)))
  have hodd : ∀ x ∈ [V.non, V.bl true, V.bl false, V.str "0", V.int (-1), V.ref tp, V.ref lp, V.int (10 ^ (30 : Int).toNat), V.ref l, V.ref dp], OddAt K s H11 x := fun x hx => by
    simp only [List.mem_cons, List.not_mem_nil, or_false] at hx
    rcases hx with rfl | rfl | rfl | rfl | rfl | rfl | rfl | rfl | rfl | rfl
    · exact Or.inl ⟨.none, .non, rfl⟩
    · exact Or.inl ⟨.bool true, .bl _, rfl⟩
    · exact Or.inl ⟨.bool false, .bl _, rfl⟩
    · exact Or.inl ⟨.str "0", .str _ (by decide +kernel) (by decide +kernel), rfl⟩
    · exact Or.inr (Or.inl ⟨-1, rfl, rfl⟩)
    · exact Or.inl ⟨.tuple [.int 0], .tup (y11 _ _ (y10 _ _ (y9 _ _ htp8))) (.cons (.int 0) .nil) (by show 1 ≤ 1000; decide), rfl⟩
    · exact Or.inl ⟨.list [.int 0], .lst (y11 _ _ (y10 _ _ hlp9)) (.cons (.int 0) .nil) (by show 1 ≤ 1000; decide), rfl⟩
    · refine Or.inr (Or.inl ⟨_, rfl, ?_⟩)
      rw [Bool.and_eq_false_iff]
      refine Or.inr (decide_eq_false fun hm => ?_)
      obtain ⟨x, hx, ex⟩ := List.mem_map.mp hm
      have h1 := (hso.2.2.2 x hx).1.2
      rw [ex] at h1
      exact absurd h1 (by decide)
    · exact Or.inr (Or.inr ⟨_, .base (.ins (x11' _ _ hl6) G.R.cl G.LI.ha G.LI.hn G.LI.ht G.LI.hm), G.kCI⟩)
    · exact Or.inr (Or.inr ⟨.type "dict", .base (.dK (y11 _ _ hdp10)), kit_ty (by decide +kernel)⟩)
  refine ⟨al, rfl, ⟨_, SqL.of hal11⟩, fun D3 hD3 => ?_⟩
  have hxl : List.length [V.non, V.bl true, V.bl false, V.str "0", V.int (-1), V.ref tp, V.ref lp, V.int (10 ^ (30 : Int).toNat), V.ref l, V.ref dp] = 10 := rfl
  generalize [V.non, V.bl true, V.bl false, V.str "0", V.int (-1), V.ref tp, V.ref lp, V.int (10 ^ (30 : Int).toNat), V.ref l, V.ref dp] = xs at *
  refine lc_it (walk_list (xs := xs)) (fun m H' => Ex H11 H' ∧ H' D3 = some (.lst ((List.replicate m false).map V.bl)) ∧ m ≤ xs.length) ⟨Ex.new hD3, upd_same, Nat.zero_le _⟩ (fun m H' _ h => SqL.of (h.1 _ _ hal11)) ?_ ?_
  · rintro m x H12' H12 hm ⟨e12, hd12, hml⟩ ⟨rfl, hxm⟩
    refine ⟨wipe_set, ?_⟩
    refine ⟨_, rfl, _, rfl, l, dxl, _, rfl, e12 _ _ (x11' _ _ hl6), ((hodd x (List.mem_of_getElem? hxm)).ex e12).sp (lay6 (x11'.trans e12)) fun H13 e13 => ⟨_, rfl, ?_⟩⟩
    refine ⟨_, e13 _ _ hd12, ?_, Ex.mut (e12.trans e13) hD3, ?_, hm⟩
    · rw [List.length_map, List.length_replicate]; exact Evl.sz_lt (by omega)
    · rw [upd_same, List.replicate_succ', List.map_append]; rfl
  rintro H12 ⟨e12, hd12, _⟩
  refine ⟨D3, _, rfl, SqL.of hd12, ?_⟩
  refine ⟨false, congrArg V.bl (any_rep _), ?_⟩
  refine iteF ?_
  have x12 : Ex H6 H12 := x11'.trans e12
  have x012 : Ex H H12 := xH5.trans (e6.trans x12)
  clear hodd hal11 hd12
  -- what the caller changes
  obtain ⟨v0, hv0, hm0⟩ := keys_val hkeys htop
  obtain ⟨y0, hy0, hy01, e0, rfl, ne0t, ekvs0, ne0b, he0, hrow0⟩ := each_mem heach _ hm0
  have dg0 : DGet H12 t (.int top) (some (.ref e0)) := by
    have := DGet.k (k := .inl top) (x012 _ _ ht)
    rw [hv0] at this; exact this
  refine ⟨_, rfl, _, rfl, t, _, rfl, dg0, ?_⟩
  refine ⟨_, rfl, l, dxl, _, rfl, x12 _ _ hl6, lk_tables, l, b, s, top, rfl, lay6 x12, ⟨ob, x012 _ _ hob⟩, hso.1, hso.2.2.1, fun H13 td e13 ntd htd hFtd => ?_⟩
  have x13 := x12.trans e13
  refine ⟨_, rfl, l, dxl, _, rfl, x13 _ _ hl6, lk_seen, l, b, s, top, rfl, lay6 x13, hso, hks, fun H14 sl ys e14 nsl hsl hperm hpw => ?_⟩
  refine ⟨_, _, _, rfl, ?_⟩
  have hys : ys.length ≤ 6 := by
    obtain ⟨hFn, hFs, _⟩ := bfs_facts hso hks
    have := nodup_le hFn hFs
    rw [List.length_map] at this
    rw [hperm.length_eq]; exact Nat.le_trans this hso.2.2.1
  have htd0 := htd
  obtain ⟨kvt, ntdb, htdd, heacht, hvt⟩ := htd0
  have hkeyt : kvt.map (·.1) = (s.map (·.1)).map Sum.inl := by
    rw [List.map_map]
    exact each_map (fun a c h => h.1) heacht
  obtain ⟨vy, hvy, hmy⟩ := keys_val hkeyt hks
  obtain ⟨yy, hyy, hyy1, ey, rfl, neyt, ekvsy, neyb, hey, hrowy⟩ := each_mem heacht _ hmy
  have dgy : DGet H14 td (.int top) (some (.ref ey)) := by
    have := DGet.k (k := .inl top) (e14 _ _ htdd)
    rw [hvy] at this; exact this
  refine ⟨_, rfl, _, rfl, td, _, rfl, dgy, ?_⟩
  refine ⟨_, rfl, Or.inl ⟨rfl, _, SqL.of hsl⟩, sl, _, .int 99, rfl, rfl, hsl, Evl.sz_lt (by rw [List.length_map]; omega), ?_⟩
  have neyH : H12 ey = none := hFtd _ htdd _ hmy _ rfl
  -- the addresses are apart
  have nsl0 : ∀ {a o}, H13 a = some o → a ≠ sl := fun h z => by rw [z, nsl] at h; cases h
  have ntd0 : ∀ {a o}, H12 a = some o → a ≠ td := fun h z => by rw [z, ntd] at h; cases h
  have ney0 : ∀ {a o}, H12 a = some o → a ≠ ey := fun h z => by rw [z, neyH] at h; cases h
  have he14 := e14 _ _ (e13 _ _ (x012 _ _ he0))
  have hey14 := e14 _ _ hey
  have htd14 := e14 _ _ htdd
  have k15 : ∀ a o, a ≠ sl → H14 a = some o → (upd H14 sl (.lst (ys.map V.int ++ [V.int 99]))) a = some o := fun a o n h => by rw [upd_ne n]; exact h
  generalize upd H14 sl (.lst (ys.map V.int ++ [V.int 99])) = H15 at *
  have he15 := k15 _ _ (nsl0 (e13 _ _ (x012 _ _ he0))) he14
  have hey15 := k15 _ _ (nsl0 hey) hey14
  have htd15 := k15 _ _ (nsl0 htdd) htd14
  refine ⟨_, rfl, _, rfl, by show 2 ≤ sizeLine; omega, fun qa hqa => ?_⟩
  have y16 : Ex H15 (upd H15 qa (.tup [.int top, .int top])) := Ex.new hqa
  have hqa16 : (upd H15 qa (.tup [.int top, .int top])) qa = some (.tup [.int top, .int top]) := upd_same
  generalize upd H15 qa (.tup [.int top, .int top]) = H16 at *
  refine ⟨qa, _, rfl, SqT.of hqa16, rfl, ?_⟩
  have he16 := y16 _ _ he15
  have hey16 := y16 _ _ hey15
  have htd16 := y16 _ _ htd15
  have n0y : e0 ≠ ey := ney0 (x012 _ _ he0)
  have n0td : e0 ≠ td := ntd0 (x012 _ _ he0)
  have nytd : ey ≠ td := neyt
  have hl0 : ekvs0.length ≤ 10 := by rw [hrow0.length]; exact (hok.2.2.2 y0 hy0).2.2.1
  have hly : ekvsy.length ≤ 10 := by rw [hrowy.length]; exact (hso.2.2.2 yy hyy).2.2.1
  refine ⟨_, _, rfl, _, rfl, e0, _, rfl, DPut.k (k := .inr "new") he16 (Evl.sz_lt (by omega)), ?_⟩
  have he17 : (upd H16 e0 (.dK (putK ekvs0 (.inr "new") (.int top)))) e0 = some (.dK (putK ekvs0 (.inr "new") (.int top))) := upd_same
  have k17 : ∀ a o, a ≠ e0 → H16 a = some o → (upd H16 e0 (.dK (putK ekvs0 (.inr "new") (.int top)))) a = some o := fun a o n h => by rw [upd_ne n]; exact h
  generalize upd H16 e0 (.dK (putK ekvs0 (.inr "new") (.int top))) = H17 at *
  refine ⟨_, _, rfl, _, rfl, ey, _, rfl, DPut.k (k := .inr "new") (k17 _ _ n0y.symm hey16) (Evl.sz_lt (by omega)), rfl, ?_⟩
  have k18 : ∀ a o, a ≠ ey → H17 a = some o → (upd H17 ey (.dK (putK ekvsy (.inr "new") (.int top)))) a = some o := fun a o n h => by rw [upd_ne n]; exact h
  generalize upd H17 ey (.dK (putK ekvsy (.inr "new") (.int top))) = H18 at *
  have htd18 := k18 _ _ nytd.symm (k17 _ _ n0td.symm htd16)
  refine ⟨_, rfl, Or.inr (Or.inr (Or.inl ⟨rfl, Or.inl ⟨_, htd18⟩⟩)), td, _, rfl, rfl, htd18, ?_⟩
  have k19 : ∀ a o, a ≠ td → H18 a = some o → (upd H18 td (.dK [])) a = some o := fun a o n h => by rw [upd_ne n]; exact h
  generalize upd H18 td (.dK []) = H19 at *
  have kA : ∀ a o, H12 a = some o → a ≠ e0 → H19 a = some o := fun a o h n =>
    k19 _ _ (ntd0 h) (k18 _ _ (ney0 h) (k17 _ _ n (y16 _ _ (k15 _ _ (nsl0 (e13 _ _ h)) (e14 _ _ (e13 _ _ h))))))
  have he19 : H19 e0 = some (.dK (putK ekvs0 (.inr "new") (.int top))) := k19 _ _ n0td (k18 _ _ n0y he17)
  have kT : ∀ a xs, H12 a = some (.tup xs) → H19 a = some (.tup xs) := fun a xs h => kA _ _ h fun z => by rw [z, x012 _ _ he0] at h; cases h
  have nR : Rl ≠ e0 := fun z => by
    have := (hlF _ _ _ hl6).1
    rw [z, xH5 _ _ he0] at this; cases this
  have lay19 : LayA C b H19 l s top := by
    obtain ⟨dx', R', nlb, g1, g2⟩ := hlay
    have hlF' := hlF _ _ _ g1
    refine ⟨dx', R', nlb, kA _ _ (x12 _ _ g1) (fun z => by rw [z, e6 _ _ (xH5 _ _ he0)] at g1; cases g1), g2.change (fun o h => kA _ _ (x12 _ _ h) fun z => ?_) (fun kv h p hp a ea o ho => kA _ _ (x12 _ _ ho) fun z => ?_) fun a xs h => kT _ _ (x12 _ _ h)⟩
    · have := hlF'.1
      rw [z, xH5 _ _ he0] at this; cases this
    · have := hlF'.2 kv h p hp a ea
      rw [z, xH5 _ _ he0] at this; cases this
  have kept19 : TabA b H19 kp tabs := by
    refine hkept.change (fun o h => kA _ _ (x12 _ _ (e6 _ _ h)) fun z => ?_) (fun kv h p hp a ea o ho => kA _ _ (x12 _ _ (e6 _ _ ho)) fun z => ?_) fun a xs h => kT _ _ (x12 _ _ (e6 _ _ h))
    · rw [z, he0] at hkpH; cases hkpH
    · have := hkF kv h p hp a ea
      rw [z, he0] at this; cases this
  have hb19 : H19 b = some ob := kA _ _ (x012 _ _ hob) ne0b.symm
  have new19 : TabA b H19 t (putNew top tabs) := hta.new hok hfew ht hv0 he0 (kA _ _ (x012 _ _ ht) ne0t.symm) he19 (fun a kv n h _ => kA _ _ (x012 _ _ h) n) fun a xs h => kT _ _ (x012 _ _ h)
  have nd19 : KeepND H H19 := fun a o h n => kA _ _ (x012 _ _ h) fun z => by
    rw [z, he0] at h
    exact n _ (Option.some.inj h).symm
  have hl19 : H19 l = some (.ins C dxl (layFs Rl top)) := kA _ _ (x12 _ _ hl6) fun z => by rw [z, e6 _ _ (xH5 _ _ he0)] at hl6; cases hl6
  clear kA kT he19 k19 k18 k17 k15
  refine ⟨_, rfl, _, rfl, _, rfl, l, kp, b, tabs, s, top, rfl, lay19, kept19, hok, hsrt, htop, ⟨ob, hb19⟩, fun H20 e20 => ?_⟩
  refine ⟨true, rfl, ?_⟩
  refine iteF ?_
  have lay20 : ∀ {H' : Hp}, Ex H20 H' → LayA C b H' l s top := fun e => lay19.keep fun a o _ h => e _ _ (e20 _ _ h)
  have kept20 : ∀ {H' : Hp}, Ex H20 H' → TabA b H' kp tabs := fun e => kept19.dt (KeepDT.of fun a o _ h => e _ _ (e20 _ _ h))
  have new20 : ∀ {H' : Hp}, Ex H20 H' → TabA b H' t (putNew top tabs) := fun e => new19.dt (KeepDT.of fun a o _ h => e _ _ (e20 _ _ h))
  have hb20 : ∀ {H' : Hp}, Ex H20 H' → ∃ o, H' b = some o := fun e => ⟨ob, e _ _ (e20 _ _ hb19)⟩
  have hl20 : ∀ {H' : Hp}, Ex H20 H' → H' l = some (.ins C dxl (layFs Rl top)) := fun e => e _ _ (e20 _ _ hl19)
  have nd20 : ∀ {H' : Hp}, Ex H20 H' → KeepND H H' := fun e a o h n => e _ _ (e20 _ _ (nd19 a o h n))
  clear lay19 kept19 new19 hb19 hl19 nd19
  -- told, and made again
  refine ⟨_, rfl, l, dxl, _, rfl, hl20 (Ex.refl _), lk_tables, l, b, s, top, rfl, lay20 (Ex.refl _), hb20 (Ex.refl _), hso.1, hso.2.2.1, fun H21 t2 e21 nt2 ht2 _ => ?_⟩
  refine ⟨_, rfl, rfl, rfl, fun m dxm g1 g2 g3 => ?_⟩
  refine lay_newK ht2 hso hks (hb20 e21) g1 g2 g3 fun H22 s' e22 hs' hm _ => ⟨rfl, ?_⟩
  rw [srt_same hs' hls hso] at hm
  have hmE : ∃ dx R, H22 m = some (.ins C dx (layFs R top)) := by obtain ⟨dx, R, _, h1, _⟩ := hm; exact ⟨dx, R, h1⟩
  obtain ⟨dm, Rm, hmi⟩ := hmE
  have x22 := e21.trans e22
  refine ⟨_, rfl, m, l, dm, dxl, _, _, rfl, rfl, hmi, hl20 x22, Or.inl ⟨m, l, b, s, s, top, top, rfl, hm, lay20 x22, hso, hso, _, rfl, ?_⟩⟩
  rw [show (decide (top = top) && eqT s s) = true by rw [eqT_refl hso, decide_eq_true rfl]; rfl]
  refine ⟨_, _, rfl, rfl, _, rfl, ?_⟩
  refine iteF ?_
  -- the tables that were changed
  have hnok := putNew_ok hok hfew htop
  have htopN : top ∈ (putNew top tabs).map (·.1) := by rw [putNew_keys]; exact htop
  refine ⟨_, rfl, _, rfl, rfl, rfl, fun m2 dxm2 g1 g2 g3 => ?_⟩
  refine lay_newK (new20 x22) hnok htopN (hb20 x22) g1 g2 g3 fun H23 s2 e23 hs2 hm2 _ => ⟨rfl, ?_⟩
  have hmE : ∃ dx R, H23 m2 = some (.ins C dx (layFs R top)) := by obtain ⟨dx, R, _, h1, _⟩ := hm2; exact ⟨dx, R, h1⟩
  obtain ⟨dm2, Rm2, hmi2⟩ := hmE
  have x23 := x22.trans e23
  refine ⟨_, rfl, m2, l, dm2, dxl, _, _, rfl, rfl, hmi2, hl20 x23, Or.inl ⟨m2, l, b, s2, s, top, top, rfl, hm2, lay20 x23, srt_ok hs2 hnok, hso, _, rfl, ?_⟩⟩
  rw [show (decide (top = top) && eqT s2 s) = false by rw [eqT_new hsrt hs2 hok hnok htop, Bool.and_false]]
  refine ⟨_, _, rfl, rfl, _, rfl, ?_⟩
  refine iteF ?_
  -- other tops
  have kept0 := kept20 x23
  obtain ⟨kvk, nkb', hkk, heachk, _⟩ := kept0
  have hkeyk : kvk.map (·.1) = (tabs.map (·.1)).map Sum.inl := by
    rw [List.map_map]
    exact each_map (fun a c h => h.1) heachk
  refine ⟨_, rfl, kp, kvk, tabs.map (·.1), rfl, Rd.of hkk, hkeyk, by rw [List.length_map]; omega, fun zs p hpermz hpwz hp => ⟨p, rfl, ⟨_, SqL.of upd_same⟩, fun D4 hD4 => ?_⟩⟩
  have y24 : Ex H23 (upd H23 p (.lst (zs.map V.int))) := Ex.new hp
  have hp24 : (upd H23 p (.lst (zs.map V.int))) p = some (.lst (zs.map V.int)) := upd_same
  have hzl : zs.length ≤ 6 := by rw [hpermz.length_eq, List.length_map]; exact h6
  generalize upd H23 p (.lst (zs.map V.int)) = H24 at *
  have x24 := x23.trans y24
  refine lc_it (walk_list (xs := zs.map V.int)) (fun n H' => Ex H24 H' ∧ H' D4 = some (.lst (((zs.take n).map fun j => decide (j = top)).map V.bl))) ⟨Ex.new hD4, upd_same⟩ (fun n H' _ h => SqL.of (h.1 _ _ hp24)) ?_ ?_
  · rintro n x H25' H25 hn ⟨e25, hd25⟩ ⟨rfl, hxi⟩
    rw [List.getElem?_map] at hxi
    obtain ⟨j, hj, rfl⟩ := Option.map_eq_some_iff.mp hxi
    have hjm : j ∈ tabs.map (·.1) := hpermz.mem_iff.mp (List.mem_of_getElem? hj)
    have x25 := x24.trans e25
    refine ⟨wipe_set, ?_⟩
    refine ⟨_, rfl, _, rfl, rfl, rfl, fun m3 dxm3 g1 g2 g3 => ?_⟩
    refine lay_newK (kept20 x25) hok hjm (hb20 x25) g1 g2 g3 fun H26 s3 e26 hs3 hm3 _ => ⟨rfl, ?_⟩
    rw [srt_uniq hsrt hs3 hok] at hm3
    have hmE : ∃ dx R, H26 m3 = some (.ins C dx (layFs R j)) := by obtain ⟨dx, R, _, h1, _⟩ := hm3; exact ⟨dx, R, h1⟩
    obtain ⟨dm3, Rm3, hmi3⟩ := hmE
    have x26 := x25.trans e26
    refine ⟨_, rfl, m3, l, dm3, dxl, _, _, rfl, rfl, hmi3, hl20 x26, Or.inl ⟨m3, l, b, s, s, j, top, rfl, hm3, lay20 x26, hso, hso, _, rfl, ?_⟩⟩
    rw [eqT_refl hso, Bool.and_true]
    refine ⟨_, e26 _ _ hd25, Evl.sz_lt (by rw [List.length_map, List.length_map, List.length_take]; omega), Ex.mut (e25.trans e26) hD4, ?_⟩
    rw [upd_same, List.take_add_one, hj, List.map_append, List.map_append]; rfl
  rintro H25 ⟨e25, hd25⟩
  rw [List.length_map, List.take_length] at hd25
  have x25 := x24.trans e25
  have kept1 := kept20 x25
  obtain ⟨kvk2, _, hkk2, heachk2, _⟩ := kept1
  have hkeyk2 : kvk2.map (·.1) = (tabs.map (·.1)).map Sum.inl := by
    rw [List.map_map]
    exact each_map (fun a c h => h.1) heachk2
  refine ⟨_, rfl, _, rfl, kp, kvk2, tabs.map (·.1), rfl, Rd.of hkk2, hkeyk2, by rw [List.length_map]; omega, fun zs2 p2 hpermz2 hpwz2 hp2 => ⟨p2, rfl, ⟨_, SqL.of upd_same⟩, fun D5 hD5 => ?_⟩⟩
  obtain rfl : zs2 = zs := ints_one (hpermz2.trans hpermz.symm) hpwz2 hpwz
  have y26 : Ex H25 (upd H25 p2 (.lst (zs2.map V.int))) := Ex.new hp2
  have hp26 : (upd H25 p2 (.lst (zs2.map V.int))) p2 = some (.lst (zs2.map V.int)) := upd_same
  generalize upd H25 p2 (.lst (zs2.map V.int)) = H26 at *
  refine lc_it (walk_list (xs := zs2.map V.int)) (fun n H' => Ex H26 H' ∧ H' D5 = some (.lst (((zs2.take n).map fun j => decide (j = top)).map V.bl))) ⟨Ex.new hD5, upd_same⟩ (fun n H' _ h => SqL.of (h.1 _ _ hp26)) ?_ ?_
  · rintro n x H27' H27 hn ⟨e27, hd27⟩ ⟨rfl, hxi⟩
    rw [List.getElem?_map] at hxi
    obtain ⟨j, hj, rfl⟩ := Option.map_eq_some_iff.mp hxi
    refine ⟨wipe_set, ?_⟩
    refine ⟨_, rfl, _, rfl, rfl, ?_⟩
    refine ⟨_, hd27, Evl.sz_lt (by rw [List.length_map, List.length_map, List.length_take]; omega), Ex.mut e27 hD5, ?_⟩
    rw [upd_same, List.take_add_one, hj, List.map_append, List.map_append]
    have : decide (V.int j = V.int top) = decide (j = top) := by
      rw [Bool.eq_iff_iff, decide_eq_true_eq, decide_eq_true_eq]
      exact ⟨fun h => V.int.inj h, fun h => by rw [h]⟩
    rw [this]; rfl
  rintro H27 ⟨e27, hd27⟩
  rw [List.length_map, List.take_length] at hd27
  have sb := shaped_lst (f := PyData.bool) (l := zs2.map fun j => decide (j = top)) fun a _ => lay_bool a
  refine ⟨_, _, .lst (SqL.of (e27 _ _ (y26 _ _ hd25))) (dpall_map fun z => .bl z), .lst (SqL.of hd27) (dpall_map fun z => .bl z), sb.1, sb.1, _, rfl, ?_⟩
  rw [sb.2]
  refine iteF ?_
  have x27 := x25.trans (y26.trans e27)
  -- other things
  have kept2 := kept20 x27
  obtain ⟨kvk3, _, hkk3, _, _⟩ := kept2
  refine ⟨_, rfl, _, rfl, l, kp, dxl, _, kvk3, rfl, rfl, hl20 x27, hkk3, Or.inr ⟨l, .ref kp, .type "dict", rfl, .base (.dK hkk3), G.kDC, _, rfl, ?_⟩⟩
  refine ⟨_, _, rfl, rfl, _, rfl, ?_⟩
  refine iteT ?_
  refine ⟨_, rfl, l, _, dxl, _, rfl, rfl, hl20 x27, Or.inr ⟨l, .str "layout", .type "str", rfl, .base (.str _), G.kSC, _, rfl, ?_⟩⟩
  refine ⟨_, _, rfl, rfl, ?_⟩
  exact hq _ (nd20 x27)
end
end KC

set_option Elab.async false
set_option linter.all false
set_option maxRecDepth 100000
set_option maxHeartbeats 32000000
namespace KC
open PySem PySem.Spec PyProof.Rows L2 LF
open Evl (Ev EvL EvU EvT EvA EvO Ex sq_of st_of)
open PySem.W (EachIs)
def spLaw (K : PySem.W.Frag) : Sp := fun vs H Q _ => ∃ (a : Addr) (ns : List Int), vs = [.ref a] ∧ SqL K H a (ns.map V.int) ∧ ns.length ≤ 63 ∧ ∀ H', Q (.bl true) H'
abbrev s_law : Stmt := topS 30
abbrev N_law : List Str := ["_law_script", "_law_at", "_law_bag_here", "_law_turn", "_law_words_here", "_law_farm_here", "_law_tables", "_law_head"]
theorem sc_law : FnScope ["_law_script", "_law_at", "_law_bag_here", "_law_turn", "_law_words_here", "_law_farm_here", "_law_tables", "_law_head"] ["_law_script"] (defScope s_law) := ⟨rfl, rfl, rfl, by decide +kernel, rfl, by decide +kernel, by decide +kernel⟩
/-- all but b and dicts stays -/
def KeepBN (b : Addr) (H H' : Hp) : Prop := ∀ a o, a ≠ b → H a = some o → (∀ kvs, o ≠ .dK kvs) → H' a = some o
theorem KeepBN.trans {b : Addr} {H H1 H2 : Hp} (x : KeepBN b H H1) (y : KeepBN b H1 H2) : KeepBN b H H2 := fun a o n h d => y a o n (x a o n h d) d
theorem KeepBN.of {b : Addr} {H H' : Hp} (k : Keep b H H') : KeepBN b H H' := fun a o n h _ => k a o n h
theorem KeepND.bn {b : Addr} {H H' : Hp} (k : KeepND H H') : KeepBN b H H' := fun a o _ h d => k a o h d
theorem seq_bn {K : PySem.W.Frag} {H H' : Hp} {a b : Addr} {xs : List V} (h : SqL K H a xs) (hb : H b = none) (k : KeepBN b H H') : SqL K H' a xs := by
  rcases h with (h | ⟨o, h⟩) | h
  · exact Or.inl (Or.inl (k _ _ (ne_of_none h hb) h (fun _ z => nomatch z)))
  · exact Or.inl (Or.inr ⟨o, k _ _ (ne_of_none h hb) h (fun _ z => nomatch z)⟩)
  · exact Or.inr h
theorem bag_nd {b : Addr} {M : Nat} {H H' : Hp} (h : BagC H b M) (k : KeepND H H') : BagC H' b M := by
  obtain ⟨d, x, n, e, r⟩ := h
  exact ⟨d, x, n, k _ _ e (fun _ z => nomatch z), r⟩
/-! tables without links -/
def bareT (js : List Int) : Tabs := js.map fun j => (j, [])
theorem bare_ok {js : List Int} (hn : js.Nodup) (h1 : 1 ≤ js.length) (h6 : js.length ≤ 6) (hb : ∀ j ∈ js, 0 ≤ j ∧ j < 100) : TabOk (bareT js) := by
  have e : (bareT js).map (·.1) = js := by unfold bareT; rw [List.map_map]; exact List.map_id' js
  have l : (bareT js).length = js.length := by unfold bareT; rw [List.length_map]
  refine ⟨by rw [e]; exact hn, by rw [l]; exact h1, by rw [l]; exact h6, fun x hx => ?_⟩
  obtain ⟨j, hj, rfl⟩ := List.mem_map.mp (show x ∈ js.map _ from hx)
  exact ⟨hb j hj, .nil, Nat.zero_le _, fun _ h => nomatch h⟩
theorem bare_lay {js : List Int} (h : js.Pairwise (· ≤ ·)) : LayS (bareT js) := by
  have e : (bareT js).map (·.1) = js := by unfold bareT; rw [List.map_map]; exact List.map_id' js
  refine ⟨by rw [e]; exact h, fun x hx => ?_⟩
  obtain ⟨j, hj, rfl⟩ := List.mem_map.mp (show x ∈ js.map _ from hx)
  rfl
theorem disp1 {b p e : Addr} {H : Hp} {j : Int} (hb : ∃ o, H b = some o) (hp : H p = none) (he : (upd H p (.dK [])) e = none) : (upd (upd H p (.dK [])) e (.dK [])) p = some (.dK []) ∧
    Ex H (upd (upd (upd H p (.dK [])) e (.dK [])) p (.dK [(.inl j, .ref e)])) ∧ TabA b (upd (upd (upd H p (.dK [])) e (.dK [])) p (.dK [(.inl j, .ref e)])) p (bareT [j]) := by
  obtain ⟨o, hb⟩ := hb
  have nep : e ≠ p := fun z => by rw [z, upd_same] at he; cases he
  have heH : H e = none := by rw [upd_ne nep] at he; exact he
  have nbp : p ≠ b := fun z => by rw [z, hb] at hp; cases hp
  have nbe : e ≠ b := fun z => by rw [z, hb] at heH; cases heH
  refine ⟨by rw [upd_ne nep.symm]; exact upd_same, Ex.mut ((Ex.new hp).trans (Ex.new he)) hp, [(.inl j, .ref e)], nbp, upd_same, .cons ⟨rfl, e, rfl, nep, [], nbe, ?_, .nil⟩ .nil, by simp⟩
  rw [upd_ne nep]; exact upd_same
theorem disp2 {b p e f : Addr} {H : Hp} {i j : Int} (hb : ∃ o, H b = some o) (hp : H p = none) (he : (upd H p (.dK [])) e = none) (hf : (upd (upd H p (.dK [])) e (.dK [])) f = none) : (upd (upd (upd H p (.dK [])) e (.dK [])) f (.dK [])) p = some (.dK []) ∧
    Ex H (upd (upd (upd (upd H p (.dK [])) e (.dK [])) f (.dK [])) p (.dK [(.inl i, .ref e), (.inl j, .ref f)])) ∧ TabA b (upd (upd (upd (upd H p (.dK [])) e (.dK [])) f (.dK [])) p (.dK [(.inl i, .ref e), (.inl j, .ref f)])) p (bareT [i, j]) := by
  obtain ⟨o, hb⟩ := hb
  have nep : e ≠ p := fun z => by rw [z, upd_same] at he; cases he
  have heH : H e = none := by rw [upd_ne nep] at he; exact he
  have nbp : p ≠ b := fun z => by rw [z, hb] at hp; cases hp
  have nbe : e ≠ b := fun z => by rw [z, hb] at heH; cases heH
  have nfe : f ≠ e := fun z => by rw [z, upd_same] at hf; cases hf
  have hf1 := hf
  rw [upd_ne nfe] at hf1
  have nfp : f ≠ p := fun z => by rw [z, upd_same] at hf1; cases hf1
  have hfH := hf1
  rw [upd_ne nfp] at hfH
  have nfb : f ≠ b := fun z => by rw [z, hb] at hfH; cases hfH
  refine ⟨by rw [upd_ne nfp.symm, upd_ne nep.symm]; exact upd_same, Ex.mut (((Ex.new hp).trans (Ex.new he)).trans (Ex.new hf)) hp, [(.inl i, .ref e), (.inl j, .ref f)], nbp, upd_same, .cons ⟨rfl, e, rfl, nep, [], nbe, ?_, .nil⟩ (.cons ⟨rfl, f, rfl, nfp, [], nfb, ?_, .nil⟩ .nil), ?_⟩
  · rw [upd_ne nep, upd_ne nfe.symm]; exact upd_same
  · rw [upd_ne nfp]; exact upd_same
  · simp only [List.map_cons, List.map_nil, List.nodup_cons, List.mem_singleton, List.not_mem_nil, not_false_eq_true, List.nodup_nil, and_true]
    exact fun z => nfe (V.ref.inj z).symm
section
variable {P : Program} {w : World} {K : PySem.W.Frag} {mg : Str → Option Value} {base : Heap} {tk1 tk2 : Tok}
theorem ok_law {f f1 f2 f3 f5 f6 C fT pT fB fE fI fS fG fN fL fR : Addr} {fd fd1 fd2 fd3 fd5 fd6 fdT fdB fdE fdI fdS fdG fdN fdL fdR : FuncData} (F : Fun K "law" "law" s_law f fd) (T : Txt K mg tk1 tk2)
    (d__law_bag : DefAt P w K mg base "_law_bag" 1 f1 fd1 ["_law_script", "_law_at"] (spBagC K)) (d__law_words : DefAt P w K mg base "_law_words" 3 f2 fd2 ["_law_bag_here"] spWords)
    (d__law_farm : DefAt P w K mg base "_law_farm" 4 f3 fd3 ["_law_bag_here", "_law_words_here", "_law_most", "_law_has_references"] spFarm)
    (d__law_drawn : DefAt P w K mg base "_law_drawn" 3 f5 fd5 ["_law_bag_here", "_law_farm_here", "_law_words_here", "_law_most"] spDrawn)
    (d__law_right : DefAt P w K mg base "_law_right" 8 f6 fd6 ["_law_bag_here", "_law_tables", "_law_head"] spRight) (G : LayAll P w K mg base C fT pT fB fE fI fS fG fN fL fR fdT fdB fdE fdI fdS fdG fdN fdL fdR) :
    FnG P w K mg base CX0 10 f fd ["_law_script"] (spLaw K) := by
  obtain ⟨gk, kbn⟩ := G.kb
  obtain ⟨ds, b1, hds⟩ := G.b1
  refine fnG_of F sc_law (fun vs H Q E h => ?_) (fun cdv A outer st H vs Q E gd hr h => ?_)
  · obtain ⟨a, ns, rfl, _⟩ := h
    rfl
  have hu := hr.units
  have hu1 := hu_of hr
  refine ⟨_, (pss_cons (ps_for (passes_of rfl) rfl (pi_range1 (by rfl) T.n_range (pa_cons (pe_callB (call_max2 rfl) (by rfl) T.n_max (by decide +kernel) (pa_cons pe_int (pa_cons (pe_callB (call_min2 rfl) (by rfl) T.n_min (by decide +kernel) (pa_cons pe_int (pa_cons (pe_callB call_len_seq (by rfl) T.n_len (by decide +kernel) (pa_cons (pv 0) pa_nil)) pa_nil))) pa_nil))) pa_nil)) (pg_name (i := 1) sc_law.nd rfl (Or.inl rfl)) (pss_cons (ps_set (i := 2) sc_law.nd rfl (Or.inl rfl) (pe_callD d__law_bag (hr.mono (by decide)) (pa_cons (pv 0) (pa_cons (pv 1) pa_nil))))
    (pss_one (ps_for (passes_of rfl) rfl (pi_range1 (by rfl) T.n_range (pa_cons pe_int pa_nil)) (pg_name (i := 3) sc_law.nd rfl (Or.inl rfl)) (pss_cons (ps_set (i := 4) sc_law.nd rfl (Or.inl rfl) (pe_callD d__law_words (hr.mono (by decide)) (pa_cons (pv 2) pa_nil)))
    (pss_cons (ps_set (i := 5) sc_law.nd rfl (Or.inl rfl) (pe_callD d__law_farm (hr.mono (by decide)) (pa_cons (pv 2) (pa_cons (pv 4) (pa_cons pe_int (pa_cons pe_bl pa_nil))))))
    (pss_cons (ps_asg (pe_callD d__law_drawn (hr.mono (by decide)) (pa_cons (pv 2) (pa_cons (pv 5) (pa_cons (pv 4) (pa_cons pe_int pa_nil))))) (pg_tup (by rfl) (pgs_cons (pg_name (i := 6) sc_law.nd rfl (Or.inl rfl)) (pgs_cons (pg_name (i := 7) sc_law.nd rfl (Or.inl rfl)) pgs_nil))))
    (pss_one (ps_if (pt_not (pt_val (pe_callD d__law_right (hr.mono (by decide)) (pa_cons (pv 2) (pa_cons (pv 6) (pa_cons (pv 7) pa_nil)))))) (pss_one (ps_ret pe_bl)) pss_nil)))))))))
    (pss_one (ps_ret (pe_and (pe_cmpR op_eq (pe_callB (call_lenO G.FL (hr.mono (by decide)) G.bL G.sL G.iL) (by rfl) T.n_len (by decide +kernel) (pa_cons (pe_make G.mkr G.FI (hr.mono (by decide)) rfl G.R.gC b1 hds pass0 (pa_cons (pe_disp (pps_cons pe_int pe_dnewK pps_nil) rfl rfl (by simp) (by decide)) pa_nil)) pa_nil)) pe_int (nomark _)) (pe_and (pe_cmpR op_eq (pe_prop (pe_make G.mkr G.FI (hr.mono (by decide)) rfl G.R.gC b1 hds pass0 (pa_cons (pe_disp (pps_cons pe_int pe_dnewK pps_nil) rfl rfl (by simp) (by decide)) pa_nil)) G.R.cl G.top G.FT (hr.mono (by decide)) G.bT .nil pass0 rfl) pe_int (nomark _)) (pe_one (pe_cmpR (op_eqD hu) (pe_meth0 (pe_makeK G.mkr G.FI (hr.mono (by decide)) rfl G.R.gC kbn pass0 (pa_cons (pe_disp (pps_cons pe_int pe_dnewK (pps_cons pe_int pe_dnewK pps_nil)) rfl rfl (by simp) (by decide)) pa_nil) (pk_cons pe_int pk_nil)) G.R.cl G.mS G.FS (hr.mono (by decide)) G.bS .nil pass0) (pe_lst (pa_cons pe_int pa_nil)) (nomark _)))))))), ?_⟩
  obtain ⟨a, ns, rfl, hS, hlen, hq⟩ := h
  refine ⟨_, rfl, a, _, rfl, Or.inl hS, _, _, rfl, _, _, rfl, ?_⟩
  rw [List.length_map]
  have hm : ∃ m : Int, (if (if (ns.length : Int) < 6 then (ns.length : Int) else 6) > 2 then (if (ns.length : Int) < 6 then (ns.length : Int) else 6) else 2) = m ∧ 2 ≤ m ∧ m ≤ 6 := by
    refine ⟨_, rfl, ?_⟩
    split <;> split <;> omega
  obtain ⟨m, em, m0, m5⟩ := hm
  refine ⟨m, by rw [← em], by omega, by omega, for_range (lo := 0) (fun i σ H' => ∃ v1 v2 v3 v4 v5 v6 v7, σ = [some (.ref a), v1, v2, v3, v4, v5, v6, v7] ∧ SqL K H' a (ns.map V.int) ∧ (1 ≤ i → ∃ b o, H' b = some o)) ⟨_, _, _, _, _, _, _, rfl, hS, fun h => absurd h (by decide)⟩ ?_ ?_⟩
  · rintro i σ H1 hi ⟨v1, v2, v3, v4, v5, v6, v7, rfl, hS1, _⟩
    refine ⟨_, rfl, _, rfl, a, _, ns, rfl, hS1, by omega, by omega, fun H2 b s2 hbn hb => ?_⟩
    refine ⟨4, rfl, by decide, by decide, for_range (lo := 0) (fun j σ H' => ∃ M v3 v4 v5 v6 v7, M ≤ 1000 * j ∧ σ = [some (.ref a), some (.int (0 + (i : Int))), some (.ref b), v3, v4, v5, v6, v7] ∧ KeepBN b H2 H' ∧ BagC H' b M) ⟨0, _, _, _, _, _, by omega, rfl, KeepBN.of (Keep.refl b H2), hb⟩ ?_ ?_⟩
    · rintro j σ H6 hj ⟨M, v3, v4, v5, v6, v7, lM, rfl, k6, b6⟩
      have lj : j < 4 := hj
      have hbm : b ∈ [b] := List.mem_singleton.mpr rfl
      refine ⟨_, rfl, b, M, rfl, b6, by omega, fun H7 p M7 l7 k7 b7 hw => ?_⟩
      refine ⟨_, rfl, _, rfl, b, p, 6, true, M7, rfl, b7, by omega, hw, by decide, by decide, fun H8 g M8 l8 k8 b8 hf => ?_⟩
      have hw8 := hw.stb (kb hbm k8)
      refine ⟨_, rfl, _, rfl, _, rfl, b, g, p, 5, M8, rfl, b8, by omega, hf, hw8, by decide, by decide, fun H9 q t tabs head M9 l9 k9 b9 nq hq9 hta hok hfew hhead => ?_⟩
      refine ⟨q, _, rfl, SqT.of hq9, rfl, _, _, rfl, _, _, rfl, rfl, ?_⟩
      have hbl : ∃ o, H9 b = some o := by
        obtain ⟨_, _, _, e1, _⟩ := b9
        exact ⟨_, e1⟩
      refine ⟨_, rfl, _, rfl, _, rfl, .ref b, t, b, tabs, head, rfl, hta, hok, hfew, hhead, hbl, fun H10 nd => ?_⟩
      refine ⟨true, rfl, ?_⟩
      refine iteF ?_
      exact ⟨M9, _, _, _, _, _, by omega, rfl, k6.trans ((KeepBN.of ((k7.trans k8).trans k9)).trans nd.bn), bag_nd b9 nd⟩
    · rintro σ H6 ⟨M, v3, v4, v5, v6, v7, lM, rfl, k6, b7⟩
      refine ⟨_, _, _, _, _, _, _, rfl, seq_bn hS1 hbn ((KeepBN.of (Same.keep s2)).trans k6), fun _ => ?_⟩
      obtain ⟨_, _, _, e1, _⟩ := b7
      exact ⟨b, _, e1⟩
  · rintro σ H1 ⟨v1, v2, v3, v4, v5, v6, v7, rfl, _, hbx⟩
    obtain ⟨b, ob, hb⟩ := hbx (by omega)
    have hbE : ∀ {H' : Hp}, Ex H1 H' → ∃ o, H' b = some o := fun e => ⟨ob, e _ _ hb⟩
    have ok1 : TabOk (bareT [0]) := bare_ok (by decide) (by decide) (by decide) (by decide)
    have ok2 : TabOk (bareT [0, 7]) := bare_ok (by decide) (by decide) (by decide) (by decide)
    have ly1 : LayS (bareT [0]) := bare_lay (by simp)
    have ly2 : LayS (bareT [0, 7]) := bare_lay (by simp)
    have in1 : (0 : Int) ∈ (bareT [0]).map (·.1) := by decide
    have in2 : (7 : Int) ∈ (bareT [0, 7]).map (·.1) := by decide
    refine fun dp hdp e he => ?_
    obtain ⟨p1, p2, p3⟩ := disp1 (j := 0) (hbE (Ex.refl H1)) hdp he
    refine ⟨p1, [(.inl 0, .ref e)], rfl, by show 1 ≤ 15; decide, ?_⟩
    rw [show mergeK [] [((Sum.inl 0 : Key), V.ref e)] = [((Sum.inl 0 : Key), V.ref e)] from rfl]
    refine fun l dxl g1 g2 g3 => ?_
    refine lay_newK p3 ok1 in1 (hbE p2) g1 g2 g3 fun H2 s x2 hs hlay _ => ⟨rfl, ?_⟩
    rw [srt_same hs ly1 ok1] at hlay
    have x02 := p2.trans x2
    have hlE : ∃ dx R, H2 l = some (.ins C dx (layFs R 0)) := by obtain ⟨dx, R, _, h1, _⟩ := hlay; exact ⟨dx, R, h1⟩
    obtain ⟨dx, R, hl⟩ := hlE
    refine ⟨l, dx, _, rfl, hl, l, b, _, 0, rfl, hlay, 1, rfl, by decide, ?_⟩
    refine ⟨rfl, _, rfl, ?_⟩
    refine iteT ?_
    refine fun dp2 hdp2 e2 he2 => ?_
    obtain ⟨p4, p5, p6⟩ := disp1 (j := 0) (hbE x02) hdp2 he2
    refine ⟨p4, [(.inl 0, .ref e2)], rfl, by show 1 ≤ 15; decide, ?_⟩
    rw [show mergeK [] [((Sum.inl 0 : Key), V.ref e2)] = [((Sum.inl 0 : Key), V.ref e2)] from rfl]
    refine fun l2 dxl2 g1 g2 g3 => ?_
    refine lay_newK p6 ok1 in1 (hbE (x02.trans p5)) g1 g2 g3 fun H3 s2 x3 hs2 hlay2 _ => ⟨rfl, ?_⟩
    have hlE : ∃ dx R, H3 l2 = some (.ins C dx (layFs R 0)) := by obtain ⟨dx, R, _, h1, _⟩ := hlay2; exact ⟨dx, R, h1⟩
    obtain ⟨dx2, R2, hl2⟩ := hlE
    have x03 := x02.trans (p5.trans x3)
    refine ⟨l2, dx2, _, rfl, hl2, l2, b, _, 0, rfl, hlay2, ?_⟩
    refine ⟨rfl, _, rfl, ?_⟩
    refine iteT ?_
    refine fun dp3 hdp3 e3 he3 e4 he4 => ?_
    obtain ⟨p7, p8, p9⟩ := disp2 (i := 0) (j := 7) (hbE x03) hdp3 he3 he4
    refine ⟨p7, [(.inl 0, .ref e3), (.inl 7, .ref e4)], rfl, by show 2 ≤ 15; decide, ?_⟩
    rw [show mergeK [] [((Sum.inl 0 : Key), V.ref e3), ((Sum.inl 7 : Key), V.ref e4)] = [((Sum.inl 0 : Key), V.ref e3), ((Sum.inl 7 : Key), V.ref e4)] from rfl]
    refine ⟨rfl, rfl, fun l3 dx3 g1 g2 g3 => ?_⟩
    refine lay_newK p9 ok2 in2 (hbE (x03.trans p8)) g1 g2 g3 fun H4 s3 x4 hs3 hlay3 _ => ⟨rfl, ?_⟩
    rw [srt_same hs3 ly2 ok2] at hlay3
    have hlE : ∃ dx R, H4 l3 = some (.ins C dx (layFs R 7)) := by obtain ⟨dx, R, _, h1, _⟩ := hlay3; exact ⟨dx, R, h1⟩
    obtain ⟨dx4, R4, hl3⟩ := hlE
    refine ⟨l3, dx4, _, rfl, hl3, lk_seen, l3, b, _, 7, rfl, hlay3, ok2, in2, fun H5 q ys e5 nq hq5 hperm hpw => ?_⟩
    have hys : ys = [7] := List.perm_singleton.mp (hperm.trans (by rw [show bfs (bareT [0, 7]) 7 = [7] by decide +kernel]))
    subst hys
    refine ⟨by show 1 ≤ sizeLine; decide, fun r hr => ?_⟩
    have sb := shaped_lst (f := PyData.int) (l := [(7 : Int)]) fun a _ => lay_int a
    have x5 : Ex H5 (upd H5 r (.lst [V.int 7])) := Ex.new hr
    refine ⟨_, _, .lst (SqL.of (x5 _ _ hq5)) (dpall_map fun z => .int z), .lst (SqL.of upd_same) (dpall_map (zs := [(7 : Int)]) (g := V.int) (f := PyData.int) fun z => .int z), sb.1, sb.1, ?_⟩
    rw [sb.2]
    exact hq _
end
end KC

set_option Elab.async false
set_option linter.all false
set_option maxRecDepth 100000
set_option maxHeartbeats 4000000
namespace LF
open PySem PySem.Spec PyProof.Rows L2
/-- the heap at the law's entry: what a promise that is asked where no repr is under way gives -/
theorem lawG_call {P : Program} {w : World} {K : PySem.W.Frag} {mg mb : Str → Option Value} {k : Nat} {fa a : Addr} {fd : FuncData} {x : Str} {sp : Sp} {s1 : Shared} {us : List Value} {ns : List Int}
    (KX : K.In s1.heap) (hns : s1.heap.Ns mainGlobals mg) (hbn : s1.heap.Ns builtinsNs mb) (hbb : ∀ y : Str, y ≠ "__name__" → mb y = bootBuiltins y) (hlim : s1.heap.NoLimit) (hgens : s1.gens = #[])
    (ha : s1.heap.get? a = some { cls := .type "list", data := .seq us.toArray }) (hi : IntsAre us ns) (hl : ns.length ≤ sizeLine) (hr : Room k callerA)
    (F : ∀ base : Heap, K.In base → base.Ns mainGlobals mg → FnG P w K mg base CX0 k fa fd [x] sp)
    (hbind : ∀ (s : Shared) (u : Value), BindsTo s fd ⟨[u], []⟩ [(x, u)])
    (hsp : ∀ H : Hp, SqL K H a (ns.map V.int) → sp [.ref a] H (fun v _ => v = .bl true) (fun _ _ _ => False)) :
    codeAny (model P w) callerA (.call (.ref fa) ⟨[.ref a], []⟩)
      (fun r s' => r = .ok (.ret (.bool true)) ∧ OldK s1.heap s'.heap ∧ s'.os = s1.os ∧ AllBare s'.gens) s1 := by
  have hlv := hi.length
  -- from any abstract heap that tracks at most the script
  have main : ∀ H : Hp, (∀ b, H b = none ∨ ∃ o xs, H b = some (.frz o (.lst xs))) → SqL K H a (ns.map V.int) → HOk P w H s1.heap → (∀ b, H b ≠ none → b = a) → (H a ≠ none → K.lookup a = none) →
      codeAny (model P w) callerA (.call (.ref fa) ⟨[.ref a], []⟩)
        (fun r s' => r = .ok (.ret (.bool true)) ∧ OldK s1.heap s'.heap ∧ s'.os = s1.os ∧ AllBare s'.gens) s1 := by
    intro H only hS hok onlyA notK
    have dictFree : ∀ {b : Addr} {o : Obj} {es : Array DictEntry} {ep : Nat}, s1.heap.get? b = some o → o.data = .dict es ep → H b = none := by
      intro b o es ep e d
      cases q : H b with
      | none => rfl
      | some u =>
        have hb := onlyA b (by rw [q]; simp)
        rw [hb, ha] at e
        have e' := Option.some.inj e
        rw [← e'] at d
        cases d
    have nsH : ∀ {b : Addr} {m : Str → Option Value}, s1.heap.Ns b m → (hidT s1.heap H).Ns b m := by
      rintro b m ⟨o, es, ep, e, d, rest⟩
      exact ⟨o, es, ep, hidT_get e (dictFree e d), d, rest⟩
    have KH : K.In (hidT s1.heap H) := by
      intro b o e
      refine hidT_get (KX b o e) ?_
      cases q : H b with
      | none => rfl
      | some u =>
        have hb := onlyA b (by rw [q]; simp)
        subst hb
        have := notK (by rw [q]; simp)
        rw [this] at e
        cases e
    have lim2 : (hidT s1.heap H).NoLimit := by
      obtain ⟨mc, h1, h2⟩ := hlim
      exact ⟨mc, nsH h1, h2⟩
    have hM : Mod K mg (hidT s1.heap H) := ⟨KH, nsH hns, ⟨mb, nsH hbn, hbb⟩, lim2⟩
    have nof : ∀ b : Addr, b ∈ frs ([] : List Env) → False := fun b hb => nomatch (show b ∈ ([] : List Addr) from hb)
    have e0 : Env0 P w K mg (hidT s1.heap H) callerA [] s1 H :=
      ⟨rfl, hM, fun b o e => of_hidT e, Nat.le_of_eq (hidT_size _ _), trivial, fun b hb => (nof b hb).elim, hok, .of_eq hgens⟩
    have run := (F _ KH (nsH hns)).go callerA [] s1 H ⟨[.ref a], []⟩ [.ref a] [.ref a] _ _ rfl hr e0 (hbind s1 (.ref a)) (.cons rfl .nil) (hsp H hS)
    refine codeAny_mono run ?_
    intro r s' h
    cases r with
    | error e => exact h.elim
    | ok fl =>
      cases fl with
      | next => exact h.elim
      | brk => exact h.elim
      | cont => exact h.elim
      | ret u =>
        obtain ⟨v, H', hos, hbare, un, hok', hv, hq⟩ := h
        have hq' : v = V.bl true := hq
        subst hq'
        have hu : u = Value.bool true := hv
        subst hu
        refine ⟨rfl, OldK.of_keep ?_, hos, hbare⟩
        intro b o e
        rcases only b with q | ⟨ob, xs, q⟩
        · exact un.keep b o e q (fun z => nof b z) (fun z => nomatch z)
        · have g1 := (hok b _ q).1
          have g2 := (hok' b _ (un.frzs b ob _ q)).1
          rw [e] at g1
          rw [Option.some.inj g1]
          exact g2
  have rv := vals_ints hi
  cases hk : K.lookup a with
  | some o =>
    have e := KX a o hk
    rw [ha] at e
    have e' := Option.some.inj e
    subst e'
    refine main (fun _ => none) (fun _ => Or.inl rfl) (Or.inr ⟨_, us.toArray, _, hk, rfl, rfl, rfl, ?_, ?_⟩) (fun b u z => nomatch (show (none : Option HO) = some u from z)) (fun b z => absurd rfl z) (fun z => absurd rfl z)
    · rw [List.size_toArray, hlv]; exact hl
    · simpa using rv
  | none =>
    let O : Obj := { cls := .type "list", data := .seq us.toArray }
    have at1 : ∀ b : Addr, b = a → (fun c : Addr => if c = a then some (HO.frz O (.lst (ns.map V.int))) else none) b = some (HO.frz O (.lst (ns.map V.int))) := fun b hb => if_pos hb
    have at0 : ∀ b : Addr, b ≠ a → (fun c : Addr => if c = a then some (HO.frz O (.lst (ns.map V.int))) else none) b = none := fun b hb => if_neg hb
    refine main (fun c => if c = a then some (HO.frz O (.lst (ns.map V.int))) else none) ?_ (Or.inl (Or.inr ⟨O, at1 a rfl⟩)) ?_ ?_ (fun _ => hk)
    · intro b
      by_cases hb : b = a
      · exact Or.inr ⟨O, _, at1 b hb⟩
      · exact Or.inl (at0 b hb)
    · intro b u z
      by_cases hb : b = a
      · have z' := (at1 b hb).symm.trans z
        have z2 := Option.some.inj z'
        subst z2
        subst hb
        exact ⟨ha, by rw [List.length_map]; exact hl, us, _, rv, ha⟩
      · have z' := (at0 b hb).symm.trans z
        cases z'
    · intro b z
      by_cases hb : b = a
      · exact hb
      · exact absurd (at0 b hb) z
theorem walkG {l : PySem.W.OpenLaw} {n k : Nat} {q : Program} {loose : List Str} {XP : (Str → Option Value) → Heap → Prop} {YP : World → Heap → Prop} {d : DefRec} {K : Params → PySem.W.Frag} {sp : PySem.W.Frag → Sp} {x : Str}
    (hn : l.most = some n) (hn2 : n ≤ sizeLine) (hdf : d.params.defaults = []) (hr : Room k callerA) (hY : ∀ (w : World) (h : Heap), YP w h → (K w.params).In h)
    (F : ∀ (w : World) (mg : Str → Option Value) (fa : Addr) (h : Heap), (K w.params).In h → h.Ns mainGlobals mg → mg d.name = some (.ref fa) →
      ∃ fd : FuncData, (∀ (s : Shared) (u : Value), BindsTo s fd ⟨[u], []⟩ [(x, u)]) ∧
        ∀ base : Heap, (K w.params).In base → base.Ns mainGlobals mg → FnG l.prog w (K w.params) mg base CX0 k fa fd [x] (sp (K w.params)))
    (hsp : ∀ (K : PySem.W.Frag) (H : Hp) (a : Addr) (ns : List Int), ns.length ≤ n → SqL K H a (ns.map V.int) → sp K [.ref a] H (fun v _ => v = .bl true) (fun _ _ _ => False)) :
    PySem.W.WalkO q loose XP YP l.row.toRowW d [] (fun f vs => PySem.call f vs) := by
  refine Att.attach_call hn hdf ?_
  intro w s₀ s₁ mg mb fa o pm cd doc a us ns G Y ho hd hcd hmg hobj hints hlen hgens
  have KX := hY w _ Y
  obtain ⟨fd, hb, hF⟩ := F w mg fa _ KX G.T.g hmg
  exact lawG_call KX G.T.g G.T.b G.T.builtins G.T.nolimit hgens hobj hints (Nat.le_trans hlen hn2) hr hF hb (fun H hS => hsp _ H a ns hlen hS)
end LF

set_option Elab.async false
set_option linter.all false
set_option maxRecDepth 100000
set_option maxHeartbeats 4000000
namespace KC
open PySem PySem.Spec PyProof.Rows L2 LF
theorem all_mk {P : Program} {w : World} {K : PySem.W.Frag} {h : Heap} {mg : Str → Option Value} {fa f1 f2 f3 f4 f5 f6 f7 f8 f9 f10 f11 f12 f13 f14 f15 f16 f17 f18 f19 f20 f21 f22 f23 : Addr} (X : K.In h) (G : h.Ns mainGlobals mg) (hfa : mg "law" = some (.ref fa))
    {tk2 : Tok} {od1 an1 od2 an2 od3 an3 od4 an4 od5 an5 od6 an6 od7 an7 od8 an8 od9 an9 od10 an10 od11 an11 od12 an12 od13 an13 od14 an14 od15 an15 od16 an16 od17 an17 od18 an18 od19 an19 od20 an20 od21 an21 od22 an22 od23 an23 : Option Addr} {sl1 sl2 sl3 sl4 sl5 sl6 sl7 sl8 sl9 sl10 sl11 sl12 sl13 sl14 sl15 sl16 sl17 sl18 sl19 sl20 sl21 sl22 sl23 : Array (Option Value)} {oc1 kV1 dc1 pm1 cd1 ct1 oc2 kV2 dc2 pm2 cd2 ct2 oc3 kV3 dc3 pm3 cd3 ct3 oc4 kV4 dc4 pm4 cd4 ct4 oc5 kV5 dc5 pm5 cd5 ct5 oc6 kV6 dc6 pm6 cd6 ct6 oc7 kV7 dc7 pm7 cd7 ct7 oc8 kV8 dc8 pm8 cd8 ct8 oc9 kV9 dc9 pm9 cd9 ct9 oc10 kV10 dc10 pm10 cd10 ct10 oc11 kV11 dc11 pm11 cd11 ct11 oc12 kV12 dc12 pm12 cd12 ct12 oc13 kV13 dc13 pm13 cd13 ct13 oc14 kV14 dc14 pm14 cd14 ct14 oc15 kV15 dc15 pm15 cd15 ct15 oc16 kV16 dc16 pm16 cd16 ct16 oc17 kV17 dc17 pm17 cd17 ct17 oc18 kV18 dc18 pm18 cd18 ct18 oc19 kV19 dc19 pm19 cd19 ct19 oc20 kV20 dc20 pm20 cd20 ct20 oc21 kV21 dc21 pm21 cd21 ct21 oc22 kV22 dc22 pm22 cd22 ct22 oc23 kV23 dc23 pm23 cd23 ct23 : Value} {C fI KD gT pT gB gE gS gG gN gL gR : Addr} {tkd : Tok} {rT : List Value} {odI anI odT anT odB anB odE anE odS anS odG anG odN anN odL anL odR anR : Option Addr} {slI slT slB slE slS slG slN slL slR : Array (Option Value)} {ocI dcI pmI cdI ctI ocT kVT dcT pmT cdT ctT ocB kVB dcB pmB cdB ctB ocE kVE dcE pmE cdE ctE ocS kVS dcS pmS cdS ctS ocG kVG dcG pmG cdG ctG ocN kVN dcN pmN cdN ctN ocL kVL dcL pmL cdL ctL ocR kVR dcR pmR cdR ctR : Value}
    (zI0 : PySem.W.nsIn K mainGlobals "LONGEST_NAME" = some (some (.int 8 tk2)))
    (z_isinstance : PySem.W.nsIn K mainGlobals "isinstance" = some none)
    (z_str : PySem.W.nsIn K mainGlobals "str" = some none)
    (z_len : PySem.W.nsIn K mainGlobals "len" = some none)
    (z_all : PySem.W.nsIn K mainGlobals "all" = some none)
    (z_any : PySem.W.nsIn K mainGlobals "any" = some none)
    (z_tuple : PySem.W.nsIn K mainGlobals "tuple" = some none)
    (z_list : PySem.W.nsIn K mainGlobals "list" = some none)
    (z_dict : PySem.W.nsIn K mainGlobals "dict" = some none)
    (z_sorted : PySem.W.nsIn K mainGlobals "sorted" = some none)
    (z_range : PySem.W.nsIn K mainGlobals "range" = some none)
    (z_zip : PySem.W.nsIn K mainGlobals "zip" = some none)
    (z_enumerate : PySem.W.nsIn K mainGlobals "enumerate" = some none)
    (z_set : PySem.W.nsIn K mainGlobals "set" = some none)
    (z_abs : PySem.W.nsIn K mainGlobals "abs" = some none)
    (z_int : PySem.W.nsIn K mainGlobals "int" = some none)
    (z_bool : PySem.W.nsIn K mainGlobals "bool" = some none)
    (z_repr : PySem.W.nsIn K mainGlobals "repr" = some none)
    (z_max : PySem.W.nsIn K mainGlobals "max" = some none)
    (z_min : PySem.W.nsIn K mainGlobals "min" = some none)
    (z_ValueError : PySem.W.nsIn K mainGlobals "ValueError" = some none)
    (z_sum : PySem.W.nsIn K mainGlobals "sum" = some none)
    (a1 : PySem.W.nsIn K mainGlobals "is_name" = some (some (.ref f1)))
    (l1 : K.lookup f1 = some ⟨oc1, od1, .func (PySem.W.fnOf "is_name" "is_name" (defArgs s_is_name) (defBody s_is_name) (defScope s_is_name) .none kV1 dc1 pm1 an1 cd1 ct1), sl1⟩)
    (c1 : PySem.W.codeIn K cd1 "is_name" = true)
    (k1 : PySem.W.keepIn K (.ref f1) = true)
    (a2 : PySem.W.nsIn K mainGlobals "is_path" = some (some (.ref f2)))
    (l2 : K.lookup f2 = some ⟨oc2, od2, .func (PySem.W.fnOf "is_path" "is_path" (defArgs s_is_path) (defBody s_is_path) (defScope s_is_path) .none kV2 dc2 pm2 an2 cd2 ct2), sl2⟩)
    (c2 : PySem.W.codeIn K cd2 "is_path" = true)
    (k2 : PySem.W.keepIn K (.ref f2) = true)
    (a3 : PySem.W.nsIn K mainGlobals "is_integer" = some (some (.ref f3)))
    (l3 : K.lookup f3 = some ⟨oc3, od3, .func (PySem.W.fnOf "is_integer" "is_integer" (defArgs s_is_integer) (defBody s_is_integer) (defScope s_is_integer) .none kV3 dc3 pm3 an3 cd3 ct3), sl3⟩)
    (c3 : PySem.W.codeIn K cd3 "is_integer" = true)
    (k3 : PySem.W.keepIn K (.ref f3) = true)
    (a4 : PySem.W.nsIn K mainGlobals "is_joint" = some (some (.ref f4)))
    (l4 : K.lookup f4 = some ⟨oc4, od4, .func (PySem.W.fnOf "is_joint" "is_joint" (defArgs s_is_joint) (defBody s_is_joint) (defScope s_is_joint) .none kV4 dc4 pm4 an4 cd4 ct4), sl4⟩)
    (c4 : PySem.W.codeIn K cd4 "is_joint" = true)
    (k4 : PySem.W.keepIn K (.ref f4) = true)
    (a5 : PySem.W.nsIn K mainGlobals "is_place_in_package" = some (some (.ref f5)))
    (l5 : K.lookup f5 = some ⟨oc5, od5, .func (PySem.W.fnOf "is_place_in_package" "is_place_in_package" (defArgs s_is_place_in_package) (defBody s_is_place_in_package) (defScope s_is_place_in_package) .none kV5 dc5 pm5 an5 cd5 ct5), sl5⟩)
    (c5 : PySem.W.codeIn K cd5 "is_place_in_package" = true)
    (k5 : PySem.W.keepIn K (.ref f5) = true)
    (a6 : PySem.W.nsIn K mainGlobals "check_tables" = some (some (.ref f6)))
    (l6 : K.lookup f6 = some ⟨oc6, od6, .func (PySem.W.fnOf "check_tables" "check_tables" (defArgs s_check_tables) (defBody s_check_tables) (defScope s_check_tables) .none kV6 dc6 pm6 an6 cd6 ct6), sl6⟩)
    (c6 : PySem.W.codeIn K cd6 "check_tables" = true)
    (k6 : PySem.W.keepIn K (.ref f6) = true)
    (a7 : PySem.W.nsIn K mainGlobals "is_target_in" = some (some (.ref f7)))
    (l7 : K.lookup f7 = some ⟨oc7, od7, .func (PySem.W.fnOf "is_target_in" "is_target_in" (defArgs s_is_target_in) (defBody s_is_target_in) (defScope s_is_target_in) .none kV7 dc7 pm7 an7 cd7 ct7), sl7⟩)
    (c7 : PySem.W.codeIn K cd7 "is_target_in" = true)
    (k7 : PySem.W.keepIn K (.ref f7) = true)
    (a8 : PySem.W.nsIn K mainGlobals "sorted_row" = some (some (.ref f8)))
    (l8 : K.lookup f8 = some ⟨oc8, od8, .func (PySem.W.fnOf "sorted_row" "sorted_row" (defArgs s_sorted_row) (defBody s_sorted_row) (defScope s_sorted_row) .none kV8 dc8 pm8 an8 cd8 ct8), sl8⟩)
    (c8 : PySem.W.codeIn K cd8 "sorted_row" = true)
    (k8 : PySem.W.keepIn K (.ref f8) = true)
    (a9 : PySem.W.nsIn K mainGlobals "joints_from" = some (some (.ref f9)))
    (l9 : K.lookup f9 = some ⟨oc9, od9, .func (PySem.W.fnOf "joints_from" "joints_from" (defArgs s_joints_from) (defBody s_joints_from) (defScope s_joints_from) .none kV9 dc9 pm9 an9 cd9 ct9), sl9⟩)
    (c9 : PySem.W.codeIn K cd9 "joints_from" = true)
    (k9 : PySem.W.keepIn K (.ref f9) = true)
    (a10 : PySem.W.nsIn K mainGlobals "_law_bag" = some (some (.ref f10)))
    (l10 : K.lookup f10 = some ⟨oc10, od10, .func (PySem.W.fnOf "_law_bag" "_law_bag" (defArgs s__law_bag) (defBody s__law_bag) (defScope s__law_bag) .none kV10 dc10 pm10 an10 cd10 ct10), sl10⟩)
    (c10 : PySem.W.codeIn K cd10 "_law_bag" = true)
    (k10 : PySem.W.keepIn K (.ref f10) = true)
    (a11 : PySem.W.nsIn K mainGlobals "_law_take" = some (some (.ref f11)))
    (l11 : K.lookup f11 = some ⟨oc11, od11, .func (PySem.W.fnOf "_law_take" "_law_take" (defArgs s__law_take) (defBody s__law_take) (defScope s__law_take) .none kV11 dc11 pm11 an11 cd11 ct11), sl11⟩)
    (c11 : PySem.W.codeIn K cd11 "_law_take" = true)
    (k11 : PySem.W.keepIn K (.ref f11) = true)
    (a12 : PySem.W.nsIn K mainGlobals "_law_pick" = some (some (.ref f12)))
    (l12 : K.lookup f12 = some ⟨oc12, od12, .func (PySem.W.fnOf "_law_pick" "_law_pick" (defArgs s__law_pick) (defBody s__law_pick) (defScope s__law_pick) .none kV12 dc12 pm12 an12 cd12 ct12), sl12⟩)
    (c12 : PySem.W.codeIn K cd12 "_law_pick" = true)
    (k12 : PySem.W.keepIn K (.ref f12) = true)
    (a13 : PySem.W.nsIn K mainGlobals "_law_words" = some (some (.ref f13)))
    (l13 : K.lookup f13 = some ⟨oc13, od13, .func (PySem.W.fnOf "_law_words" "_law_words" (defArgs s__law_words) (defBody s__law_words) (defScope s__law_words) .none kV13 dc13 pm13 an13 cd13 ct13), sl13⟩)
    (c13 : PySem.W.codeIn K cd13 "_law_words" = true)
    (k13 : PySem.W.keepIn K (.ref f13) = true)
    (a14 : PySem.W.nsIn K mainGlobals "_law_joined" = some (some (.ref f14)))
    (l14 : K.lookup f14 = some ⟨oc14, od14, .func (PySem.W.fnOf "_law_joined" "_law_joined" (defArgs s__law_joined) (defBody s__law_joined) (defScope s__law_joined) .none kV14 dc14 pm14 an14 cd14 ct14), sl14⟩)
    (c14 : PySem.W.codeIn K cd14 "_law_joined" = true)
    (k14 : PySem.W.keepIn K (.ref f14) = true)
    (a15 : PySem.W.nsIn K mainGlobals "_law_entries" = some (some (.ref f15)))
    (l15 : K.lookup f15 = some ⟨oc15, od15, .func (PySem.W.fnOf "_law_entries" "_law_entries" (defArgs s__law_entries) (defBody s__law_entries) (defScope s__law_entries) .none kV15 dc15 pm15 an15 cd15 ct15), sl15⟩)
    (c15 : PySem.W.codeIn K cd15 "_law_entries" = true)
    (k15 : PySem.W.keepIn K (.ref f15) = true)
    (a16 : PySem.W.nsIn K mainGlobals "_law_farm" = some (some (.ref f16)))
    (l16 : K.lookup f16 = some ⟨oc16, od16, .func (PySem.W.fnOf "_law_farm" "_law_farm" (defArgs s__law_farm) (defBody s__law_farm) (defScope s__law_farm) .none kV16 dc16 pm16 an16 cd16 ct16), sl16⟩)
    (c16 : PySem.W.codeIn K cd16 "_law_farm" = true)
    (k16 : PySem.W.keepIn K (.ref f16) = true)
    (a17 : PySem.W.nsIn K mainGlobals "_law_is_plain" = some (some (.ref f17)))
    (l17 : K.lookup f17 = some ⟨oc17, od17, .func (PySem.W.fnOf "_law_is_plain" "_law_is_plain" (defArgs s__law_is_plain) (defBody s__law_is_plain) (defScope s__law_is_plain) .none kV17 dc17 pm17 an17 cd17 ct17), sl17⟩)
    (c17 : PySem.W.codeIn K cd17 "_law_is_plain" = true)
    (k17 : PySem.W.keepIn K (.ref f17) = true)
    (a18 : PySem.W.nsIn K mainGlobals "_law_places" = some (some (.ref f18)))
    (l18 : K.lookup f18 = some ⟨oc18, od18, .func (PySem.W.fnOf "_law_places" "_law_places" (defArgs s__law_places) (defBody s__law_places) (defScope s__law_places) .none kV18 dc18 pm18 an18 cd18 ct18), sl18⟩)
    (c18 : PySem.W.codeIn K cd18 "_law_places" = true)
    (k18 : PySem.W.keepIn K (.ref f18) = true)
    (a19 : PySem.W.nsIn K mainGlobals "_law_drawn" = some (some (.ref f19)))
    (l19 : K.lookup f19 = some ⟨oc19, od19, .func (PySem.W.fnOf "_law_drawn" "_law_drawn" (defArgs s__law_drawn) (defBody s__law_drawn) (defScope s__law_drawn) .none kV19 dc19 pm19 an19 cd19 ct19), sl19⟩)
    (c19 : PySem.W.codeIn K cd19 "_law_drawn" = true)
    (k19 : PySem.W.keepIn K (.ref f19) = true)
    (a20 : PySem.W.nsIn K mainGlobals "_law_seen" = some (some (.ref f20)))
    (l20 : K.lookup f20 = some ⟨oc20, od20, .func (PySem.W.fnOf "_law_seen" "_law_seen" (defArgs s__law_seen) (defBody s__law_seen) (defScope s__law_seen) .none kV20 dc20 pm20 an20 cd20 ct20), sl20⟩)
    (c20 : PySem.W.codeIn K cd20 "_law_seen" = true)
    (k20 : PySem.W.keepIn K (.ref f20) = true)
    (a21 : PySem.W.nsIn K mainGlobals "_law_asked_right" = some (some (.ref f21)))
    (l21 : K.lookup f21 = some ⟨oc21, od21, .func (PySem.W.fnOf "_law_asked_right" "_law_asked_right" (defArgs s__law_asked_right) (defBody s__law_asked_right) (defScope s__law_asked_right) .none kV21 dc21 pm21 an21 cd21 ct21), sl21⟩)
    (c21 : PySem.W.codeIn K cd21 "_law_asked_right" = true)
    (k21 : PySem.W.keepIn K (.ref f21) = true)
    (a22 : PySem.W.nsIn K mainGlobals "_law_right" = some (some (.ref f22)))
    (l22 : K.lookup f22 = some ⟨oc22, od22, .func (PySem.W.fnOf "_law_right" "_law_right" (defArgs s__law_right) (defBody s__law_right) (defScope s__law_right) .none kV22 dc22 pm22 an22 cd22 ct22), sl22⟩)
    (c22 : PySem.W.codeIn K cd22 "_law_right" = true)
    (k22 : PySem.W.keepIn K (.ref f22) = true)
    (a23 : PySem.W.nsIn K mainGlobals "law" = some (some (.ref f23)))
    (l23 : K.lookup f23 = some ⟨oc23, od23, .func (PySem.W.fnOf "law" "law" (defArgs s_law) (defBody s_law) (defScope s_law) .none kV23 dc23 pm23 an23 cd23 ct23), sl23⟩)
    (c23 : PySem.W.codeIn K cd23 "law" = true)
    (k23 : PySem.W.keepIn K (.ref f23) = true)
    (aC : PySem.W.nsIn K mainGlobals "Layout" = some (some (.ref C)))
    (pg : PySem.W.plainGet K C Str.empty = true)
    (hdC : PySem.W.hasDictIn K C = true)
    (po : PySem.W.plainOver K C = true)
    (saC : PySem.W.findIn K (.ref C) "__setattr__" = some (some (.builtin "object.__setattr__")))
    (mkC : PySem.W.makesIn K C = true)
    (kcC : PySem.W.keepIn K (.ref C) = true)
    (nR : PySem.W.findIn K (.ref C) "rows" = some none)
    (nP : PySem.W.findIn K (.ref C) "peak" = some none)
    (aI : PySem.W.findIn K (.ref C) "__init__" = some (some (.ref fI)))
    (iI : PySem.W.isFn K (.ref fI) = true)
    (lI : K.lookup fI = some ⟨ocI, odI, .func (PySem.W.fnOf "__init__" "Layout.__init__" (defArgs s_init) (defBody s_init) (defScope s_init) .none (.ref KD) dcI pmI anI cdI ctI), slI⟩)
    (cI : PySem.W.codeIn K cdI "Layout.__init__" = true)
    (kI : PySem.W.keepIn K (.ref fI) = true)
    (zKD : PySem.W.nsIn K KD "top" = some (some (.int 0 tkd)))
    (apT : PySem.W.findIn K (.ref C) "top" = some (some (.ref pT)))
    (gpT : PySem.W.specialIn K (.ref pT) "__get__" = some (some (.builtin "property.__get__")))
    (tpT : PySem.W.takesIn K (.ref pT) = some true)
    (rpT : PySem.W.recIn K pT "property" = some (.ref gT :: rT))
    (lT : K.lookup gT = some ⟨ocT, odT, .func (PySem.W.fnOf "top" "Layout.top" (defArgs s_top) (defBody s_top) (defScope s_top) .none kVT dcT pmT anT cdT ctT), slT⟩)
    (cT : PySem.W.codeIn K cdT "Layout.top" = true)
    (kT : PySem.W.keepIn K (.ref gT) = true)
    (apB : PySem.W.findIn K (.ref C) "tables" = some (some (.ref gB)))
    (ipB : PySem.W.isFn K (.ref gB) = true)
    (lB : K.lookup gB = some ⟨ocB, odB, .func (PySem.W.fnOf "tables" "Layout.tables" (defArgs s_tables) (defBody s_tables) (defScope s_tables) .none kVB dcB pmB anB cdB ctB), slB⟩)
    (cB : PySem.W.codeIn K cdB "Layout.tables" = true)
    (kB : PySem.W.keepIn K (.ref gB) = true)
    (apE : PySem.W.findIn K (.ref C) "__eq__" = some (some (.ref gE)))
    (ipE : PySem.W.isFn K (.ref gE) = true)
    (lE : K.lookup gE = some ⟨ocE, odE, .func (PySem.W.fnOf "__eq__" "Layout.__eq__" (defArgs s_eq) (defBody s_eq) (defScope s_eq) .none kVE dcE pmE anE cdE ctE), slE⟩)
    (cE : PySem.W.codeIn K cdE "Layout.__eq__" = true)
    (kE : PySem.W.keepIn K (.ref gE) = true)
    (apS : PySem.W.findIn K (.ref C) "seen" = some (some (.ref gS)))
    (ipS : PySem.W.isFn K (.ref gS) = true)
    (lS : K.lookup gS = some ⟨ocS, odS, .func (PySem.W.fnOf "seen" "Layout.seen" (defArgs s_seen) (defBody s_seen) (defScope s_seen) .none kVS dcS pmS anS cdS ctS), slS⟩)
    (cS : PySem.W.codeIn K cdS "Layout.seen" = true)
    (kS : PySem.W.keepIn K (.ref gS) = true)
    (apG : PySem.W.findIn K (.ref C) "links" = some (some (.ref gG)))
    (ipG : PySem.W.isFn K (.ref gG) = true)
    (lG : K.lookup gG = some ⟨ocG, odG, .func (PySem.W.fnOf "links" "Layout.links" (defArgs s_links) (defBody s_links) (defScope s_links) .none kVG dcG pmG anG cdG ctG), slG⟩)
    (cG : PySem.W.codeIn K cdG "Layout.links" = true)
    (kG : PySem.W.keepIn K (.ref gG) = true)
    (apN : PySem.W.findIn K (.ref C) "__contains__" = some (some (.ref gN)))
    (ipN : PySem.W.isFn K (.ref gN) = true)
    (lN : K.lookup gN = some ⟨ocN, odN, .func (PySem.W.fnOf "__contains__" "Layout.__contains__" (defArgs s_contains) (defBody s_contains) (defScope s_contains) .none kVN dcN pmN anN cdN ctN), slN⟩)
    (cN : PySem.W.codeIn K cdN "Layout.__contains__" = true)
    (kN : PySem.W.keepIn K (.ref gN) = true)
    (apL : PySem.W.findIn K (.ref C) "__len__" = some (some (.ref gL)))
    (ipL : PySem.W.isFn K (.ref gL) = true)
    (lL : K.lookup gL = some ⟨ocL, odL, .func (PySem.W.fnOf "__len__" "Layout.__len__" (defArgs s_len) (defBody s_len) (defScope s_len) .none kVL dcL pmL anL cdL ctL), slL⟩)
    (cL : PySem.W.codeIn K cdL "Layout.__len__" = true)
    (kL : PySem.W.keepIn K (.ref gL) = true)
    (apR : PySem.W.findIn K (.ref C) "__repr__" = some (some (.ref gR)))
    (ipR : PySem.W.isFn K (.ref gR) = true)
    (lR : K.lookup gR = some ⟨ocR, odR, .func (PySem.W.fnOf "__repr__" "Layout.__repr__" (defArgs s_repr) (defBody s_repr) (defScope s_repr) .none kVR dcR pmR anR cdR ctR), slR⟩)
    (cR : PySem.W.codeIn K cdR "Layout.__repr__" = true)
    (kR : PySem.W.keepIn K (.ref gR) = true)
    (haC : PySem.W.findIn K (.ref C) "__class__" = some (some (.builtin "object.__class__")))
    (hnC : PySem.W.specialIn K (.builtin "object.__class__") "__get__" = some (some (.builtin "getset_descriptor.__get__")))
    (htC : PySem.W.takesIn K (.builtin "object.__class__") = some true)
    (hmC : PySem.W.mroIn K C (.type "object") = some true)
    (kCC : PySem.W.kitOne K (.ref C) (.ref C) = some true)
    (kCI : PySem.W.kitOne K (.ref C) (.type "int") = some false)
    (kDC : PySem.W.kitOne K (.type "dict") (.ref C) = some false)
    (kSC : PySem.W.kitOne K (.type "str") (.ref C) = some false)
    (nDC : PySem.W.subIn K (.type "dict") (.ref C) = some false)
    (nSC : PySem.W.subIn K (.type "str") (.ref C) = some false) :
    ∃ fd : FuncData, (∀ (s : Shared) (u : Value), BindsTo s fd ⟨[u], []⟩ [("_law_script", u)]) ∧ ∀ base : Heap, K.In base → base.Ns mainGlobals mg → FnG P w K mg base CX0 10 fa fd ["_law_script"] (spLaw K) := by
  have e := hfa.symm.trans (PySem.W.mg_of X G a23)
  cases e
  have F1 := fun_mk (st := s_is_name) l1 c1 k1
  have b1 := F1.binds (ps := ["thing"]) fun _ _ _ _ _ _ us hl => match us, hl with | [_], _ => rfl
  have F2 := fun_mk (st := s_is_path) l2 c2 k2
  have b2 := F2.binds (ps := ["thing"]) fun _ _ _ _ _ _ us hl => match us, hl with | [_], _ => rfl
  have F3 := fun_mk (st := s_is_integer) l3 c3 k3
  have b3 := F3.binds (ps := ["thing"]) fun _ _ _ _ _ _ us hl => match us, hl with | [_], _ => rfl
  have F4 := fun_mk (st := s_is_joint) l4 c4 k4
  have b4 := F4.binds (ps := ["thing"]) fun _ _ _ _ _ _ us hl => match us, hl with | [_], _ => rfl
  have F5 := fun_mk (st := s_is_place_in_package) l5 c5 k5
  have b5 := F5.binds (ps := ["thing"]) fun _ _ _ _ _ _ us hl => match us, hl with | [_], _ => rfl
  have F6 := fun_mk (st := s_check_tables) l6 c6 k6
  have b6 := F6.binds (ps := ["tables", "top"]) fun _ _ _ _ _ _ us hl => match us, hl with | [_, _], _ => rfl
  have F7 := fun_mk (st := s_is_target_in) l7 c7 k7
  have b7 := F7.binds (ps := ["rows", "thing"]) fun _ _ _ _ _ _ us hl => match us, hl with | [_, _], _ => rfl
  have F8 := fun_mk (st := s_sorted_row) l8 c8 k8
  have b8 := F8.binds (ps := ["table"]) fun _ _ _ _ _ _ us hl => match us, hl with | [_], _ => rfl
  have F9 := fun_mk (st := s_joints_from) l9 c9 k9
  have b9 := F9.binds (ps := ["layout"]) fun _ _ _ _ _ _ us hl => match us, hl with | [_], _ => rfl
  have F10 := fun_mk (st := s__law_bag) l10 c10 k10
  have b10 := F10.binds (ps := ["_law_script", "_law_at"]) fun _ _ _ _ _ _ us hl => match us, hl with | [_, _], _ => rfl
  have F11 := fun_mk (st := s__law_take) l11 c11 k11
  have b11 := F11.binds (ps := ["_law_bag_here", "_law_many"]) fun _ _ _ _ _ _ us hl => match us, hl with | [_, _], _ => rfl
  have F12 := fun_mk (st := s__law_pick) l12 c12 k12
  have b12 := F12.binds (ps := ["_law_bag_here", "_law_items"]) fun _ _ _ _ _ _ us hl => match us, hl with | [_, _], _ => rfl
  have F13 := fun_mk (st := s__law_words) l13 c13 k13
  have b13 := F13.binds (ps := ["_law_bag_here"]) fun _ _ _ _ _ _ us hl => match us, hl with | [_], _ => rfl
  have F14 := fun_mk (st := s__law_joined) l14 c14 k14
  have b14 := F14.binds (ps := ["_law_path", "_law_name"]) fun _ _ _ _ _ _ us hl => match us, hl with | [_, _], _ => rfl
  have F15 := fun_mk (st := s__law_entries) l15 c15 k15
  have b15 := F15.binds (ps := ["_law_bag_here", "_law_words_here", "_law_most", "_law_has_references"]) fun _ _ _ _ _ _ us hl => match us, hl with | [_, _, _, _], _ => rfl
  have F16 := fun_mk (st := s__law_farm) l16 c16 k16
  have b16 := F16.binds (ps := ["_law_bag_here", "_law_words_here", "_law_most", "_law_has_references"]) fun _ _ _ _ _ _ us hl => match us, hl with | [_, _, _, _], _ => rfl
  have F17 := fun_mk (st := s__law_is_plain) l17 c17 k17
  have b17 := F17.binds (ps := ["_law_entries_here", "_law_path"]) fun _ _ _ _ _ _ us hl => match us, hl with | [_, _], _ => rfl
  have F18 := fun_mk (st := s__law_places) l18 c18 k18
  have b18 := F18.binds (ps := ["_law_farm_here"]) fun _ _ _ _ _ _ us hl => match us, hl with | [_], _ => rfl
  have F19 := fun_mk (st := s__law_drawn) l19 c19 k19
  have b19 := F19.binds (ps := ["_law_bag_here", "_law_farm_here", "_law_words_here", "_law_most"]) fun _ _ _ _ _ _ us hl => match us, hl with | [_, _, _, _], _ => rfl
  have F20 := fun_mk (st := s__law_seen) l20 c20 k20
  have b20 := F20.binds (ps := ["_law_tables", "_law_head"]) fun _ _ _ _ _ _ us hl => match us, hl with | [_, _], _ => rfl
  have F21 := fun_mk (st := s__law_asked_right) l21 c21 k21
  have b21 := F21.binds (ps := ["_law_layout", "_law_tables", "_law_head"]) fun _ _ _ _ _ _ us hl => match us, hl with | [_, _, _], _ => rfl
  have F22 := fun_mk (st := s__law_right) l22 c22 k22
  have b22 := F22.binds (ps := ["_law_bag_here", "_law_tables", "_law_head"]) fun _ _ _ _ _ _ us hl => match us, hl with | [_, _, _], _ => rfl
  have F23 := fun_mk (st := s_law) l23 c23 k23
  have b23 := F23.binds (ps := ["_law_script"]) fun _ _ _ _ _ _ us hl => match us, hl with | [_], _ => rfl
  refine ⟨_, fun s u => .of_eq (fd := PySem.W.fnOf "law" "law" (defArgs s_law) (defBody s_law) (defScope s_law) .none kV23 dc23 pm23 an23 cd23 ct23) rfl, fun base _ _ => ?_⟩
  have T : Txt K mg tk2 tk2 := ⟨PySem.W.mg_of X G zI0, PySem.W.mg_none_of X G z_isinstance, PySem.W.mg_none_of X G z_str, PySem.W.mg_none_of X G z_len, PySem.W.mg_none_of X G z_all, PySem.W.mg_none_of X G z_any, PySem.W.mg_none_of X G z_tuple, PySem.W.mg_none_of X G z_list, PySem.W.mg_none_of X G z_dict, PySem.W.mg_none_of X G z_sorted, PySem.W.mg_none_of X G z_range, PySem.W.mg_none_of X G z_zip, PySem.W.mg_none_of X G z_enumerate, PySem.W.mg_none_of X G z_set, PySem.W.mg_none_of X G z_abs, PySem.W.mg_none_of X G z_int, PySem.W.mg_none_of X G z_bool, PySem.W.mg_none_of X G z_repr, PySem.W.mg_none_of X G z_max, PySem.W.mg_none_of X G z_min, PySem.W.mg_none_of X G z_ValueError⟩
  have R : LayTxt K mg C := ⟨⟨pg, hdC, po, saC⟩, nR, nP, PySem.W.mg_of X G aC⟩
  have LI : LayIs K C := ⟨haC, hnC, htC, hmC, kCC⟩
  have FI : FunD K "__init__" "Layout.__init__" (defArgs s_init) (defBody s_init) (defScope s_init) [] [("top", .int 0)] fI _ :=
    ⟨⟨_, _, _, _, _, _, _, _, _, _, rfl, lI, cI, Or.inl ⟨rfl, rfl⟩, Or.inr ⟨KD, rfl, fun q hq => by rw [List.mem_singleton.mp hq]; exact ⟨_, zKD, ⟨_, rfl⟩⟩⟩⟩, kI⟩
  obtain ⟨ds, hds, bI⟩ := FI.binds0 (ps := ["self", "tables", "top"]) 2 (by simp) rfl (fun D doc pm an cdv ct us ks h1 h2 => match us, ks, h1, h2 with | [_, _], [_], _, _ => ⟨_, _, _, _, _, _, rfl, rfl, rfl⟩)
  obtain ⟨mv, kbn⟩ := FI.kbinds0 (ps := ["self", "tables", "top"]) 2 ["top"] [] (fun us _ ws => us ++ ws) (by simp) (fun _ h => nomatch h) (fun r1 _ r3 => r1.append r3) (fun D doc pm an cdv ct us mv ws h1 h2 h3 => match us, mv, ws, h1, h2, h3 with | [_, _], [], [_], _, _, _ => rfl)
  have FMT := fun_mk (st := s_top) lT cT kT
  have bMT := FMT.binds (ps := ["self"]) fun _ _ _ _ _ _ us hl => match us, hl with | [_], _ => rfl
  have FMB := fun_mk (st := s_tables) lB cB kB
  have bMB := FMB.binds (ps := ["self"]) fun _ _ _ _ _ _ us hl => match us, hl with | [_], _ => rfl
  have FME := fun_mk (st := s_eq) lE cE kE
  have bME := FME.binds (ps := ["self", "other"]) fun _ _ _ _ _ _ us hl => match us, hl with | [_, _], _ => rfl
  have FMS := fun_mk (st := s_seen) lS cS kS
  have bMS := FMS.binds (ps := ["self"]) fun _ _ _ _ _ _ us hl => match us, hl with | [_], _ => rfl
  have FMG := fun_mk (st := s_links) lG cG kG
  have bMG := FMG.binds (ps := ["self"]) fun _ _ _ _ _ _ us hl => match us, hl with | [_], _ => rfl
  have FMN := fun_mk (st := s_contains) lN cN kN
  have bMN := FMN.binds (ps := ["self", "thing"]) fun _ _ _ _ _ _ us hl => match us, hl with | [_, _], _ => rfl
  have FML := fun_mk (st := s_len) lL cL kL
  have bML := FML.binds (ps := ["self"]) fun _ _ _ _ _ _ us hl => match us, hl with | [_], _ => rfl
  have FMR := fun_mk (st := s_repr) lR cR kR
  have bMR := FMR.binds (ps := ["self"]) fun _ _ _ _ _ _ us hl => match us, hl with | [_], _ => rfl
  have dnm : DefAt P w K mg base "is_name" _ f1 _ _ _ := ⟨ok_is_name F1 T, PySem.W.mg_of X G a1, k1, b1⟩
  have d1 : DefAt P w K mg base "is_name" _ f1 _ _ _ := ⟨ok_is_nameD F1 T, PySem.W.mg_of X G a1, k1, b1⟩
  have d2 : DefAt P w K mg base "is_path" _ f2 _ _ _ := ⟨ok_is_path F2 T dnm, PySem.W.mg_of X G a2, k2, b2⟩
  have diX : DefAt P w K mg base "is_integer" _ f3 _ _ _ := ⟨ok_integerX F3 T, PySem.W.mg_of X G a3, k3, b3⟩
  have djX : DefAt P w K mg base "is_joint" _ f4 _ _ _ := ⟨ok_jointX F4 T diX, PySem.W.mg_of X G a4, k4, b4⟩
  have d3 : DefAt P w K mg base "is_integer" _ f3 _ _ _ := ⟨ok_is_integer F3 T, PySem.W.mg_of X G a3, k3, b3⟩
  have d4 : DefAt P w K mg base "is_joint" _ f4 _ _ _ := ⟨ok_is_joint F4 T d3, PySem.W.mg_of X G a4, k4, b4⟩
  have d5 : DefAt P w K mg base "is_place_in_package" _ f5 _ _ _ := ⟨ok_is_place_in_package F5 T d1 d2, PySem.W.mg_of X G a5, k5, b5⟩
  have d7 : DefAt P w K mg base "is_target_in" _ f7 _ _ _ := ⟨ok_is_target_in F7 d5 d4, PySem.W.mg_of X G a7, k7, b7⟩
  have d6 : DefAt P w K mg base "check_tables" _ f6 _ _ _ := ⟨ok_check_tables F6 T d4 d1 d7, PySem.W.mg_of X G a6, k6, b6⟩
  have d8 : DefAt P w K mg base "sorted_row" _ f8 _ _ _ := ⟨ok_sorted_row F8 T, PySem.W.mg_of X G a8, k8, b8⟩
  have OI := ok_init (P := P) (w := w) (mg := mg) (base := base) FI T R d6 d8
  have MI : Mk K C fI := ⟨mkC, aI, iI, kcC⟩
  have d9 : DefAt P w K mg base "joints_from" _ f9 _ _ _ := ⟨ok_joints_from F9 T R, PySem.W.mg_of X G a9, k9, b9⟩
  have LA : LayAll P w K mg base C gT pT gB gE fI gS gG gN gL gR _ _ _ _ _ _ _ _ _ := ⟨R, MI, OI, ⟨_, kbn⟩, ⟨ds, bI, hds⟩, ⟨apT, gpT, tpT, ⟨_, rpT⟩⟩, ok_top FMT R, bMT, ⟨apB, ipB, kB⟩, ok_tables FMB T R, bMB, ok_eqX FME T R LI, bME, apE, ipE,
    ⟨apS, ipS, kS⟩, ok_seen FMS T d9, bMS, ⟨apG, ipG, kG⟩, ok_links FMG R, bMG, ok_contains FMN R djX, bMN, apN, ipN, ok_len FML T R, bML, apL, ipL, ok_repr FMR T (PySem.W.mg_none_of X G z_sum) R, bMR, apR, ipR, nDC, nSC, LI, kCI, kDC, kSC⟩
  have d11 : DefAt P w K mg base "_law_take" _ f11 _ _ _ := ⟨ok_take F11 T, PySem.W.mg_of X G a11, k11, b11⟩
  have d12 : DefAt P w K mg base "_law_pick" _ f12 _ _ _ := ⟨ok_pick F12 T d11, PySem.W.mg_of X G a12, k12, b12⟩
  have d10 : DefAt P w K mg base "_law_bag" _ f10 _ _ _ := ⟨ok_bag F10 T, PySem.W.mg_of X G a10, k10, b10⟩
  have d13 : DefAt P w K mg base "_law_words" _ f13 _ _ _ := ⟨ok_words F13 T d11 d12, PySem.W.mg_of X G a13, k13, b13⟩
  have d14 : DefAt P w K mg base "_law_joined" _ f14 _ _ _ := ⟨ok_joined F14, PySem.W.mg_of X G a14, k14, b14⟩
  have d15 : DefAt P w K mg base "_law_entries" _ f15 _ _ _ := ⟨ok_entries F15 T d11 d12 d14, PySem.W.mg_of X G a15, k15, b15⟩
  have d16 : DefAt P w K mg base "_law_farm" _ f16 _ _ _ := ⟨ok_farm F16 T d11 d15, PySem.W.mg_of X G a16, k16, b16⟩
  have d17 : DefAt P w K mg base "_law_is_plain" _ f17 _ _ _ := ⟨ok_plain F17 T, PySem.W.mg_of X G a17, k17, b17⟩
  have d18 : DefAt P w K mg base "_law_places" _ f18 _ _ _ := ⟨ok_places F18 T d17, PySem.W.mg_of X G a18, k18, b18⟩
  have d19 : DefAt P w K mg base "_law_drawn" _ f19 _ _ _ := ⟨ok_drawn F19 T d11 d12 d18, PySem.W.mg_of X G a19, k19, b19⟩
  have d20 : DefAt P w K mg base "_law_seen" _ f20 _ _ _ := ⟨ok_lseen F20 T, PySem.W.mg_of X G a20, k20, b20⟩
  have d21 : DefAt P w K mg base "_law_asked_right" _ f21 _ _ _ := ⟨ok_asked F21 T d20 LA, PySem.W.mg_of X G a21, k21, b21⟩
  have d22 : DefAt P w K mg base "_law_right" _ f22 _ _ _ := ⟨ok_right F22 T d21 LA, PySem.W.mg_of X G a22, k22, b22⟩
  exact ok_law F23 T d10 d13 d16 d19 d22 LA
theorem walk {l : PySem.W.OpenLaw} {q : Program} {loose : List Str} {XP : (Str → Option Value) → Heap → Prop} {YP : World → Heap → Prop} {d : DefRec} {K : Params → PySem.W.Frag} (hn : l.most = some 63) (hdf : d.params.defaults = [])
    (hY : ∀ (w : World) (h : Heap), YP w h → (K w.params).In h)
    (F : ∀ (w : World) (mg : Str → Option Value) (fa : Addr) (h : Heap), (K w.params).In h → h.Ns mainGlobals mg → mg d.name = some (.ref fa) →
      ∃ fd : FuncData, (∀ (s : Shared) (u : Value), BindsTo s fd ⟨[u], []⟩ [("_law_script", u)]) ∧ ∀ base : Heap, (K w.params).In base → base.Ns mainGlobals mg → FnG l.prog w (K w.params) mg base CX0 10 fa fd ["_law_script"] (spLaw (K w.params))) :
    PySem.W.WalkO q loose XP YP l.row.toRowW d [] (fun f vs => PySem.call f vs) :=
  walkG (n := 63) (k := 10) (x := "_law_script") (sp := spLaw) hn (by decide) hdf ⟨rfl, by decide, by decide⟩ hY F (fun K H a ns hl hS => ⟨a, ns, rfl, hS, hl, fun _ => rfl⟩)
end KC

open PySem PySem.W PyProof.Rows in
set_option maxRecDepth 100000 in
set_option maxHeartbeats 0 in
theorem PySem.Challenge.cw_linkfarms_k40_layouts_made_holds : PySem.Challenge.rw_linkfarms_k40_layouts_made.Holds := by
  w_on; o_law; k_head; (case hw => w_witness2)
  k_fill
  refine KC.walk (l := PySem.Challenge.rw_linkfarms_k40_layouts_made) rfl rfl (fun w h Y => PySem.W.kIn_of Y) ?F
  case F =>
    intro w mg fa h KX G hmg
    refine' KC.all_mk KX G hmg ?zI0 ?z_isinstance ?z_str ?z_len ?z_all ?z_any ?z_tuple ?z_list ?z_dict ?z_sorted ?z_range ?z_zip ?z_enumerate ?z_set ?z_abs ?z_int ?z_bool ?z_repr ?z_max ?z_min ?z_ValueError ?z_sum ?a1 ?l1 ?c1 ?k1 ?a2 ?l2 ?c2 ?k2 ?a3 ?l3 ?c3 ?k3 ?a4 ?l4 ?c4 ?k4 ?a5 ?l5 ?c5 ?k5 ?a6 ?l6 ?c6 ?k6 ?a7 ?l7 ?c7 ?k7 ?a8 ?l8 ?c8 ?k8 ?a9 ?l9 ?c9 ?k9 ?a10 ?l10 ?c10 ?k10 ?a11 ?l11 ?c11 ?k11 ?a12 ?l12 ?c12 ?k12 ?a13 ?l13 ?c13 ?k13 ?a14 ?l14 ?c14 ?k14 ?a15 ?l15 ?c15 ?k15 ?a16 ?l16 ?c16 ?k16 ?a17 ?l17 ?c17 ?k17 ?a18 ?l18 ?c18 ?k18 ?a19 ?l19 ?c19 ?k19 ?a20 ?l20 ?c20 ?k20 ?a21 ?l21 ?c21 ?k21 ?a22 ?l22 ?c22 ?k22 ?a23 ?l23 ?c23 ?k23 ?aC ?pg ?hdC ?po ?saC ?mkC ?kcC ?nR ?nP ?aI ?iI ?lI ?cI ?kI ?zKD ?apT ?gpT ?tpT ?rpT ?lT ?cT ?kT ?apB ?ipB ?lB ?cB ?kB ?apE ?ipE ?lE ?cE ?kE ?apS ?ipS ?lS ?cS ?kS ?apG ?ipG ?lG ?cG ?kG ?apN ?ipN ?lN ?cN ?kN ?apL ?ipL ?lL ?cL ?kL ?apR ?ipR ?lR ?cR ?kR ?haC ?hnC ?htC ?hmC ?kCC ?kCI ?kDC ?kSC ?nDC ?nSC
    (case zI0 => k_is)
    (case z_isinstance => k_is)
    (case z_str => k_is)
    (case z_len => k_is)
    (case z_all => k_is)
    (case z_any => k_is)
    (case z_tuple => k_is)
    (case z_list => k_is)
    (case z_dict => k_is)
    (case z_sorted => k_is)
    (case z_range => k_is)
    (case z_zip => k_is)
    (case z_enumerate => k_is)
    (case z_set => k_is)
    (case z_abs => k_is)
    (case z_int => k_is)
    (case z_bool => k_is)
    (case z_repr => k_is)
    (case z_max => k_is)
    (case z_min => k_is)
    (case z_ValueError => k_is)
    (case z_sum => k_is)
    (case a1 => k_is)
    (case l1 => k_is)
    (case c1 => k_is)
    (case k1 => k_is)
    (case a2 => k_is)
    (case l2 => k_is)
    (case c2 => k_is)
    (case k2 => k_is)
    (case a3 => k_is)
    (case l3 => k_is)
    (case c3 => k_is)
    (case k3 => k_is)
    (case a4 => k_is)
    (case l4 => k_is)
    (case c4 => k_is)
    (case k4 => k_is)
    (case a5 => k_is)
    (case l5 => k_is)
    (case c5 => k_is)
    (case k5 => k_is)
    (case a6 => k_is)
    (case l6 => k_is)
    (case c6 => k_is)
    (case k6 => k_is)
    (case a7 => k_is)
    (case l7 => k_is)
    (case c7 => k_is)
    (case k7 => k_is)
    (case a8 => k_is)
    (case l8 => k_is)
    (case c8 => k_is)
    (case k8 => k_is)
    (case a9 => k_is)
    (case l9 => k_is)
    (case c9 => k_is)
    (case k9 => k_is)
    (case a10 => k_is)
    (case l10 => k_is)
    (case c10 => k_is)
    (case k10 => k_is)
    (case a11 => k_is)
    (case l11 => k_is)
    (case c11 => k_is)
    (case k11 => k_is)
    (case a12 => k_is)
    (case l12 => k_is)
    (case c12 => k_is)
    (case k12 => k_is)
    (case a13 => k_is)
    (case l13 => k_is)
    (case c13 => k_is)
    (case k13 => k_is)
    (case a14 => k_is)
    (case l14 => k_is)
    (case c14 => k_is)
    (case k14 => k_is)
    (case a15 => k_is)
    (case l15 => k_is)
    (case c15 => k_is)
    (case k15 => k_is)
    (case a16 => k_is)
    (case l16 => k_is)
    (case c16 => k_is)
    (case k16 => k_is)
    (case a17 => k_is)
    (case l17 => k_is)
    (case c17 => k_is)
    (case k17 => k_is)
    (case a18 => k_is)
    (case l18 => k_is)
    (case c18 => k_is)
    (case k18 => k_is)
    (case a19 => k_is)
    (case l19 => k_is)
    (case c19 => k_is)
    (case k19 => k_is)
    (case a20 => k_is)
    (case l20 => k_is)
    (case c20 => k_is)
    (case k20 => k_is)
    (case a21 => k_is)
    (case l21 => k_is)
    (case c21 => k_is)
    (case k21 => k_is)
    (case a22 => k_is)
    (case l22 => k_is)
    (case c22 => k_is)
    (case k22 => k_is)
    (case a23 => k_is)
    (case l23 => k_is)
    (case c23 => k_is)
    (case k23 => k_is)
    (case aC => k_is)
    (case pg => k_is)
    (case hdC => k_is)
    (case po => k_is)
    (case saC => k_is)
    (case mkC => k_is)
    (case kcC => k_is)
    (case nR => k_is)
    (case nP => k_is)
    (case aI => k_is)
    (case iI => k_is)
    (case lI => k_is)
    (case cI => k_is)
    (case kI => k_is)
    (case zKD => k_is)
    (case apT => k_is)
    (case gpT => k_is)
    (case tpT => k_is)
    (case rpT => k_is)
    (case lT => k_is)
    (case cT => k_is)
    (case kT => k_is)
    (case apB => k_is)
    (case ipB => k_is)
    (case lB => k_is)
    (case cB => k_is)
    (case kB => k_is)
    (case apE => k_is)
    (case ipE => k_is)
    (case lE => k_is)
    (case cE => k_is)
    (case kE => k_is)
    (case apS => k_is)
    (case ipS => k_is)
    (case lS => k_is)
    (case cS => k_is)
    (case kS => k_is)
    (case apG => k_is)
    (case ipG => k_is)
    (case lG => k_is)
    (case cG => k_is)
    (case kG => k_is)
    (case apN => k_is)
    (case ipN => k_is)
    (case lN => k_is)
    (case cN => k_is)
    (case kN => k_is)
    (case apL => k_is)
    (case ipL => k_is)
    (case lL => k_is)
    (case cL => k_is)
    (case kL => k_is)
    (case apR => k_is)
    (case ipR => k_is)
    (case lR => k_is)
    (case cR => k_is)
    (case kR => k_is)
    (case haC => k_is)
    (case hnC => k_is)
    (case htC => k_is)
    (case hmC => k_is)
    (case kCC => first | rfl | k_is)
    (case kCI => first | rfl | k_is)
    (case kDC => first | rfl | k_is)
    (case kSC => first | rfl | k_is)
    (case nDC => first | rfl | k_is)
    (case nSC => first | rfl | k_is)
#print axioms PySem.Challenge.cw_linkfarms_k40_layouts_made_holds

