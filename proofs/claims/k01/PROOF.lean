import PyProof.Rows.All
import Wide.All
import OpenK.AllK
import Wide.FinOn
import HandS.ForMost
import HandS.ForExc
import HandS.Star
import HandS.Deep
import HandS.IsInst
import HandS.SortKw
import KE.SortKeyHeap
import HandS.ExcIs
import HandS.Walk
import HandS.StrMore
import HandS.WordsExc
import PyProof.ReprNest
import PyProof.ReprUnder
import KE.DataCmp
import PyProof.Rows.RegFStrParts
import PyProof.Rows.StrSplitAre
import HandS.DictComp
import HandS.More
import HandS.Property
import HandS.FStr
import HandS.Defaults
import PyProof.StrBlock2
import PySem.Challenge.RW_linkfarms_k01_names_and_paths_of_any_val
set_option Elab.async false
set_option linter.all false
set_option maxRecDepth 100000
set_option maxHeartbeats 4000000
namespace LF
open PySem PySem.Spec PyProof.Rows L2

/-- a promise that is asked only where no repr is under way -/
structure FnG (P : Program) (w : World) (K : PySem.W.Frag) (mg : Str → Option Value) (base : Heap) (CX : CXT)
    (k : Nat) (f : Addr) (fd : FuncData) (ps : List Str) (sp : Sp) : Prop where
  len : ∀ vs H Q E, sp vs H Q E → vs.length = ps.length
  go : ∀ (A : Around) (fr : List Env) (st : Shared) (H : Hp) (ar : Args) (us : List Value) (vs : List V) (Q : VK) (E : XK),
    A.guards = some [] → Room k A → Env0 P w K mg base A fr st H → BindsTo st fd ar (ps.zip us) → Vals vs us →
    sp vs H Q E → codeAny (model P w) A (.call (.ref f) ar) (CR CX fr P w H st Q E) st

theorem body_end {CX : CXT} {P : Program} {w : World} {K : PySem.W.Frag} {mg : Str → Option Value} {base : Heap} {N : List Str}
    {q : String} {sc : Scope} {f : Addr} {cd : Value} {A : Around} {fr : List Env} {st : Shared} {H : Hp} {E : XK} {Q : VK}
    {v : V} {u : Value} {σ : L2.St} {H' : Hp} {s' : Shared}
    (J : Inv (cxOf CX P w K mg base N q sc f cd A fr st H E) [] σ H' s') (rv : RelV v u) (hq : Q v H') :
    CE fr P w H st Q u s' :=
  ⟨v, H', J.os, J.bare, J.base, J.hok, rv, hq⟩

theorem fnG_of {CX : CXT} {P : Program} {w : World} {K : PySem.W.Frag} {mg : Str → Option Value} {base : Heap} {k : Nat} {f : Addr}
    {x q : String} {st : Stmt} {fd : FuncData} {N ps : List Str} {sp : Sp} (F : Fun K x q st f fd) (S : FnScope N ps (defScope st))
    (len : ∀ vs H Q E, sp vs H Q E → vs.length = ps.length)
    (hb : ∀ (cdv : Value) (A : Around) (fr : List Env) (s : Shared) (H : Hp) (vs : List V) (Q : VK) (E : XK), A.guards = some [] →
      Room k (A.deeper (envOfC q (defScope st) s.heap.objs.size f cdv)) → sp vs H Q E →
      ∃ t, PSs (cxOf CX P w K mg base N q (defScope st) f cdv A fr s H E) (defBody st) t ∧
        t { nx := fun _ H' => Q .non H', rt := Q } (start N vs) H) : FnG P w K mg base CX (k + 1) f fd ps sp := by
  obtain ⟨oc, od, kV, doc, pm, an, cdv, ct, osl, rfl, lk, hcd⟩ := F.ex
  refine ⟨len, ?_⟩
  intro A fr s H ar us vs Q E hgd hr e0 hbi r hsp
  have hl := len _ _ _ _ hsp
  have KX : K.In s.heap := e0.mod.kin.keeps (fun b o e => (e0.bs b o e).1)
  have lim : s.heap.NoLimit := e0.mod.nolimit.keeps (fun b o e => (e0.bs b o e).1)
  have hkd : ∀ y ∈ ps.zip us, (defScope st).names.lookup y.1 = some .local ∨
      ((defScope st).names.lookup y.1 = some .cell ∧ ((cellsFrom (s.heap.objs.size + 1) (defScope st).names []).lookup y.1).isSome = true) := by
    rintro ⟨n, v⟩ hy
    rcases S.par n (List.of_mem_zip hy).1 with z | z
    · exact Or.inl z
    · exact Or.inr ⟨z, PySem.W.cellsFrom_some _ _ _ (Or.inl z)⟩
  refine codeAny_call_function hr.depth (KX _ _ lk) rfl S.co S.gen rfl (PySem.W.codeRec_of KX hcd) (hbi _ _ _ _ ?_)
  refine wpAny_newFunctionEnv_cells S.kind hkd ?_
  intro env he s1 xx
  subst he
  refine ⟨lim.keeps xx.toInCall.keep, codeAny_func ?_⟩
  obtain ⟨t, ht, hq⟩ := hb cdv A fr s H vs Q E hgd (hr.deeper _) hsp
  have I := inv_start (CX := CX) (cd := cdv) (E := E) S hr.hd e0 hl r xx
  refine wpAny_mono (ht.run [] s1 (start N vs) H _ I hq) ?_ (fun e s' hs => hs)
  intro fl s' hs
  cases fl with
  | ret u =>
    obtain ⟨v, σ', H', J, rv, z⟩ := hs
    exact body_end J rv z
  | next =>
    obtain ⟨σ', H', J, z⟩ := hs
    exact body_end (v := V.non) (u := Value.none) J rfl z
  | brk => exact (hs.choose_spec.choose_spec.2).elim
  | cont => exact (hs.choose_spec.choose_spec.2).elim

section
variable {X : Cx} {CX : CXT} {k : Nat} {f : Addr} {fd : FuncData} {ps : List Str} {sp : Sp} {dvs : List V} {ds : List Value} {E : XK}
  {x : Str} {p pos : Pos} {e : Expr} {es : List Expr} {t : TA}

theorem runG {pins : List (Addr × Obj)} {σ : L2.St} {H : Hp} {s : Shared} {Q : VK} {us : List Value} {vs : List V}
    (F : FnG X.prog X.w X.K X.mg X.base CX k f fd ps sp) (gd : X.A.guards = some []) (hr : Room k X.A) (hb : Binds X.K fd ps [])
    (hx : Passes CX X E) (I : Inv X pins σ H s) (r : Vals vs us) (h : sp vs H Q E) :
    wpAny (model X.prog X.w) X.A (call (.ref f) us) (EP X pins σ Q) X.xe s := by
  have hl : us.length = ps.length := by rw [← r.length]; exact F.len _ _ _ _ h
  have hb' := hb s us I.kIn (by rw [List.append_nil]; exact hl)
  rw [List.append_nil] at hb'
  refine wpAny_call (codeAny_mono (F.go X.A X.stack s H ⟨us, []⟩ us vs Q E gd hr I.env0 hb' r h) ?_)
  intro rr s' hq
  cases rr with
  | error e => exact hx pins σ H s e s' I hq
  | ok fl =>
    cases fl with
    | ret u => exact I.after hq
    | next => exact hq.elim
    | brk => exact hq.elim
    | cont => exact hq.elim

theorem pe_callG (F : FnG X.prog X.w X.K X.mg X.base CX k f fd ps sp) (gd : X.A.guards = some []) (hr : Room k X.A) (hg : Gl X x)
    (hm : X.mg x = some (.ref f)) (hk : PySem.W.keepIn X.K (.ref f) = true) (hb : Binds X.K fd ps []) (hx : Passes CX X E)
    (ha : PA X (e :: es) t) (hdb : (x == ("__debug__" : Str)) = false := by decide)
    (he : starEach (e :: es) X.env = (false, eval e X.env) :: starEach es X.env := by rfl)
    (hpl : (backTo pos (starEach es X.env)).any (·.1) = false := by rfl) :
    PE X (.Call (.Name x p) (e :: es) [] pos) (fun σ H Q => t σ H fun vs H1 => sp vs H1 Q E) := by
  constructor
  intro pins s σ H Q I h
  refine wpAny_Call_Name_kw (ld_glob I hg hm ?_ hdb)
  refine PySem.W.callWith_K (h₀ := X.base) I.ok.mod.kin hk (thn (ha.run pos pins s σ H _ I h) ?_) he hpl
  rintro us s1 ⟨vs, H1, I1, r, z⟩
  exact ⟨I1.kIn, runG F gd hr hb hx I1 r z⟩
end

/-- repr of data of any depth, where no repr is under way -/
def rRepr (K : PySem.W.Frag) : List V → Hp → VK → Prop := fun xs H Q =>
  ∃ x d, xs = [x] ∧ Dp K H x d ∧ d.showable = true ∧ d.hasDict = false ∧ d.depth ≤ 60 ∧ d.shown.length ≤ sizeLine ∧ Q (.str d.shown) H
theorem call_reprD {X : Cx} (gd : X.A.guards = some []) (hu : X.A.units + 64 < cLine) : CallR X (.builtin "repr") (rRepr X.K) := by
  intro pins s σ H xs us Q I r h
  obtain ⟨x, d, rfl, hd, hs, hn, hp, hz, q⟩ := h
  obtain ⟨u, rfl, ru⟩ := vals1 r
  obtain ⟨as, rd⟩ := Dp.reads I d x u hd ru
  cases hd with
  | non => cases ru; exact PySem.P.repr_of_none ⟨.str _, H, I.tok _, ⟨_, rfl⟩, q⟩
  | bl b => cases ru; exact PySem.P.repr_of_bool ⟨.str _, H, I.tok _, ⟨_, rfl⟩, q⟩
  | int i =>
    obtain ⟨t, rfl⟩ := ru
    exact PySem.P.repr_of_int (by simpa [PyData.showable] using hs) ⟨.str _, H, I.tok _, ⟨_, rfl⟩, q⟩
  | str z =>
    obtain ⟨t, rfl⟩ := ru
    exact PySem.P.repr_of_str ⟨.str _, H, I.tok _, ⟨_, rfl⟩, q⟩ hz
  | lst a b =>
    cases ru
    exact repr_of_reads' rd hs (PyData.noDict_hsm hn) gd (by omega) (fun _ _ e => e)
      (fun h' u tk hk => ⟨.str _, H, I.kept (t' := tk) hk, ⟨_, rfl⟩, q⟩) hz
  | tup a b =>
    cases ru
    exact repr_of_reads' rd hs (PyData.noDict_hsm hn) gd (by omega) (fun _ _ e => e)
      (fun h' u tk hk => ⟨.str _, H, I.kept (t' := tk) hk, ⟨_, rfl⟩, q⟩) hz
end LF

set_option Elab.async false
set_option linter.all false
set_option maxRecDepth 100000
set_option maxHeartbeats 4000000
namespace LF
open PySem PySem.Spec PyProof.Rows L2
open PySem.W (EachIs dataLe AllAlike Sortable KeepsBut KeyedOut)

theorem sqL_same {K : PySem.W.Frag} {H H' : Hp} {a : Addr} {xs : List V} (e : Same H H') (h : SqL K H a xs) : SqL K H' a xs := e.seq h
theorem sqT_same {K : PySem.W.Frag} {H H' : Hp} {a : Addr} {xs : List V} (e : Same H H') (h : SqT K H a xs) : SqT K H' a xs := by
  rcases h with (h | ⟨o, h⟩) | h
  · exact Or.inl (Or.inl (e _ _ h))
  · exact Or.inl (Or.inr ⟨o, e _ _ h⟩)
  · exact Or.inr h
mutual
theorem dp_same {K : PySem.W.Frag} {H H' : Hp} (e : Same H H') : ∀ (d : PyData) (v : V), Dp K H v d → Dp K H' v d
  | .none, _, h => by cases h; exact .non
  | .bool b, _, h => by cases h; exact .bl b
  | .int i, _, h => by cases h; exact .int i
  | .str x, _, h => by cases h; exact .str x
  | .list ds, _, h => by cases h with | lst a b => exact .lst (sqL_same e a) (dpAll_same e ds _ b)
  | .tuple ds, _, h => by cases h with | tup a b => exact .tup (sqT_same e a) (dpAll_same e ds _ b)
  | .dict _, _, h => by cases h
theorem dpAll_same {K : PySem.W.Frag} {H H' : Hp} (e : Same H H') : ∀ (ds : List PyData) (vs : List V), DpAll K H vs ds → DpAll K H' vs ds
  | [], _, h => by cases h; exact .nil
  | d :: ds, _, h => by cases h with | cons a b => exact .cons (dp_same e d _ a) (dpAll_same e ds _ b)
end

/-- sorted(xs, key=f), xs texts, f a def that hands back data and leaves what is tracked -/
def rSortF (K : PySem.W.Frag) (f : Addr) (kd : Str → PyData) (sp : Sp) : List V → List V → Hp → VK → Prop := fun xs zs H Q =>
  ∃ (a : Addr) (ws : List Str), xs = [.ref a] ∧ zs = [.ref f] ∧ SqL K H a (ws.map V.str) ∧ AllAlike (ws.map kd) ∧ Sortable (ws.map kd) ∧
    (∀ d ∈ ws.map kd, d.depth ≤ 60) ∧
    (∀ x ∈ ws, ∀ H1, Same H H1 → ∀ Q1 : VK, (∀ v H2, Same H1 H2 → Dp K H2 v (kd x) → Q1 v H2) → sp [.str x] H1 Q1 E0) ∧
    ∀ H1 p, Same H H1 → H1 p = none → Q (.ref p) (upd H1 p (.lst ((ws.mergeSort (dataLe false kd)).map V.str)))

theorem each_vals_str : ∀ {ws : List Str} {us : List Value}, Vals (ws.map V.str) us → EachIs (fun (v : Value) (x : Str) => ∃ t, v = Value.str x t) us ws
  | [], _, h => by cases h; exact .nil
  | x :: ws, _, h => by cases h with | cons a b => exact .cons a (each_vals_str b)
theorem vals_each_str : ∀ {ws : List Str} {us : List Value}, EachIs (fun (v : Value) (x : Str) => ∃ t, v = Value.str x t) us ws → Vals (ws.map V.str) us
  | [], _, h => by cases h; exact .nil
  | x :: ws, _, h => by cases h with | cons a b => exact .cons a (vals_each_str b)
theorem each_get {α β : Type} {R : α → β → Prop} : ∀ {as : List α} {bs : List β} {i : Nat} {x : α}, EachIs R as bs → as[i]? = some x → ∃ y, bs[i]? = some y ∧ R x y
  | _, _, 0, x, .cons h _, e => by simp at e; subst e; exact ⟨_, rfl, h⟩
  | _, _, i + 1, x, .cons _ t, e => by simpa using each_get (i := i) t (by simpa using e)
theorem each_reads {X : Cx} {pins : List (Addr × Obj)} {σ : L2.St} {H : Hp} {s : Shared} {kd : Str → PyData} (I : Inv X pins σ H s) :
    ∀ {us : List Value} {ws : List Str}, EachIs (fun v x => ∃ y, RelV y v ∧ Dp X.K H y (kd x)) us ws →
      EachIs (fun v k => ∃ as, Reads s.heap v k as) us (ws.map kd)
  | _, _, .nil => .nil
  | _, _, .cons ⟨y, r, d⟩ t => .cons (Dp.reads I _ _ _ d r) (each_reads I t)

section
variable {X : Cx} {kf : Nat} {f : Addr} {fd : FuncData} {px : Str} {sp : Sp} {kd : Str → PyData}

theorem pin_new {pins : List (Addr × Obj)} {σ : L2.St} {H : Hp} {s : Shared} (I : Inv X pins σ H s) {b : Addr} (hb : s.heap.objs.size ≤ b) :
    H b = none ∧ b ≠ X.env.locals ∧ b ∉ X.fs ∧ (∀ x c, X.env.cells.lookup x = some c → c ≠ b) ∧ ∀ p ∈ X.pn ++ pins, p.1 ≠ b := by
  refine ⟨I.hok.fresh hb, ?_, I.nofs hb, ?_, ?_⟩
  · exact Ne.symm (Nat.ne_of_lt (Nat.lt_of_lt_of_le I.lt hb))
  · intro x c hc
    obtain ⟨v, o, ho, _⟩ := I.cell x c hc
    exact Nat.ne_of_lt (Nat.lt_of_lt_of_le (Heap.lt_size ho) hb)
  · intro p hp
    exact Nat.ne_of_lt (Nat.lt_of_lt_of_le (Heap.lt_size (I.pin p hp).1) hb)

theorem call_sortedF (F : FnOk X.prog X.w X.K X.mg X.base CX0 kf f fd [px] sp) (hr : Room (kf + 2) X.A) (hb : Binds X.K fd [px] []) :
    CallRK X (.builtin "sorted") [Str.ofString "key"] (rSortF X.K f kd sp) := by
  intro pins s σ H xs zs us vz Q I r rz h
  obtain ⟨a, ws, rfl, rfl, hs, hal, hsk, hdep, hkey, hq⟩ := h
  obtain ⟨its, rv, hl, hz⟩ := I.list hs
  rw [Vals.ref1 r]
  rw [Vals.ref1 rz]
  have hwl : ws.length = its.length := by rw [← rv.length, List.length_map]
  have hZ : its.length ≤ sizeLine := by rw [← rv.length]; exact hz
  have hE := each_vals_str rv
  show wpAny _ _ (call (.builtin "sorted") [.ref a] [(Str.ofString "key", .ref f)]) _ _ _
  refine PySem.W.sorted_of_sort (vs := its) hl.isList hZ (ksk_s1 _ _) (fun x => ksk_l1 _ _) ?_
  intro E'
  rw [ksk_t1]
  obtain ⟨hp, g, dr, tk, os⟩ := s
  -- the copy, at D
  generalize hD : hp.objs.size + 1 = D
  have hcp : (PySem.W.copyHeap hp its).get? D = some (seqObj "list" its.toArray 0) := by rw [← hD]; exact PySem.W.copyHeap_at hp its
  have hold : ∀ b o, hp.get? b = some o → (PySem.W.copyHeap hp its).get? b = some o := fun b o e => PySem.W.copyHeap_old e
  have hDsz : D < (PySem.W.copyHeap hp its).objs.size := Heap.lt_size hcp
  have hDnew : hp.objs.size ≤ D := by omega
  obtain ⟨e1, he1⟩ : ∃ e1, ((PySem.W.copyHeap hp its).update D (Obj.mapSeq fun _ => (#[] : Array Value))).get? D = some (seqObj "list" #[] e1) := ⟨_, get?_update_seq hcp fun _ => #[]⟩
  have hS1 : ((PySem.W.copyHeap hp its).update D (Obj.mapSeq fun _ => (#[] : Array Value))).objs.size = (PySem.W.copyHeap hp its).objs.size := by rw [Heap.size_update]
  unfold ksk_tree
  refine wpAny_bind (listItems_at hcp rfl ?_)
  refine wpAny_bind (listUpdate_at hcp rfl ?_ (by rw [List.size_toArray]; exact hZ) (Nat.zero_le _))
  refine wpAny_bind (seqEpoch_at he1 rfl ?_)
  refine wpAny_bind (wpAny_newTuple ?_ (by show its.length ≤ _; exact hZ))
  refine wpAny_bind (wpAny_newList ?_ (Nat.zero_le _))
  refine wpAny_holding ?_
  generalize hT : (((PySem.W.copyHeap hp its).update D (Obj.mapSeq fun _ => (#[] : Array Value))).push ({ cls := .type "tuple", data := .seq its.toArray } : Obj)) = h1
  have hkS : h1.objs.size = (PySem.W.copyHeap hp its).objs.size + 1 := by rw [← hT, size_push', hS1]
  generalize hkk : h1.objs.size = kS
  have hDk : kS ≠ D := by omega
  have hkSnew : hp.objs.size ≤ kS := by omega
  have k1 : ∀ b o, b ≠ D → (PySem.W.copyHeap hp its).get? b = some o → h1.get? b = some o := fun b o hb e => by
    rw [← hT]
    exact Heap.get?_push_of_some _ ((Heap.get?_update_ne _ _ _ _ hb).trans e)
  have k2 : ∀ b o, hp.get? b = some o → (h1.push (seqObj "list" #[] 0)).get? b = some o := fun b o e =>
    Heap.get?_push_of_some _ (k1 b o (Nat.ne_of_lt (Nat.lt_of_lt_of_le (Heap.lt_size e) hDnew)) (hold b o e))
  have g1 : (h1.push (seqObj "list" #[] 0)).get? D = some (seqObj "list" #[] e1) := Heap.get?_push_of_some _ (by rw [← hT]; exact Heap.get?_push_of_some _ he1)
  have g2 : (h1.push (seqObj "list" #[] 0)).get? kS = some (seqObj "list" #[] 0) := by rw [← hkk]; exact Heap.get?_push_size _ rfl
  have nD := pin_new I (b := D) hDnew
  have nK := pin_new I (b := kS) hkSnew
  have I2 : Inv X pins σ H ⟨h1.push (seqObj "list" #[] 0), g, dr, tk, os⟩ := I.kept (t' := tk) k2
  have seqne : ∀ (c : String) (xs : Array Value) (n : Nat) (v : Option Value), (seqObj c xs n).data ≠ .cell v := fun c xs n v z => by cases z
  have I3 : Inv X ((kS, seqObj "list" #[] 0) :: (D, seqObj "list" #[] e1) :: pins) σ H ⟨h1.push (seqObj "list" #[] 0), g, dr, tk, os⟩ := I2.pins_of (by
    intro p hp'
    rcases List.mem_cons.mp hp' with rfl | hp'
    · exact ⟨g2, nK.1, nK.2.1, nK.2.2.1, seqne _ _ _⟩
    rcases List.mem_cons.mp hp' with rfl | hp'
    · exact ⟨g1, nD.1, nD.2.1, nD.2.2.1, seqne _ _ _⟩
    · exact I2.pin p (List.mem_append_right _ hp'))
  show wpAny _ _ (ksk_rest D (.ref f) false its.toArray e1 (.ref kS)) _ _ ⟨h1.push (seqObj "list" #[] 0), g, dr, tk, os⟩
  unfold ksk_rest
  refine wpAny_bind (wpAny_rule ?_)
  rw [List.forIn_toArray]
  refine wpAny_bind (ksk_fold (fun i s' => ∃ kA e H', Same H H' ∧ Inv X ((kS, seqObj "list" kA e) :: (D, seqObj "list" #[] e1) :: pins) σ H' s' ∧
      EachIs (fun v x => ∃ y, RelV y v ∧ Dp X.K H' y (kd x)) kA.toList (ws.take i)) its 0 _
    ⟨#[], 0, H, Same.refl H, I3, by rw [List.take_zero]; exact .nil⟩ ?step ?done)
  case step =>
    rintro j u s' hu ⟨kA, e, H', sm, J, hk⟩
    simp only [Nat.zero_add] at hk ⊢
    obtain ⟨x, hx, t, rfl⟩ := each_get hE hu
    have hxm : x ∈ ws := List.mem_of_getElem? hx
    have hj : j < ws.length := (List.getElem?_eq_some_iff.mp hx).1
    have hklen : kA.size ≤ ws.length := by
      have := hk.length
      rw [Array.length_toList, List.length_take] at this
      omega
    have hsp := hkey x hxm H' sm (fun v H2 => Same H' H2 ∧ Dp X.K H2 v (kd x)) (fun v H2 s2 d2 => ⟨s2, d2⟩)
    have hb' := hb s' [.str x t] J.kIn rfl
    rw [List.append_nil] at hb'
    have run := F.run X.A.in1.in1 X.stack s' H' ⟨[.str x t], []⟩ [.str x t] [.str x] _ E0 (hr.in1.in1) (J.env0.in1.in1) hb' (.cons ⟨t, rfl⟩ .nil) hsp
    have call1 : wpAny (model X.prog X.w) X.A.in1.in1 (call (.ref f) [.str x t]) (CE X.stack X.prog X.w H' s' (fun v H2 => Same H' H2 ∧ Dp X.K H2 v (kd x))) (fun _ _ => False) s' := by
      refine wpAny_call (codeAny_mono run ?_)
      intro rr s2 hq2
      cases rr with
      | error e => exact hq2
      | ok fl =>
        cases fl with
        | ret u => exact hq2
        | next => exact hq2
        | brk => exact hq2
        | cont => exact hq2
    refine wpAny_bind (wpAny_attempt (wpAny_mono call1 ?_ (fun _ _ z => z.elim)))
    intro u s2 hu2
    obtain ⟨y, H2, J2, ry, sm2, dp2⟩ := J.after hu2
    obtain ⟨pk, pnK, pLK, pfK, _⟩ := J2.pin (kS, seqObj "list" kA e) (List.mem_append_right _ List.mem_cons_self)
    obtain ⟨pd, pnD, pLD, pfD, _⟩ := J2.pin (D, seqObj "list" #[] e1) (List.mem_append_right _ (List.mem_cons_of_mem _ List.mem_cons_self))
    have J3 : Inv X ((D, seqObj "list" #[] e1) :: pins) σ H2 s2 := J2.pins_of (by
      intro p hp'
      exact J2.pin p (List.mem_append_right _ (List.mem_cons_of_mem _ hp')))
    obtain ⟨hp2, g2', dr2, tk2, os2⟩ := s2
    refine wpAny_bind (listUpdate_at pk rfl ?_ (Nat.le_trans hklen (by rw [hwl]; exact hZ)) (by rw [Array.size_push]; exact Nat.succ_le_succ (Nat.le_trans hklen (by rw [hwl]; exact hZ))))
    have sb := Heap.SameBut.update hp2 kS (Obj.mapSeq (·.push u))
    obtain ⟨c2, hc2⟩ : ∃ c2, (hp2.update kS (Obj.mapSeq (·.push u))).get? kS = some (seqObj "list" (kA.push u) c2) := ⟨_, get?_update_seq pk (·.push u)⟩
    have pne : ∀ p ∈ X.pn ++ ((D, seqObj "list" #[] e1) :: pins), p.1 ≠ kS := by
      intro p hp'
      rcases List.mem_append.mp hp' with q | q
      · exact nK.2.2.2.2 p (List.mem_append_left _ q)
      rcases List.mem_cons.mp q with rfl | q
      · exact Ne.symm hDk
      · exact nK.2.2.2.2 p (List.mem_append_right _ q)
    have s0k : X.s_0.heap.objs.size ≤ kS := Nat.le_trans I.sz hkSnew
    have J4 := J3.turned (t' := tk2) (it := kS) (h' := hp2.update kS (Obj.mapSeq (·.push u))) (fun b o hb e => (sb.2 b hb).trans e) pnK pLK (Or.inr s0k) nK.2.2.2.1 pne
    have J5 : Inv X ((kS, seqObj "list" (kA.push u) c2) :: (D, seqObj "list" #[] e1) :: pins) σ H2 ⟨hp2.update kS (Obj.mapSeq (·.push u)), g2', dr2, tk2, os2⟩ := J4.pins_of (by
      intro p hp'
      rcases List.mem_cons.mp hp' with rfl | hp'
      · exact ⟨hc2, pnK, pLK, pfK, seqne _ _ _⟩
      · exact J4.pin p (List.mem_append_right _ hp'))
    refine wpAny_pure ⟨rfl, kA.push u, c2, H2, sm.trans sm2, J5, ?_⟩
    have ek : ws.take (j + 1) = ws.take j ++ [x] := by rw [List.take_add_one, hx]; rfl
    rw [ek, Array.toList_push]
    exact PySem.W.each_snoc ⟨y, ry, dp2⟩ (hk.mono fun v z ⟨y', r', d'⟩ => ⟨y', r', dp_same sm2 _ _ d'⟩)
  case done =>
    rintro s' ⟨kA, e, H', sm, J, hk⟩
    rw [List.take_of_length_le (by omega)] at hk
    obtain ⟨pk, pnK, pLK, pfK, _⟩ := J.pin (kS, seqObj "list" kA e) (List.mem_append_right _ List.mem_cons_self)
    obtain ⟨pd, pnD, pLD, pfD, _⟩ := J.pin (D, seqObj "list" #[] e1) (List.mem_append_right _ (List.mem_cons_of_mem _ List.mem_cons_self))
    have J1 : Inv X pins σ H' s' := J.pins_of (by
      intro p hp'
      exact J.pin p (List.mem_append_right _ (List.mem_cons_of_mem _ (List.mem_cons_of_mem _ hp'))))
    have hr' := each_reads J hk
    have hksz : kA.size = its.length := by
      have := hk.length
      rw [Array.length_toList] at this
      omega
    refine wpAny_bind (listItems_at pk rfl ?_)
    have kb : KeepsBut D (PySem.W.hideAll s'.heap [kS]) s'.heap := fun b o hb e => PySem.W.of_hideAll [kS] e
    have hu : ∀ d ∈ ws.map kd, X.A.in1.in1.units + d.depth < cLine := by
      intro d hd
      have h1 := hdep d hd
      have h2 := hr.un
      show X.A.units + 1 + 1 + d.depth < cLine
      omega
    refine PySem.W.keyH_end (κ := PySem.W.dataKind s'.heap (ws.map kd)) kb (PySem.W.hideAll_none [kS] List.mem_cons_self) pk pd hDk (PySem.W.SortsAt.data (s := s') hr' hal hsk hu) hksz hZ ?_
    intro h' tk' c kp hD'
    refine ⟨rfl, ?_⟩
    have hout : EachIs (fun (v : Value) (x : Str) => ∃ t, v = Value.str x t) (PySem.W.sortVals (PySem.W.dataKind s'.heap (ws.map kd)) false kA.toList its) (ws.mergeSort (dataLe false kd)) :=
      PySem.W.keyedOut_each (rev := false) kd ⟨s'.heap, kA.toList, hal, rfl, hr'⟩ hE
    have hv := vals_each_str hout
    have keep : ∀ b o, b ≠ D → b ≠ kS → s'.heap.get? b = some o → h'.get? b = some o := fun b o n1 n2 e =>
      kp b o n1 (PySem.W.hideAll_get [kS] e (by simpa using n2))
    have hn : H' D = none := pnD
    have hlen : ((ws.mergeSort (dataLe false kd)).map V.str).length ≤ sizeLine := by
      rw [List.length_map, List.length_mergeSort, hwl]; exact hZ
    refine ⟨.ref D, upd H' D (.lst ((ws.mergeSort (dataLe false kd)).map V.str)), ?_, rfl, hq H' D sm hn⟩
    have hne : ∀ b u, H' b = some u → b ≠ D ∧ b ≠ kS := fun b u q => ⟨ne_of_none q hn, ne_of_none q pnK⟩
    refine J1.step (ch := [D, kS]) (g' := s'.gens) (d' := s'.drawn) (t' := tk') ?_ ?_ ?_ ?_ ?_ ?_ ?_ ?_ ?_ ?_ J1.bare
    · intro b hb
      rcases List.mem_cons.mp hb with rfl | hb
      · exact ⟨Or.inr (Nat.le_trans I.sz hDnew), pLD, nD.2.2.2.1, nD.2.2.2.2⟩
      · rw [List.mem_singleton.mp hb]
        exact ⟨Or.inr (Nat.le_trans I.sz hkSnew), pLK, nK.2.2.2.1, nK.2.2.2.2⟩
    · intro b o _ _ hc e _
      exact keep b o (fun z => hc (by simp [z])) (fun z => hc (by simp [z])) e
    · intro b o _ _ hc e _
      exact ⟨o.slots, keep b o (fun z => hc (by simp [z])) (fun z => hc (by simp [z])) e⟩
    · intro b o hc e n
      rw [upd_ne (fun z => hc (by simp [z]))]
      exact n
    · intro b o hc e
      exact ⟨o, keep b o (fun z => hc (by simp [z])) (fun z => hc (by simp [z])) e⟩
    · intro b xs e
      rw [upd_ne (hne b _ e).1]; exact e
    · intro b o u e
      rw [upd_ne (hne b _ e).1]; exact e
    · intro b ps e
      exact ⟨#[], by rw [upd_ne (hne b _ e).1, e]; simp⟩
    · rintro m ⟨o, es, ep, ho, rest⟩
      exact ⟨o, es, ep, keep _ o (Ne.symm pLD) (Ne.symm pLK) ho, rest⟩
    · intro b u e
      by_cases hb : b = D
      · subst hb
        rw [upd_same] at e
        cases e
        exact ⟨hlen, _, c, hv, hD'⟩
      · rw [upd_ne hb] at e
        refine (J1.hok b u e).stay (fun z w' hz q => keep z w' ?_ ?_ q) (fun z q => ?_) (fun z xs q => ?_)
        · rcases hz with rfl | hz
          · exact hb
          · exact (hne z _ hz).1
        · rcases hz with rfl | hz
          · exact (hne z _ e).2
          · exact (hne z _ hz).2
        · rw [upd_ne (hne z _ q).1]; exact q
        · rw [upd_ne (hne z _ q).1]; exact q
end
end LF

set_option Elab.async false
set_option linter.all false
set_option maxRecDepth 100000
set_option maxHeartbeats 4000000
namespace LF
open PySem PySem.Spec PySem.Calls PyProof.Rows
open PySem.W (Looks InstAt findIn specialIn takesIn subIn mroIn hasDictIn clsIn findObj looks_findIn looks_find looks_subIn any_some)

section
variable {prog : Program} {w : World} {A : Around} {E : Value → Shared → Prop} {s : Shared} {K : PySem.W.Frag} {x D : Addr} {ox : Obj} {od : Option Obj}

/-- an error's class asked of the error itself, whether it has a dict or none -/
theorem errClass (C : L2.ExcC K D) {Q : Option Value → Shared → Prop} (X : K.In s.heap) (I : InstAt s.heap x ox D od)
    (h : Q (some (.ref D)) { s with toks := s.toks + 1 }) : wpAny (model prog w) A (getAttr? (.ref x) "__class__") Q E s := by
  have hf : findObj K D od "__class__" = some (.bind (.builtin "getset_descriptor.__get__") (.builtin "object.__class__")) := by
    obtain ⟨cd, e, _⟩ := any_some C.hd
    simp only [findObj, e, C.ha, C.hn, C.ht, Option.bind_some]
  obtain ⟨hh, gg, dd, tt, oo⟩ := s
  have lt := I.type (M := model prog w)
  have lg := looks_findIn (M := model prog w) X C.hg
  have lk := looks_findIn (M := model prog w) X C.hk
  have lf := looks_find (M := model prog w) X I hf
  have ls : Looks (model prog w) hh (isInstance (.ref x) (.type "BaseException")) true := lt.andThen (looks_subIn X C.hs)
  have z0 : (Value.builtin "BaseException.__getattribute__" == Value.builtin "object.__getattribute__") = false := by decide +kernel
  have z1 : (onTheHeap (Value.ref D) && Value.builtin "BaseException.__getattribute__" == Value.builtin "object.__getattribute__") = false := by
    rw [z0]; rfl
  have z2 : (false && onTheHeap (Value.builtin "BaseException.__getattribute__")) = false := rfl
  unfold getAttr? getAttrBy? getAttrBy
  refine wpAny_bind (wpAny_mkText (wpAny_bind (wpAny_attempt (wpAny_holding (wpAny_bind (lt.at (wpAny_bind (lg.at ?_))))))))
  show wpAny _ _ (if (onTheHeap (Value.ref D) && Value.builtin "BaseException.__getattribute__" == Value.builtin "object.__getattribute__") = true
    then _ else _) _ _ _
  rw [z1, if_neg Bool.false_ne_true]
  unfold getAttrByItsOwn hookBefore
  apply wpAny_bind
  rw [if_pos (show onTheHeap (Value.ref D) = true from rfl)]
  apply lk.at
  refine wpAny_bind (wpAny_attempt (wpAny_holding ?_))
  unfold callGetattribute
  rw [z2, if_neg Bool.false_ne_true]
  unfold boundAndCalled
  rw [PySem.F.excAttr_ValueError.ga.bind (.ref x)]
  apply wpAny_bind
  apply wpAny_pure
  show wpAny _ _ (call (.builtin "BaseException.__getattribute__") [.ref x, .str "__class__" tt]) _ _ _
  refine wpAny_call (codeAny_call_builtin PySem.F.excAttr_ValueError.ga.plain PySem.F.entry_bexc_ga ?_)
  refine @PySem.W.check_slot (model prog w) _ _ ⟨hh, gg, dd, tt + 1, oo⟩ "BaseException.__getattribute__" "BaseException" "__getattribute__"
    (.ref x) [.str "__class__" tt] [] _ (by decide +kernel) (by decide +kernel) ls (PySem.F.args_bexc_ga (.ref x) (.str "__class__" tt)) ?_
  unfold Builtin.«object.__getattribute__»
  refine wpAny_bind (wpAny_of_eq (a := ((Value.ref x : Value), [Value.str "__class__" tt])) (by
    first
      | rfl
      | (simp only [slotArgs]; rfl)) ?_)
  refine wpAny_bind (wpAny_pure (wpAny_bind (lt.at (wpAny_bind (lf.at ?_)))))
  show wpAny _ _ (holding [Value.builtin "object.__class__"]
    (call (.builtin "getset_descriptor.__get__") [.builtin "object.__class__", .ref x, .ref D]) >>= ret) _ _ _
  refine wpAny_bind (wpAny_holding (wpAny_call (PySem.W.class_get (s := ⟨hh, gg, dd, tt + 1, oo⟩) X I C.hm ?_)))
  apply wpAny_pure
  show wpAny _ _ (handedOut (.ref D)) _ _ _
  rw [PySem.W.handedOut_of (v := .ref D) rfl]
  first
    | exact wpAny_pure (wpAny_pure h)
    | exact wpAny_pure h
    | exact wpAny_pure (wpAny_bind (wpAny_pure (wpAny_pure h)))

theorem errKit (C : L2.ExcC K D) : PySem.W.KitX K (.ref x) (.ref D) (fun h => ∃ ox od, InstAt h x ox D od) := by
  have cls : ∃ c d cd sl, K.lookup D = some ⟨c, d, .cls cd, sl⟩ := by
    obtain ⟨cd, e, _⟩ := any_some C.hd
    unfold clsIn at e
    split at e
    · rename_i c d cd' sl e'
      exact ⟨c, d, cd', sl, e'⟩
    · exact nomatch e
  obtain ⟨c, d, cd, sl, hl⟩ := cls
  refine ⟨fun M h X q => ?_, fun M h X q => ?_, fun h tp ddd its n sl' X ht => ?_, fun X q k => ?_⟩
  · obtain ⟨_, _, I⟩ := q
    exact I.type
  · intro A' Q' E' s' k q'
    unfold isType loadHead
    exact wpAny_bind (wpAny_loadPart (k _ _ (X _ _ hl)) (wpAny_pure q'))
  · cases hq : (Value.ref D == .ref tp) with
    | false => rfl
    | true =>
      have e : D = tp := Value.ref.inj (beq_iff_eq.mp hq)
      subst e
      exact nomatch (X _ _ hl).symm.trans ht
  · obtain ⟨_, _, I⟩ := q
    exact errClass C X I k
end
end LF

namespace LF
open PySem PySem.Spec PyProof.Rows L2
/-- isinstance(e, c) and isinstance(e, (c, ..)) of the error that the suite holds, with its own dict -/
def rIsErr (K : PySem.W.Frag) (D a : Addr) : List V → Hp → VK → Prop := fun xs H Q =>
  (∃ (c : V) (cv : Value) (b : Bool), xs = [.ref a, c] ∧ (∀ u, RelV c u → u = cv) ∧ PySem.W.kitOne K (.ref D) cv = some b ∧ Q (.bl b) H) ∨
  (∃ (tp : Addr) (cs : List V) (us : List Value) (b : Bool), xs = [.ref a, .ref tp] ∧ H tp = some (.tup cs) ∧ Paired ClsV cs us ∧
    PySem.W.kitAny K (.ref D) us = some b ∧ Q (.bl b) H)

theorem call_isErr {X : Cx} {a D : Addr} {oe : Obj} {cls : Value} {d : Option Addr} {pn : List (Addr × Obj)} (C : ExcC X.K D) (hz : Zc cls d oe)
    (hf : ∃ vs, oe.data = .fields vs) :
    CallR (X.suite a ((a, oe) :: pn)) (.builtin "isinstance")
      (fun xs H Q => cls = .ref D ∧ (∀ e, d = some e → ∃ fs, H e = some (.xd fs)) ∧ rIsErr X.K D a xs H Q) := by
  intro pins s σ H xs us Q I r h
  obtain ⟨ec0, hde, h⟩ := h
  subst ec0
  obtain ⟨hget, _⟩ := I.pin (a, oe) (List.mem_append.mpr (.inl List.mem_cons_self))
  obtain ⟨vs, hv⟩ := hf
  have J : ∃ ox od, PySem.W.InstAt s.heap a ox D od := by
    obtain ⟨oc, odd, oda, osl⟩ := oe
    obtain ⟨h1, h2⟩ := hz
    dsimp only at h1 h2 hv
    subst h1 h2 hv
    cases odd with
    | none => exact ⟨_, none, hget, rfl, rfl, trivial⟩
    | some e =>
      obtain ⟨fs, he⟩ := hde e rfl
      obtain ⟨mA, hns, _⟩ := (show ObjOk X.prog X.w H s.heap e (.xd fs) from I.hok e _ he)
      obtain ⟨od, ho, _⟩ := L2.lookIn_ns hns
      exact ⟨_, some od, hget, rfl, rfl, ho⟩
  rcases h with ⟨c, cv, b, rfl, hcv, e, q⟩ | ⟨tp, cs, ws, b, rfl, hT, k, e, q⟩
  · obtain ⟨u1, u2, rfl, r1, r2⟩ := vals2 r
    cases (show u1 = Value.ref a from r1)
    have ec := hcv _ r2
    subst ec
    exact PySem.W.kia_one (errKit C) I.kIn J e (fun z => nomatch z) fun tk => ⟨.bl b, H, I.tok tk, rfl, q⟩
  · obtain ⟨u1, u2, rfl, r1, r2⟩ := vals2 r
    cases (show u1 = Value.ref a from r1)
    cases (show u2 = Value.ref tp from r2)
    obtain ⟨_, its, rv, o, h1, h2, n, h3⟩ := (show ObjOk X.prog X.w H s.heap tp (.tup cs) from I.hok tp _ hT)
    have e3 := ClsV.all k rv
    subst e3
    obtain ⟨oc, od, dt, sl⟩ := o
    simp only at h2 h3
    subst h2 h3
    exact PySem.W.kia_tup (errKit C) I.kIn J h1 e (fun z => nomatch z) fun tk => ⟨.bl b, H, I.tok tk, rfl, q⟩
end LF

set_option Elab.async false
set_option linter.all false
set_option maxRecDepth 100000
set_option maxHeartbeats 4000000
namespace LF
open PySem PySem.Spec PyProof.Rows L2
def lettersN : Str := "abcdefghijklmnopqrstuvwxyz"
theorem low_code : ∀ c : Fin 128, (Unicode.isAlpha c.1 && !(Unicode.isUpper c.1 || Unicode.isTitle c.1)) = decide (c.1 ∈ lettersN.cps.toList) := by decide +kernel
theorem low_lower : ∀ c : Fin 128, c.1 ∈ lettersN.cps.toList → Unicode.isLower c.1 = true ∧ Unicode.isAlpha c.1 = true := by decide +kernel
theorem low_lt : ∀ c ∈ lettersN.cps.toList, c < 128 := by decide +kernel
theorem arr_all (a : Array Nat) (p : Nat → Bool) : a.all p = a.toList.all p := by rw [Array.all_toList]
theorem arr_any (a : Array Nat) (p : Nat → Bool) : a.any p = a.toList.any p := by rw [Array.any_toList]
/-- ASCII letters without capitals are a to z -/
theorem isLow {z : Str} (hz : 1 ≤ z.length) : (Txt.isascii z && (Txt.isalpha z && Txt.islower z)) = z.cps.toList.all fun c => decide (c ∈ lettersN.cps.toList) := by
  unfold Txt.isascii Txt.isalpha Txt.islower
  rw [arr_all, arr_all, arr_any, arr_any]
  have hl : z.cps.toList.length = z.length := by simp [Str.length]
  have hp : decide (z.length > 0) = true := decide_eq_true (by omega)
  rw [hp, Bool.true_and]
  generalize z.cps.toList = l at hl
  rw [Bool.eq_iff_iff]
  simp only [Bool.and_eq_true, List.all_eq_true, List.any_eq_true, Bool.not_eq_true', List.any_eq_false, decide_eq_true_eq, Bool.or_eq_true, not_or, Bool.not_eq_true]
  constructor
  · rintro ⟨h1, h2, ⟨_, _⟩, h4⟩ c hc
    have := low_code ⟨c, h1 c hc⟩
    simp only [h2 c hc, Bool.true_and] at this
    obtain ⟨h5, h6⟩ := h4 c hc
    rw [h5, h6] at this
    exact of_decide_eq_true this.symm
  · intro h
    have f := fun c hc => low_lower ⟨c, low_lt c (h c hc)⟩ (h c hc)
    refine ⟨fun c hc => low_lt c (h c hc), fun c hc => (f c hc).2, ?_, fun c hc => ?_⟩
    · cases l with
      | nil => simp at hl; omega
      | cons a l => exact ⟨a, List.mem_cons_self, (f a List.mem_cons_self).1⟩
    · have := low_code ⟨c, low_lt c (h c hc)⟩
      rw [(f c hc).2, Bool.true_and, decide_eq_true (h c hc)] at this
      simpa using this
/-- z.isascii() and its like -/
theorem pe_isascii {X : Cx} {o : Expr} {to : TE} {apos pos : Pos} (ho : PE X o to)
    (hbase : attributeBase o "isascii" X.env (eval o X.env) = eval o X.env := by rfl) (hline : (apos.endLine == pos.line) = true := by rfl) :
    PE X (.Call (.Attribute o "isascii" apos) [] [] pos) (tM0 (fun x xs H Q => ∃ a, x = .str a ∧ xs = [] ∧ True ∧ Q (.bl (Txt.isascii a)) H) to) :=
  pe_m0 F.slot_str_isascii F.type_str_isascii mt_isascii ho hbase hline
theorem pe_isalpha {X : Cx} {o : Expr} {to : TE} {apos pos : Pos} (ho : PE X o to)
    (hbase : attributeBase o "isalpha" X.env (eval o X.env) = eval o X.env := by rfl) (hline : (apos.endLine == pos.line) = true := by rfl) :
    PE X (.Call (.Attribute o "isalpha" apos) [] [] pos) (tM0 (fun x xs H Q => ∃ a, x = .str a ∧ xs = [] ∧ True ∧ Q (.bl (Txt.isalpha a)) H) to) :=
  pe_m0 F.slot_str_isalpha F.type_str_isalpha mt_isalpha ho hbase hline
theorem pe_islower {X : Cx} {o : Expr} {to : TE} {apos pos : Pos} (ho : PE X o to)
    (hbase : attributeBase o "islower" X.env (eval o X.env) = eval o X.env := by rfl) (hline : (apos.endLine == pos.line) = true := by rfl) :
    PE X (.Call (.Attribute o "islower" apos) [] [] pos) (tM0 (fun x xs H Q => ∃ a, x = .str a ∧ xs = [] ∧ True ∧ Q (.bl (Txt.islower a)) H) to) :=
  pe_m0 F.slot_str_islower F.type_str_islower mt_islower ho hbase hline
end LF

set_option Elab.async false
set_option linter.all false
set_option maxRecDepth 100000
set_option maxHeartbeats 4000000
namespace LF
open PySem PySem.Spec PyProof.Rows L2
/-- a def of the text: its promise, its place, how it is bound -/
structure DefAt (P : Program) (w : World) (K : PySem.W.Frag) (mg : Str → Option Value) (base : Heap) (x : Str) (k : Nat) (f : Addr) (fd : FuncData) (ps : List Str) (sp : Sp) : Prop where
  F : FnOk P w K mg base CX0 k f fd ps sp
  g : mg x = some (.ref f)
  kp : PySem.W.keepIn K (.ref f) = true
  b : Binds K fd ps []
theorem pe_callD {X : Cx} {x : Str} {k : Nat} {f : Addr} {fd : FuncData} {ps : List Str} {sp : Sp} {p pos : Pos} {e : Expr} {es : List Expr} {t : TA}
    (D : DefAt X.prog X.w X.K X.mg X.base x k f fd ps sp) (hr : Room k X.A) (ha : PA X (e :: es) t) (hg : Gl X x := by rfl)
    (hdb : (x == ("__debug__" : Str)) = false := by decide)
    (he : starEach (e :: es) X.env = (false, eval e X.env) :: starEach es X.env := by rfl) (hpl : (backTo pos (starEach es X.env)).any (·.1) = false := by rfl) :
    PE X (.Call (.Name x p) (e :: es) [] pos) (tCall sp [] E0 t) := pe_call D.F hr hg D.g D.kp D.b .nil pass0 ha hdb he hpl

/-- x.rpartition(sep) -/
theorem mt_rpartition {X : Cx} : MtR X "str.rpartition" (fun x xs H Q => ∃ a b, x = .str a ∧ xs = [.str b] ∧ (b.length == 0) = false ∧ a.length ≤ sizeLine ∧
    ∀ p, H p = none → Q (.ref p) (upd H p (.tup [.str (Txt.rpartition a b).1, .str (Txt.rpartition a b).2.1, .str (Txt.rpartition a b).2.2]))) := by
  rintro pins s σ H x xs v us Q I rx rs ⟨a, b, rfl, rfl, hb, hz, h⟩
  obtain ⟨t, rfl⟩ := rx
  obtain ⟨u, rfl, t2, rfl⟩ := vals1 rs
  refine call_meets F.slot_str_rpartition (typeIs_str _ _ _) F.entry_str_rpartition (F.args_str_rpartition_2 _ _) (meets_str_rpartition a b t t2 hb hz) ?_
  unfold Txt.rpartition at h
  revert h
  cases Builtin.Str.lastOccurrence a b 0 a.length with
  | none => exact fun h => laid_parts I h
  | some i => exact fun h => laid_parts I h
theorem pe_rpartition {X : Cx} {o e : Expr} {to te : TE} {apos pos : Pos} (ho : PE X o to) (he : PE X e te) (hs : starEach [e] X.env = [(false, eval e X.env)] := by rfl)
    (hbase : attributeBase o "rpartition" X.env (eval o X.env) = eval o X.env := by rfl) (hline : (apos.endLine == pos.line) = true := by rfl) :
    PE X (.Call (.Attribute o "rpartition" apos) [e] [] pos) (tM1 (fun x xs H Q => ∃ a b, x = .str a ∧ xs = [.str b] ∧ (b.length == 0) = false ∧ a.length ≤ sizeLine ∧
      ∀ p, H p = none → Q (.ref p) (upd H p (.tup [.str (Txt.rpartition a b).1, .str (Txt.rpartition a b).2.1, .str (Txt.rpartition a b).2.2]))) to te) :=
  pe_m1 F.slot_str_rpartition F.type_str_rpartition mt_rpartition ho he hs hbase hline
end LF

namespace LF
theorem ifD {p : Prop} [Decidable p] {A B : Prop} (h1 : p → A) (h2 : ¬ p → B) : if decide p = true then A else B := by
  by_cases h : p
  · rw [if_pos (decide_eq_true h)]; exact h1 h
  · rw [if_neg (by rw [decide_eq_false h]; exact Bool.false_ne_true)]; exact h2 h
theorem ifN {p : Prop} [Decidable p] {A B : Prop} (h1 : p → B) (h2 : ¬ p → A) : if (!decide p) = true then A else B := by
  by_cases h : p
  · rw [if_neg (by rw [decide_eq_true h]; exact Bool.false_ne_true)]; exact h1 h
  · rw [if_pos (by rw [decide_eq_false h]; rfl)]; exact h2 h
end LF
namespace K1
open PySem PySem.Spec PyProof.Rows L2 LF
def topS (i : Nat) : Stmt := PySem.Challenge.pw_linkfarms_k01_names_and_paths_of_any_val.main.body.getD i (.Pass ⟨0, 0, 0, 0⟩)
def letters : Str := "abcdefghijklmnopqrstuvwxyz"
def isNm (z : Str) : Bool := decide (1 ≤ z.length ∧ z.length ≤ 8) && z.cps.toList.all fun c => decide (c ∈ letters.cps.toList)
/-- what the top has written, but the defs -/
structure Txt (K : PySem.W.Frag) (mg : Str → Option Value) (tk1 tk2 : Tok) : Prop where
  g_LONGEST_NAME : mg "LONGEST_NAME" = some (.int 8 tk2)
  n_isinstance : mg "isinstance" = none
  n_str : mg "str" = none
  n_len : mg "len" = none
  n_all : mg "all" = none
  n_any : mg "any" = none
  n_tuple : mg "tuple" = none
  n_list : mg "list" = none
  n_dict : mg "dict" = none
  n_sorted : mg "sorted" = none
  n_range : mg "range" = none
  n_abs : mg "abs" = none
  n_int : mg "int" = none
  n_bool : mg "bool" = none
  n_repr : mg "repr" = none
  n_max : mg "max" = none
  n_min : mg "min" = none
  n_ValueError : mg "ValueError" = none

def notStr : List String := ["NoneType", "int", "bool", "list", "tuple", "dict"]
def spName (K : PySem.W.Frag) : Sp := fun vs H Q _ => ∃ x, vs = [x] ∧
  ((∃ z : Str, x = .str z ∧ z.length ≤ 1000000 ∧ ∀ H', Same H H' → Q (.bl (isNm z)) H') ∨
   (∃ t, TyX K H x t ∧ PySem.W.kitOne K t (.type "str") = some false ∧ ∀ H', Same H H' → Q (.bl false) H'))

abbrev s_is_name : Stmt := topS 13
abbrev N_is_name : List Str := ["thing"]
theorem sc_is_name : FnScope ["thing"] ["thing"] (defScope s_is_name) := ⟨rfl, rfl, rfl, by decide +kernel, rfl, by decide +kernel, by decide +kernel⟩

theorem kit_no {K : PySem.W.Frag} {t : String} (h : t ∈ notStr) : PySem.W.kitOne K (.type t) (.type "str") = some false := by
  simp only [notStr, List.mem_cons, List.not_mem_nil, or_false] at h
  rcases h with rfl | rfl | rfl | rfl | rfl | rfl <;> exact kit_ty (by decide +kernel)
theorem kit_str {K : PySem.W.Frag} : PySem.W.kitOne K (.type "str") (.type "str") = some true := kit_ty (by decide +kernel)
section
variable {P : Program} {w : World} {K : PySem.W.Frag} {mg : Str → Option Value} {base : Heap} {tk1 tk2 : Tok}
theorem ok_is_name {f : Addr} {fd : FuncData} (F : Fun K "is_name" "is_name" s_is_name f fd) (T : Txt K mg tk1 tk2) : FnOk P w K mg base CX0 1 f fd ["thing"] (spName K) := by
  refine F.ok sc_is_name (fun vs H Q E h => ?_) (fun cdv A outer s H vs Q E hr h => ?_)
  · obtain ⟨x, rfl, _⟩ := h
    rfl
  refine ⟨_, (pss_one (ps_ret (pe_and (pe_callB call_isi (by rfl) T.n_isinstance (by decide +kernel) (pa_cons (pv 0) (pa_cons (pe_bltn (v := .ty "str") (by rfl) T.n_str (by decide +kernel) rfl) pa_nil))) (pe_and (pe_chain op_le op_le pe_int (pe_callB call_len_str (by rfl) T.n_len (by decide +kernel) (pa_cons (pv 0) pa_nil)) (pe_glob (v := .int 8) rfl T.g_LONGEST_NAME ⟨_, rfl⟩)) (pe_and (pe_isascii (pv 0)) (pe_and (pe_isalpha (pv 0)) (pe_one (pe_islower (pv 0))))))))), ?_⟩
  obtain ⟨x, rfl, h⟩ := h
  rcases h with ⟨z, rfl, hz, hq⟩ | ⟨t, ht, ty, hq⟩
  · refine ⟨_, rfl, _, .ty "str", _, _, true, rfl, .ty _, .base (.str _), kit_str, ?_⟩
    refine ⟨_, rfl, iteT ?_⟩
    have hl : z.length ≤ sizeLine := Nat.le_trans hz (by decide)
    have q0 := hq H (Same.refl H)
    have fin : isNm z = (decide (1 ≤ z.length ∧ z.length ≤ 8) && (PySem.Txt.isascii z && (PySem.Txt.isalpha z && PySem.Txt.islower z))) := by
      unfold isNm
      by_cases h1 : 1 ≤ z.length
      · rw [isLow h1]; rfl
      · rw [decide_eq_false (by omega)]; rfl
    rw [fin] at q0
    refine ⟨_, rfl, z, rfl, hl, _, _, rfl, rfl, _, rfl, ?_⟩
    refine ifD (fun h1 => ?_) (fun h1 => ?_)
    · refine ⟨_, _, rfl, rfl, _, rfl, ?_⟩
      refine ifD (fun h2 => ?_) (fun h2 => ?_)
      · rw [decide_eq_true (show 1 ≤ z.length ∧ z.length ≤ 8 by omega), Bool.true_and] at q0
        refine ⟨_, rfl, ⟨_, rfl⟩, z, rfl, rfl, trivial, _, rfl, ?_⟩
        cases e1 : PySem.Txt.isascii z with
        | false => rw [e1] at q0; exact iteF q0
        | true =>
          rw [e1, Bool.true_and] at q0
          refine iteT ⟨_, rfl, ⟨_, rfl⟩, z, rfl, rfl, trivial, _, rfl, ?_⟩
          cases e2 : PySem.Txt.isalpha z with
          | false => rw [e2] at q0; exact iteF q0
          | true =>
            rw [e2, Bool.true_and] at q0
            exact iteT ⟨_, rfl, ⟨_, rfl⟩, z, rfl, rfl, trivial, q0⟩
      · rw [decide_eq_false (by omega), Bool.false_and] at q0
        exact q0
    · rw [decide_eq_false (by omega), Bool.false_and] at q0
      refine ⟨_, rfl, ?_⟩
      exact q0
  · have q0 := hq H (Same.refl H)
    refine ⟨_, rfl, _, .ty "str", _, _, false, rfl, .ty _, ht, ty, ?_⟩
    exact ⟨_, rfl, iteF q0⟩
end
end K1

set_option Elab.async false
set_option linter.all false
set_option maxRecDepth 100000
set_option maxHeartbeats 4000000
namespace LF
open PySem PySem.Spec PyProof.Rows L2
/-- all that was tracked but b is as it was -/
def Keep (b : Addr) (H H' : Hp) : Prop := ∀ a o, a ≠ b → H a = some o → H' a = some o
theorem Keep.refl (b : Addr) (H : Hp) : Keep b H H := fun _ _ _ e => e
theorem Keep.trans {b : Addr} {H H1 H2 : Hp} (x : Keep b H H1) (y : Keep b H1 H2) : Keep b H H2 := fun a o n e => y a o n (x a o n e)
theorem Same.keep {b : Addr} {H H' : Hp} (s : Same H H') : Keep b H H' := fun a o _ e => s a o e
theorem same_upd {H H' : Hp} {D : Addr} {o : HO} (hD : H D = none) (s : Same H H') : Same H (upd H' D o) := fun b u e => by
  rw [upd_ne (ne_of_none e hD)]; exact s b u e
theorem same_new {H : Hp} {D : Addr} {o : HO} (hD : H D = none) : Same H (upd H D o) := same_upd hD (Same.refl H)
theorem keep_upd {b : Addr} {H H' : Hp} {D : Addr} {o : HO} (hD : H D = none) (s : Keep b H H') : Keep b H (upd H' D o) := fun a u n e => by
  rw [upd_ne (ne_of_none e hD)]; exact s a u n e
theorem keep_put {b : Addr} {H H' : Hp} {o : HO} (s : Keep b H H') : Keep b H (upd H' b o) := fun a u n e => by
  rw [upd_ne n]; exact s a u n e
theorem Keep.free {b : Addr} {H H' : Hp} (s : Keep b H H') {D : Addr} (n : D ≠ b) (h : H' D = none) : H D = none := by
  cases q : H D with
  | none => rfl
  | some o => rw [s D o n q] at h; cases h
theorem keep_seq {b a : Addr} {H H' : Hp} {K : PySem.W.Frag} {xs : List V} (s : Keep b H H') (n : a ≠ b) (h : SqL K H a xs) : SqL K H' a xs := by
  rcases h with (h | ⟨o, h⟩) | h
  · exact Or.inl (Or.inl (s _ _ n h))
  · exact Or.inl (Or.inr ⟨o, s _ _ n h⟩)
  · exact Or.inr h

/-- the law's bag of draws -/
def BagAt (H : Hp) (b : Addr) : Prop := ∃ d x n : Int, H b = some (.lst [.int d, .int x, .int n]) ∧ 0 ≤ d ∧ 0 ≤ x ∧ x < 2147483647
theorem BagAt.keep {H H' : Hp} {b a : Addr} (h : BagAt H b) (s : Keep a H H') (n : b ≠ a) : BagAt H' b := by
  obtain ⟨d, x, m, e, r⟩ := h
  exact ⟨d, x, m, s _ _ n e, r⟩
theorem BagAt.same {H H' : Hp} {b : Addr} (h : BagAt H b) (s : Same H H') : BagAt H' b := by
  obtain ⟨d, x, m, e, r⟩ := h
  exact ⟨d, x, m, s _ _ e, r⟩
theorem BagAt.ne {H : Hp} {b D : Addr} (h : BagAt H b) (hD : H D = none) : D ≠ b := by
  obtain ⟨d, x, m, e, r⟩ := h
  exact Ne.symm (ne_of_none e hD)

section
variable {K : PySem.W.Frag} {a D b : Addr} {xs : List V} {tt : TT} {te : TE} {j : Nat} {σ : L2.St} {H : Hp} {Qd : Hp → Prop}
/-- a comprehension over a list, nothing tracked is changed: filter and map -/
theorem lc_filt (p : V → Bool) (f : V → V) (hD : H D = none) (hS : SqL K H a xs) (hlen : xs.length < sizeLine)
    (ht : ∀ x H1 (R : Bool → Hp → Prop), x ∈ xs → Same H H1 → (∀ H3, Same H1 H3 → R (p x) H3) → tt ((wipe σ [j]).set j (some x)) H1 R)
    (he : ∀ x H1 (R : V → Hp → Prop), x ∈ xs → p x = true → Same H H1 → (∀ H3, Same H1 H3 → R (f x) H3) → te ((wipe σ [j]).set j (some x)) H1 R)
    (hd : ∀ H', Same H H' → H' D = some (.lst ((xs.filter p).map f)) → Qd H') :
    ∃ W : Nat → Nat → Hp → Prop, (∃ m, W 0 m (upd H D (.lst []))) ∧ ∀ i m H, W i m H →
      ((Itl K a).stop i H ∧ Qd H) ∨ ((Itl K a).go i H ∧ ∃ Nx : Hp → Prop, (∀ H', Nx H' → ∃ m', m' < m ∧ W (i + 1) m' H') ∧ ∀ x H', (Itl K a).yld i H x H' → gName j x (wipe σ [j]) H' fun σ2 H2 => wipe σ2 [j] = wipe σ [j] ∧ tt σ2 H2 fun b H3 =>
        if b = true then te σ2 H3 fun y H4 => ∃ acc, H4 D = some (.lst acc) ∧ acc.length < sizeLine ∧ Nx (upd H4 D (.lst (acc ++ [y]))) else Nx H3) := by
  refine lc_list (Pv := fun i H' => Same H H' ∧ H' D = some (.lst (((xs.take i).filter p).map f))) ⟨same_new hD, upd_same⟩ (fun i H' _ h => sqL_same h.1 hS) ?_ ?_
  · rintro i x H1 hx ⟨sm, hd1⟩
    have hm := List.mem_of_getElem? hx
    have et : xs.take (i + 1) = xs.take i ++ [x] := by rw [List.take_add_one, hx]; rfl
    have hl : (((xs.take i).filter p).map f).length < sizeLine := by
      rw [List.length_map]
      have h1 : ((xs.take i).filter p).length ≤ (xs.take i).length := List.length_filter_le _ _
      have h2 : (xs.take i).length ≤ xs.length := by rw [List.length_take]; exact Nat.min_le_right _ _
      omega
    refine ⟨?_, ht x H1 _ hm sm fun H3 s3 => ?_⟩
    · show (wipe ((wipe σ [j]).set j (some x)) [j]) = wipe σ [j]
      show (((σ.set j none).set j (some x)).set j none) = σ.set j none
      simp
    · cases hp : p x with
      | true =>
        refine iteT (he x H3 _ hm hp (sm.trans s3) fun H4 s4 => ?_)
        refine ⟨_, s4 _ _ (s3 _ _ hd1), hl, same_upd hD ((sm.trans s3).trans s4), ?_⟩
        rw [upd_same, et, List.filter_append, List.map_append]
        simp [hp]
      | false =>
        refine iteF ⟨sm.trans s3, ?_⟩
        rw [s3 _ _ hd1, et, List.filter_append, List.map_append]
        simp [hp]
  · rintro H1 ⟨sm, hd1⟩
    rw [List.take_length] at hd1
    exact hd H1 sm hd1
/-- a comprehension over range(n) whose element draws from the bag at b -/
theorem lc_draw {lo : Int} {n : Nat} (Good : V → Prop) (hb : BagAt H b) (hD : H D = none) (hlen : n < sizeLine)
    (he : ∀ i H1 (R : V → Hp → Prop), i < n → Keep b H H1 → BagAt H1 b → (∀ y H3, Keep b H1 H3 → BagAt H3 b → Good y → R y H3) → te ((wipe σ [j]).set j (some (.int (lo + i)))) H1 R)
    (hd : ∀ H' acc, Keep b H H' → BagAt H' b → H' D = some (.lst acc) → acc.length = n → (∀ y ∈ acc, Good y) → Qd H') :
    ∃ W : Nat → Nat → Hp → Prop, (∃ m, W 0 m (upd H D (.lst []))) ∧ ∀ i m H, W i m H →
      ((Itr lo n).stop i H ∧ Qd H) ∨ ((Itr lo n).go i H ∧ ∃ Nx : Hp → Prop, (∀ H', Nx H' → ∃ m', m' < m ∧ W (i + 1) m' H') ∧ ∀ x H', (Itr lo n).yld i H x H' → gName j x (wipe σ [j]) H' fun σ2 H2 => wipe σ2 [j] = wipe σ [j] ∧ tYes σ2 H2 fun b H3 =>
        if b = true then te σ2 H3 fun y H4 => ∃ acc, H4 D = some (.lst acc) ∧ acc.length < sizeLine ∧ Nx (upd H4 D (.lst (acc ++ [y]))) else Nx H3) := by
  have nDb := hb.ne hD
  refine lc_range (Pv := fun i H' => Keep b H H' ∧ BagAt H' b ∧ ∃ acc, H' D = some (.lst acc) ∧ acc.length = i ∧ ∀ y ∈ acc, Good y)
    ⟨keep_upd hD (Keep.refl b H), hb.same (same_new hD), [], upd_same, rfl, fun _ h => nomatch h⟩ ?_ ?_
  · rintro i H1 hi ⟨kp, bg, acc, hacc, hl, hg⟩
    refine ⟨?_, ?_⟩
    · show (((σ.set j none).set j (some (V.int (lo + i)))).set j none) = σ.set j none
      simp
    · refine he i H1 _ hi kp bg fun y H3 k3 b3 gy => ?_
      have h3 := k3 D _ nDb hacc
      refine ⟨acc, h3, by omega, keep_upd hD (kp.trans k3), ?_, acc ++ [y], upd_same, by simp [hl], ?_⟩
      · obtain ⟨d, x, m, e, r⟩ := b3
        exact ⟨d, x, m, by rw [upd_ne nDb.symm]; exact e, r⟩
      · intro z hz
        rcases List.mem_append.mp hz with q | q
        · exact hg z q
        · rw [List.mem_singleton.mp q]; exact gy
  · rintro H1 ⟨kp, bg, acc, hacc, hl, hg⟩
    exact hd H1 acc kp bg hacc hl hg
end
end LF

set_option Elab.async false
set_option linter.all false
set_option maxRecDepth 100000
set_option maxHeartbeats 4000000
namespace PySem
namespace BadPathX
open PySem.W PySem.Calls PyProof.Rows PySem.HandSPX
/-! ### the text of __init__ -/
def iA (p1 p2 : Pos) : Arguments := { posonlyargs := [], args := [{ arg := "self", annotation := none, pos := p1 }, { arg := "path", annotation := none, pos := p2 }], vararg := none, kwonlyargs := [], kw_defaults := [], kwarg := none, defaults := [] }
def iB (q1 q2 q3 q4 : Pos) : List Stmt := [.Assign [.Attribute (.Name "self" q1) "path" q2] (.Name "path" q3) q4]
def iS : Scope := { kind := .function, names := [(PySem.Str.ofString "self", .local), (PySem.Str.ofString "path", .local)], isGenerator := false, isCoroutine := false, more := [] }
/-- what the written part says of Low, at C, and of its __init__, at fI -/
structure PathTxt (K : Frag) (mg : Str → Option Value) (C fI : Addr) : Prop where
  gC : mg "BadPath" = some (.ref C)
  cls : ∃ nm q N bs bm sn sub ab col dd k0 k1 k2 k3 k5, K.lookup C = some (excClassObj nm q C N bs bm true sn sub ab col dd k0 k1 k2 k3 k5 "ValueError.__new__") ∧ refsVE bm = true
  sa : findIn K (.ref C) "__setattr__" = some (some (.builtin "object.__setattr__"))
  ga : findIn K (.ref C) "__getattribute__" = some (some (.builtin "BaseException.__getattribute__"))
  gg : findIn K (.ref C) "__getattr__" = some none
  noN : findIn K (.ref C) "path" = some none
  iC : findIn K (.ref C) "__init__" = some (some (.ref fI))
  tC : typeIn K (.ref fI) = some (.type "function")
  kC : keepIn K (.ref C) = true
  exC : subIn K (.ref C) (.type "BaseException") = some true
  tyC : typeIn K (.ref C) = some (.type "type")
  hdC : hasDictIn K C = true
  te : exmOne K (.ref C) (.ref C) = some true
  fn : ∃ (oc : Value) (od : Option Addr) (doc pm : Value) (an : Option Addr) (cdv ct : Value) (osl : Array (Option Value)) (p1 p2 q1 q2 q3 q4 : Pos),
    K.lookup fI = some ⟨oc, od, .func (fnOf "__init__" "BadPath.__init__" (iA p1 p2) (iB q1 q2 q3 q4) iS .none .none doc pm an cdv ct), osl⟩ ∧ codeIn K cdv "BadPath.__init__" = true
theorem one_size (v : Value) : [v].length ≤ sizeLine := by
  rw [sizeLine_eq]
  exact (by decide : 1 ≤ 16777216)
theorem kept_but {K : Frag} {h h' : Heap} {x : Addr} (X : K.In h) (hx : K.lookup x = none) (k : ∀ b o, b ≠ x → h.get? b = some o → h'.get? b = some o) : K.In h' := fun a o e =>
  k a o (fun z => by rw [z, hx] at e; cases e) (X a o e)
theorem ldC {M : Model} {s : Shared} {name : Str} {scope : Scope} {L a : Addr} {cd : Value} {m : Str → Option Value} {x : Str} {pos : Pos} {v : Value} {Q : Value → Shared → Prop} {A : Around} {E : Value → Shared → Prop} (hn : s.heap.Ns L m) (hv : m x = some v) (h : Q v s)
    (hk : scope.kind = .function := by rfl) (hl : (envOfC name scope L a cd).kindOf x = some .local := by rfl) (hd : (x == ("__debug__" : Str)) = false := by decide) :
    wpAny M A (eval (.Name x pos) (envOfC name scope L a cd)) Q E s := wpAny_Name (wpAny_loadName_local hk hl hn hv h) hd
/-- what __init__ leaves of a fresh exception at x -/
structure InitEnd (h h' : Heap) (x C dx t1 : Addr) (v : Value) : Prop where
  keep : ∀ b o, b ≠ x → h.get? b = some o → h'.get? b = some o
  obj : h'.get? x = some { cls := .ref C, dict := some dx, data := .fields #[.ref t1, .none, .none, .none, .bool false, .none] }
  dbig : h.objs.size ≤ dx
  dne : dx ≠ x
  ns : h'.Ns1 dx (fun y => if y = "path" then some v else none)
/-- a made Low -/
structure OwnMade (h h' : Heap) (e C d : Addr) (v : Value) : Prop where
  keep : ∀ b o, h.get? b = some o → h'.get? b = some o
  new : h.objs.size ≤ e
  obj : ∃ oe vs, h'.get? e = some oe ∧ oe.cls = .ref C ∧ oe.dict = some d ∧ oe.data = .fields vs ∧ vs[1]? = some .none
  dbig : h.objs.size ≤ d
  dne : d ≠ e
  ns : h'.Ns1 d (fun y => if y = "path" then some v else none)
section
variable {prog : Program} {w : World} {A : Around} {E : Value → Shared → Prop} {R : Result → Shared → Prop} {s : Shared} {K : Frag} {mg : Str → Option Value} {C fI : Addr}
theorem low_init (T : PathTxt K mg C fI) {x t0 : Addr} {v : Value} (X : K.In s.heap) (hlim : s.heap.NoLimit) (hx : s.heap.get? x = some (excO C t0)) (hnx : K.lookup x = none) (hroom : A.depth < recursionLimit)
    (hq : ∀ h' tk dx, InitEnd s.heap h' x C dx t0 v → R (.ok (.ret .none)) { s with heap := h', toks := tk }) :
    codeAny (model prog w) A (.call (.ref fI) ⟨[.ref x, v], []⟩) R s := by
  obtain ⟨oc, od, doc, pm, an, cdv, ct, osl, p1, p2, q1, q2, q3, q4, ho, hcd⟩ := T.fn
  obtain ⟨nm, q, N, bs, bm, sn, sub, ab, col, dd, k0, k1, k2, k3, k5, hC, hbm⟩ := T.cls
  have hcl : clsIn K C = some { name := nm, bases := bs, mro := .ref C :: bm, ns := N, qualname := q, hasDict := true, slotNames := sn, subclasses := sub, abstract := ab, collection := col, hasDel := false } := by unfold clsIn; rw [hC] <;> rfl
  refine Att.call_fn (binds := [("self", .ref x), ("path", v)]) X hlim ho hcd hroom (BindsTo.of_eq (by first | rfl | with_unfolding_all rfl)) (by first | rfl | decide | with_unfolding_all rfl) (fun s₁ IC => ?_) rfl rfl rfl
  obtain ⟨h₁, tk₁, rfl⟩ := IC.toInCall.same
  have k : ∀ b o, s.heap.get? b = some o → h₁.get? b = some o := IC.toInCall.keep
  have hn := IC.toInCall.ns
  have hxL : s.heap.objs.size ≠ x := Nat.ne_of_gt (Heap.lt_size hx)
  have X₁ : K.In h₁ := X.keeps k
  have hx₁ := k _ _ hx
  -- self.by = by
  show wpAny _ _ (execs _ _) _ _ _
  refine wpAny_execs_cons (plainObj_wpAny_Assign_Attribute ?_)
  refine ldC (v := v) hn (by first | rfl | with_unfolding_all rfl | kernel_rfl) (ldC (v := .ref x) hn (by first | rfl | with_unfolding_all rfl | kernel_rfl) ?_)
  refine set_plain X₁ (ox := excO C t0) (od := none) ⟨hx₁, rfl, rfl, trivial⟩ T.sa ?_
  refine exc_osa X₁ hx₁ hcl (show refsVE (.ref C :: bm) = true from hbm) rfl T.noN (fun h₃ tk₃ dx k₃ dn dne hx₃ hn₃ => ?_)
  show wpAny _ _ (execs _ _) _ _ _
  have z : s.heap.objs.size < h₁.objs.size := hn.lt
  exact wpAny_execs_nil (hq h₃ tk₃ dx ⟨fun b o hb e => k₃ b o hb (k b o e), hx₃, Nat.le_of_lt (Nat.lt_of_lt_of_le z dn), dne, hn₃⟩)
theorem low_made (T : PathTxt K mg C fI) {v : Value} (X : K.In s.heap) (hlim : s.heap.NoLimit) (hroom : A.depth + 1 < recursionLimit)
    (hq : ∀ h' tk e d, OwnMade s.heap h' e C d v → R (.ok (.ret (.ref e))) { s with heap := h', toks := tk }) :
    codeAny (model prog w) A (.call (.ref C) ⟨[v], []⟩) R s := by
  obtain ⟨nm, q, N, bs, bm, sn, sub, ab, col, dd, k0, k1, k2, k3, k5, hC, hbm⟩ := T.cls
  obtain ⟨hp, g, dr, tk, os⟩ := s
  have k : ∀ b o, hp.get? b = some o → ((hp.push (kdv_tup [v])).push (excO C hp.objs.size)).get? b = some o := fun b o e => Heap.get?_push_of_some _ (Heap.get?_push_of_some _ e)
  have hget : ((hp.push (kdv_tup [v])).push (excO C hp.objs.size)).get? (hp.objs.size + 1) = some (excO C hp.objs.size) := by heap_get
  have hnx : K.lookup (hp.objs.size + 1) = none := by
    cases e : K.lookup (hp.objs.size + 1) with
    | none => rfl
    | some o =>
      have z : hp.get? (hp.objs.size + 1) = some o := X _ _ e
      exact absurd (Nat.lt_of_succ_lt (Heap.lt_size z)) (Nat.lt_irrefl _)
  refine call_own F.excBase_ValueError (fun X => refsVE_contains X bm hbm) (X _ _ hC) (looks_findIn X T.iC) (fun self => bind_fn X self T.tC) (one_size v) ?_
  refine low_init (s := ⟨(hp.push (kdv_tup [v])).push (excO C hp.objs.size), g, dr, tk, os⟩) T (X.keeps k) (hlim.keeps k) hget hnx ?_ fun h' tk' dx ⟨k', hx, dn, dne, hns⟩ => ?_
  · show A.depth + 1 < recursionLimit
    exact hroom
  · have old : ∀ b o, hp.get? b = some o → h'.get? b = some o := fun b o e => k' b o (Nat.ne_of_lt (Nat.lt_succ_of_lt (Heap.lt_size e))) (k b o e)
    have z : hp.objs.size + 1 + 1 ≤ dx := by
      first
        | (simpa only [Heap.size_push] using dn)
        | exact dn
        | (have q := dn; rw [Heap.size_push, Heap.size_push] at q; exact q)
    exact ⟨rfl, hq h' tk' (hp.objs.size + 1) dx ⟨old, Nat.le_succ _, ⟨_, _, hx, rfl, rfl, rfl, rfl⟩, Nat.le_trans (Nat.le_trans (Nat.le_succ _) (Nat.le_succ _)) z, dne, hns⟩⟩
end
end BadPathX
end PySem
namespace L2
open PySem PySem.Spec PyProof.Rows
theorem relO_path {v : V} {v' : Value} (r : RelV v v') (f : Str) : RelO (List.lookup f [(("path" : Str), v)]) (if f = "path" then some v' else none) := by
  by_cases hw : f = "path"
  · subst hw
    rw [if_pos rfl]
    have q : List.lookup ("path" : Str) [(("path" : Str), v)] = some v := by simp [List.lookup]
    rw [q]
    exact r
  · rw [if_neg hw]
    have qw : (f == ("path" : Str)) = false := by simpa using hw
    have q2 : List.lookup f [(("path" : Str), v)] = none := by simp [List.lookup, qw]
    rw [q2]
    trivial
section
variable {X : Cx} {C fI : Addr}
/-- Low(e) -/
def tMkPath (C : Addr) (ta : TA) : St → Hp → XK → Prop := fun σ H Q => ta σ H fun vs H1 => ∃ v, vs = [v] ∧ ∀ d, H1 d = none → Q (.ref C) (some d) (upd H1 d (.xd [(("path" : Str), v)]))
theorem pmk_path {a : Expr} {ta : TA} {p pos : Pos} {k : Nat} (T : PySem.BadPathX.PathTxt X.K X.mg C fI) (hr : Room k X.A) (ha : PA X [a] ta) (hg : Gl X "BadPath" := by rfl)
    (he : starEach (a :: []) X.env = (false, eval a X.env) :: starEach [] X.env := by rfl) (hpl : (backTo pos (starEach [] X.env)).any (·.1) = false := by rfl) :
    PMk X (.Call (.Name "BadPath" p) [a] [] pos) (tMkPath C ta) := by
  intro pins s σ H Q I h
  refine wpAny_Call_Name_kw (ld_glob I hg T.gC ?_)
  refine PySem.W.callWith_K (h₀ := X.base) I.ok.mod.kin T.kC (thn (ha.run pos pins s σ H _ I h) fun us s1 hh => ?_) he hpl
  obtain ⟨vs, H1, I1, r1, v, ev, q1⟩ := hh
  subst ev
  refine ⟨I1.kIn, ?_⟩
  cases r1 with
  | cons rv rn =>
    rename_i v' us'
    cases rn
    show wpAny _ _ (call (.ref C) [v']) _ _ _
    have hlim := I1.nolimit
    obtain ⟨hp, g, dr, tk, os⟩ := s1
    refine wpAny_call (PySem.BadPathX.low_made T I1.kIn hlim (by have := hr.dp; omega) fun h' tk' e d M => ?_)
    show MkP X pins σ Q (.ref e) ⟨h', g, dr, tk', os⟩
    obtain ⟨oe, fv, hoe, hc, hd, hdat, h1⟩ := M.obj
    have hns := M.ns
    obtain ⟨G', g1, g2⟩ := restrict h' fun b => decide (b ≠ e)
    have gk : ∀ b, b ≠ e → G'.get? b = h'.get? b := fun b hb => g1 b (decide_eq_true hb)
    have ge : G'.get? e = none := g2 e (by simp)
    have old : ∀ b o, hp.get? b = some o → G'.get? b = some o := fun b o q => (gk b (Nat.ne_of_lt (Nat.lt_of_lt_of_le (Heap.lt_size q) M.new))).trans (M.keep b o q)
    have ob : ObjOk X.prog X.w (upd H1 d (.xd [(("path" : Str), v)])) G' d (.xd [(("path" : Str), v)]) :=
      ⟨_, hns.at (fun o q => (gk d M.dne).trans q), fun f => relO_path rv f⟩
    have J : Inv X pins σ (upd H1 d (.xd [(("path" : Str), v)])) ⟨G', g, dr, tk', os⟩ := I1.laid (t' := tk') old M.dbig ob
    refine ⟨e, oe, fv, ⟨G', g, dr, tk', os⟩, _, .ref C, some d, rfl, J, fun b o q => ?_, ge, hoe, ⟨hc, hd⟩, hdat, h1, ?_, rfl, I1.bare, raises_own T.exC T.tyC, q1 d (I1.hok.fresh M.dbig)⟩
    · by_cases hb : b = e
      · have q' : G'.get? b = some o := q
        rw [hb, ge] at q'; cases q'
      · exact (gk b hb).symm.trans q
    · rw [upd_ne (Ne.symm M.dne)]
      exact I1.hok.fresh M.new
/-- raise Low(e) -/
def tRaisePath (C : Addr) (W : WX) (ta : TA) : TS := fun _ σ H => tMkPath C ta σ H fun cls d H' => W cls d σ H'
theorem ps_raisePath {a : Expr} {ta : TA} {W : WX} {p pos pos2 : Pos} {k : Nat} (hc : X.calm = true) (T : PySem.BadPathX.PathTxt X.K X.mg C fI) (hr : Room k X.A) (tk : Takes X W) (ha : PA X [a] ta) (hg : Gl X "BadPath" := by rfl)
    (he : starEach (a :: []) X.env = (false, eval a X.env) :: starEach [] X.env := by rfl) (hpl : (backTo pos (starEach [] X.env)).any (·.1) = false := by rfl) :
    PS X (.Raise (some (.Call (.Name "BadPath" p) [a] [] pos)) none pos2) (tRaisePath C W ta) := ps_raise hc tk (pmk_path T hr ha hg he hpl)
/-- low.by, low the exception that the suite holds (at a; its class cls, its dict d) -/
def tPathOf (C : Addr) (a : Addr) (cls : Value) (d : Option Addr) (te : TE) : TE := fun σ H Q => te σ H fun x H1 => x = .ref a ∧ cls = .ref C ∧ ∃ (dd : Addr) (v : V), d = some dd ∧ H1 dd = some (.xd [(("path" : Str), v)]) ∧ Q v H1
theorem pe_pathOf {a : Addr} {oe : Obj} {cls : Value} {d : Option Addr} {pn : List (Addr × Obj)} {e : Expr} {te : TE} {pos : Pos} (T : PySem.BadPathX.PathTxt X.K X.mg C fI) (hz : Zc cls d oe) (hf : ∃ vs, oe.data = .fields vs) (he : PE (X.suite a ((a, oe) :: pn)) e te)
    (hb : attributeBase e "path" X.env (eval e X.env) = eval e X.env := by rfl) :
    PE (X.suite a ((a, oe) :: pn)) (.Attribute e "path" pos) (tPathOf C a cls d te) := by
  refine ⟨fun pins s σ H Q I h => ?_⟩
  refine attr_of hb (thn (he.run pins s σ H _ I h) fun u s1 hh => ?_)
  obtain ⟨x, H1, I1, rx, ex, ec, dd, v, ed, ea, q⟩ := hh
  subst ex
  obtain rfl : u = Value.ref a := rx
  subst ec
  subst ed
  obtain ⟨ha, _⟩ := I1.pin (a, oe) (List.mem_append_left _ List.mem_cons_self)
  obtain ⟨vs, hd⟩ := hf
  have hx : ObjOk X.prog X.w H1 s1.heap dd (.xd [(("path" : Str), v)]) := I1.hok dd _ ea
  obtain ⟨mA, hns, hr⟩ := hx
  obtain ⟨od, ho, hl⟩ := lookIn_ns hns
  have l : List.lookup ("path" : Str) [(("path" : Str), v)] = some v := by simp [List.lookup]
  obtain ⟨u, hu, ru⟩ := RelO.some_of (v := v) (o := mA "path") (by rw [← l]; exact hr "path")
  have J : PySem.W.InstAt s1.heap a oe C (some od) := ⟨ha, hz.1, by unfold PySem.W.notCls; rw [hd] <;> rfl, by rw [hz.2]; exact ho⟩
  exact HandSPX.exc_get I1.kIn J T.ga T.gg T.exC (PySem.W.findObj_own T.hdC T.noN rfl (by rw [hl, hu])) (handed_of ru) ⟨v, H1, I1.tok _, ru, q⟩
end
end L2

namespace L2
open PySem PySem.Spec PyProof.Rows
/-- an if whose test is known -/
theorem if_true_of {c : Bool} {A B : Prop} (hc : c = true) (h : A) : if c = true then A else B := by
  rw [if_pos hc]
  exact h
theorem if_false_of {c : Bool} {A B : Prop} (hc : c = false) (h : B) : if c = true then A else B := by
  rw [hc, if_neg Bool.false_ne_true]
  exact h
end L2

set_option Elab.async false
set_option linter.all false
set_option maxRecDepth 100000
set_option maxHeartbeats 4000000
namespace K1
open PySem PySem.Spec PyProof.Rows L2 LF
def c_sl : Str := "/"
def parts (z : Str) : List Str := if z = "" then [] else PySem.Txt.split z c_sl
def isPt (z : Str) : Bool := decide (z = "") || (PySem.Txt.split z c_sl).all isNm
/-- a value asked whether it is one: a text, or of another type -/
def isOk (K : PySem.W.Frag) (H : Hp) (x : V) (g : Str → Bool) (b : Bool) : Prop :=
  (∃ z : Str, x = .str z ∧ z.length ≤ 1000000 ∧ b = g z) ∨ ((∃ t, TyX K H x t ∧ PySem.W.kitOne K t (.type "str") = some false) ∧ b = false)
def spPath (K : PySem.W.Frag) : Sp := fun vs H Q _ => ∃ (x : V) (b : Bool), vs = [x] ∧ isOk K H x isPt b ∧ ∀ H', Same H H' → Q (.bl b) H'
def spCheck (K : PySem.W.Frag) (CP : Addr) : Sp := fun vs H Q E => ∃ (x : V) (b : Bool), vs = [x] ∧ isOk K H x isPt b ∧ (b = true → ∀ H', Same H H' → Q .non H') ∧
  (b = false → ∀ H' d, Same H H' → H' d = some (.xd [("path", x)]) → E (.ref CP) (some d) H')
def spSplit : Sp := fun vs H Q _ => ∃ z : Str, vs = [.str z] ∧ z.length ≤ 1000000 ∧ ∀ H' p, Same H H' → H p = none → H' p = some (.lst ((parts z).map V.str)) → Q (.ref p) H'
def spNames (K : PySem.W.Frag) (CP : Addr) : Sp := fun vs H Q E => ∃ (x : V) (b : Bool), vs = [x] ∧ isOk K H x isPt b ∧ (∀ z, x = .str z → b = true → ∀ H' p, Same H H' → H' p = some (.tup ((parts z).map V.str)) → Q (.ref p) H') ∧
  (b = false → ∀ H' d, Same H H' → H' d = some (.xd [("path", x)]) → E (.ref CP) (some d) H')
def spParent : Sp := fun vs H Q _ => ∃ z : Str, vs = [.str z] ∧ z.length ≤ 1000000 ∧ isPt z = true ∧ ∀ H', Same H H' → Q (if z = "" then .non else .str (PySem.Txt.rpartition z c_sl).1) H'
def keyD (z : Str) : PyData := .tuple [.int (parts z).length, .list ((parts z).map .str)]
def spKey (K : PySem.W.Frag) : Sp := fun vs H Q _ => ∃ z : Str, vs = [.str z] ∧ z.length ≤ 1000000 ∧ ∀ v H', Same H H' → Dp K H' v (keyD z) → Q v H'

abbrev s_is_path : Stmt := topS 14
abbrev N_is_path : List Str := ["thing", "part"]
theorem sc_is_path : FnScope ["thing", "part"] ["thing"] (defScope s_is_path) := ⟨rfl, rfl, rfl, by decide +kernel, rfl, by decide +kernel, by decide +kernel⟩
abbrev s_check_path : Stmt := topS 15
theorem sc_check_path : FnScope ["path"] ["path"] (defScope s_check_path) := ⟨rfl, rfl, rfl, by decide +kernel, rfl, by decide +kernel, by decide +kernel⟩
abbrev s_names_of : Stmt := topS 16
theorem sc_names_of : FnScope ["path"] ["path"] (defScope s_names_of) := ⟨rfl, rfl, rfl, by decide +kernel, rfl, by decide +kernel, by decide +kernel⟩
abbrev s_in_order : Stmt := topS 17
theorem sc_in_order : FnScope ["paths"] ["paths"] (defScope s_in_order) := ⟨rfl, rfl, rfl, by decide +kernel, rfl, by decide +kernel, by decide +kernel⟩
abbrev s_split_path : Stmt := topS 18
theorem sc_split_path : FnScope ["path"] ["path"] (defScope s_split_path) := ⟨rfl, rfl, rfl, by decide +kernel, rfl, by decide +kernel, by decide +kernel⟩
abbrev s_order_key : Stmt := topS 19
theorem sc_order_key : FnScope ["path", "parts"] ["path"] (defScope s_order_key) := ⟨rfl, rfl, rfl, by decide +kernel, rfl, by decide +kernel, by decide +kernel⟩

theorem str_dec (z y : Str) : decide (V.str z = V.str y) = decide (z = y) := by
  by_cases h : z = y
  · subst h; simp
  · rw [decide_eq_false h, decide_eq_false (fun e => h (V.str.inj e))]
theorem sl_ne : (c_sl.length == 0) = false := by decide +kernel
theorem parts_len (z : Str) (hz : z.length ≤ 1000000) : (parts z).length ≤ 1000002 := by
  unfold parts
  split
  · exact Nat.zero_le _
  · exact Nat.le_trans (split_le z c_sl) (by omega)
theorem sizeLine_big : 1000010 < sizeLine := by decide

section
variable {P : Program} {w : World} {K : PySem.W.Frag} {mg : Str → Option Value} {base : Heap} {tk1 tk2 : Tok}
theorem ok_is_path {f f1 : Addr} {fd fd1 : FuncData} (F : Fun K "is_path" "is_path" s_is_path f fd) (T : Txt K mg tk1 tk2) (d_is_name : DefAt P w K mg base "is_name" 1 f1 fd1 ["thing"] (spName K)) :
    FnOk P w K mg base CX0 2 f fd ["thing"] (spPath K) := by
  refine F.ok sc_is_path (fun vs H Q E h => ?_) (fun cdv A outer s H vs Q E hr h => ?_)
  · obtain ⟨x, b, rfl, _⟩ := h
    rfl
  refine ⟨_, (pss_cons (ps_if (pt_not (pt_val (pe_callB call_isi (by rfl) T.n_isinstance (by decide +kernel) (pa_cons (pv 0) (pa_cons (pe_bltn (v := .ty "str") (by rfl) T.n_str (by decide +kernel) rfl) pa_nil))))) (pss_one (ps_ret pe_bl)) pss_nil)
    (pss_one (ps_ret (pe_or (pe_cmpR op_eq (pv 0) pe_str (nomark _)) (pe_one (pe_callB (cr_all rfl) (by rfl) T.n_all (by decide +kernel) (pa_cons (pe_lc (own := [("part", 1)]) rfl sc_is_path.nd (pi_list (pe_split (pv 0) pe_str)) (blkOk_by (N := N_is_path) (sc := defScope s_is_path) (by decide +kernel)) (fun _ _ _ _ _ => pg_name (i := 1) sc_is_path.nd rfl (Or.inl rfl)) (fun _ _ _ _ _ => pts_nil) (fun _ _ _ _ _ => (pe_callD d_is_name (hr.mono (by decide)) (pa_cons (pv 1) pa_nil)))) pa_nil))))))), ?_⟩
  obtain ⟨x, b, rfl, hx, hq⟩ := h
  rcases hx with ⟨z, rfl, hz, rfl⟩ | ⟨⟨t, ty, ht⟩, rfl⟩
  rotate_left
  · refine ⟨_, rfl, _, .ty "str", _, _, false, rfl, .ty _, ty, ht, ?_⟩
    exact ⟨_, rfl, iteT (hq H (Same.refl H))⟩
  refine ⟨_, rfl, _, .ty "str", _, _, true, rfl, .ty _, .base (.str _), kit_str, _, rfl, iteF ?_⟩
  refine ⟨_, rfl, rfl, _, rfl, ?_⟩
  have hbig := sizeLine_big
  rw [str_dec]
  refine ifD (fun h1 => ?_) (fun h1 => ?_)
  · have := hq H (Same.refl H)
    unfold isPt at this
    rw [decide_eq_true h1] at this
    exact this
  · refine ⟨_, rfl, ⟨_, rfl⟩, z, c_sl, rfl, rfl, sl_ne, by omega, fun p hp => ?_⟩
    refine ⟨p, rfl, ⟨_, SqL.of upd_same⟩, fun D hD => ?_⟩
    refine lc_filt (xs := (PySem.Txt.split z c_sl).map V.str) (fun _ => true) (fun x => match x with | .str y => .bl (isNm y) | _ => .non) hD (SqL.of upd_same) ?_ (fun x H1 R _ sm hR => hR H1 (Same.refl H1)) ?_ ?_
    · rw [List.length_map]
      have := split_le z c_sl
      omega
    · intro x H1 R hx _ sm hR
      obtain ⟨y, hy, rfl⟩ := List.mem_map.mp hx
      refine ⟨_, rfl, _, rfl, Or.inl ⟨y, rfl, Nat.le_trans (part_short hy) hz, fun H' sm' => hR H' sm'⟩⟩
    · intro H2 sm hd
      refine ⟨D, (PySem.Txt.split z c_sl).map isNm, rfl, SqL.of ?_, ?_⟩
      · rw [hd, List.filter_eq_self.mpr (fun _ _ => rfl), List.map_map, List.map_map]; rfl
      · have := hq H2 ((same_new hp).trans sm)
        unfold isPt at this
        rw [decide_eq_false h1, Bool.false_or] at this
        rw [List.all_map]
        exact this
theorem ok_check_path {f f1 CP fP : Addr} {fd fd1 : FuncData} (F : Fun K "check_path" "check_path" s_check_path f fd) (L : PySem.BadPathX.PathTxt K mg CP fP) (d_is_path : DefAt P w K mg base "is_path" 2 f1 fd1 ["thing"] (spPath K)) :
    FnOk P w K mg base (L2.CX P w) 4 f fd ["path"] (spCheck K CP) := by
  refine F.okX sc_check_path (fun vs H Q E h => ?_) (fun cdv A outer s H vs Q E hr h => ?_)
  · obtain ⟨x, b, rfl, _⟩ := h
    rfl
  refine ⟨_, (pss_one (ps_if (pt_not (pt_val (pe_callD d_is_path (hr.mono (by decide)) (pa_cons (pv 0) pa_nil)))) (pss_one (ps_raisePath rfl L hr (takes_of rfl rfl rfl rfl) (by exact (pa_cons (pv 0) pa_nil)))) pss_nil)), ?_⟩
  obtain ⟨x, b, rfl, hx, hq, he⟩ := h
  refine ⟨_, rfl, x, b, rfl, hx, fun H' sm => ⟨_, rfl, ?_⟩⟩
  cases b with
  | true => exact iteF (hq rfl H' sm)
  | false => exact iteT ⟨_, rfl, x, rfl, fun d hd => he rfl _ d (sm.trans (same_new hd)) upd_same⟩
theorem ok_split_path {f : Addr} {fd : FuncData} (F : Fun K "split_path" "split_path" s_split_path f fd) : FnOk P w K mg base CX0 1 f fd ["path"] spSplit := by
  refine F.ok sc_split_path (fun vs H Q E h => ?_) (fun cdv A outer s H vs Q E hr h => ?_)
  · obtain ⟨x, rfl, _⟩ := h
    rfl
  refine ⟨_, (pss_cons (ps_if (pt_cmpR op_eq (pv 0) pe_str (nomark _)) (pss_one (ps_ret (pe_lst pa_nil))) pss_nil) (pss_one (ps_ret (pe_split (pv 0) pe_str)))), ?_⟩
  obtain ⟨z, rfl, hz, hq⟩ := h
  have hbig := sizeLine_big
  refine ⟨_, rfl, rfl, _, rfl, ?_⟩
  rw [str_dec]
  refine ifD (fun h1 => ?_) (fun h1 => ?_)
  · refine ⟨Nat.zero_le _, fun p hp => hq _ p (same_new hp) hp ?_⟩
    rw [upd_same, parts, if_pos h1]; rfl
  · refine ⟨_, rfl, ⟨_, rfl⟩, z, c_sl, rfl, rfl, sl_ne, by omega, fun p hp => hq _ p (same_new hp) hp ?_⟩
    rw [upd_same, parts, if_neg h1]
theorem ok_names_of {f f1 f2 CP : Addr} {fd fd1 fd2 : FuncData} (F : Fun K "names_of" "names_of" s_names_of f fd) (T : Txt K mg tk1 tk2) (FC : FnOk P w K mg base (L2.CX P w) 4 f1 fd1 ["path"] (spCheck K CP)) (gC : mg "check_path" = some (.ref f1)) (kC : PySem.W.keepIn K (.ref f1) = true) (bC : Binds K fd1 ["path"] [])
    (d_split_path : DefAt P w K mg base "split_path" 1 f2 fd2 ["path"] spSplit) :
    FnOk P w K mg base (L2.CX P w) 5 f fd ["path"] (spNames K CP) := by
  refine F.okX sc_names_of (fun vs H Q E h => ?_) (fun cdv A outer s H vs Q E hr h => ?_)
  · obtain ⟨x, b, rfl, _⟩ := h
    rfl
  refine ⟨_, (pss_cons (ps_expr (pe_callS FC hr rfl gC kC bC (fun σ => passAt (takes_of rfl rfl rfl rfl) σ) (by exact (pa_cons (pv 0) pa_nil))))
    (pss_one (ps_ret (pe_callTy call_tuple_of (by rfl) T.n_tuple (by decide +kernel) (pa_cons (pe_callD d_split_path (hr.mono (by decide)) (pa_cons (pv 0) pa_nil)) pa_nil))))), ?_⟩
  obtain ⟨x, b, rfl, hx, hq, he⟩ := h
  refine ⟨_, rfl, x, b, rfl, hx, fun hb H1 s1 => ?_, fun hb H' d s' hd => he hb H' d s' hd⟩
  subst hb
  rcases hx with ⟨z, rfl, hz, hb⟩ | ⟨_, hb⟩
  · refine ⟨_, rfl, z, rfl, hz, fun H2 p s2 np hp2 => ?_⟩
    refine ⟨p, _, rfl, Or.inl ⟨SqL.of hp2, fun l hl => hq z rfl rfl _ l ((s1.trans s2).trans (same_new hl)) upd_same⟩⟩
  · cases hb
theorem ok_order_key {f f1 : Addr} {fd fd1 : FuncData} (F : Fun K "order_key" "order_key" s_order_key f fd) (T : Txt K mg tk1 tk2) (d_split_path : DefAt P w K mg base "split_path" 1 f1 fd1 ["path"] spSplit) :
    FnOk P w K mg base CX0 2 f fd ["path"] (spKey K) := by
  refine F.ok sc_order_key (fun vs H Q E h => ?_) (fun cdv A outer s H vs Q E hr h => ?_)
  · obtain ⟨x, rfl, _⟩ := h
    rfl
  refine ⟨_, (pss_cons (ps_set (i := 1) sc_order_key.nd rfl (Or.inl rfl) (pe_callD d_split_path (hr.mono (by decide)) (pa_cons (pv 0) pa_nil)))
    (pss_one (ps_ret (pe_tup (pa_cons (pe_callB call_len_seq (by rfl) T.n_len (by decide +kernel) (pa_cons (pv 1) pa_nil)) (pa_cons (pv 1) pa_nil)))))), ?_⟩
  obtain ⟨z, rfl, hz, hq⟩ := h
  refine ⟨_, rfl, z, rfl, hz, fun H1 p s1 np hp1 => ?_⟩
  refine ⟨_, rfl, p, _, rfl, Or.inl (SqL.of hp1), _, rfl, (by show 2 ≤ sizeLine; decide), fun q hq1 => ?_⟩
  refine hq _ _ (s1.trans (same_new hq1)) ?_
  have npq : p ≠ q := ne_of_none hp1 hq1
  have dps : ∀ l : List Str, DpAll K (upd H1 q (.tup [.int ((List.map V.str (parts z)).length : Nat), .ref p])) (l.map V.str) (l.map .str) := by
    intro l
    induction l with
    | nil => exact .nil
    | cons a l ih => exact .cons (.str a) ih
  refine .tup (SqT.of upd_same) (.cons ?_ (.cons (.lst (SqL.of (by rw [upd_ne npq]; exact hp1)) (dps _)) .nil))
  rw [List.length_map]
  exact .int _
end
end K1

set_option Elab.async false
set_option linter.all false
set_option maxRecDepth 100000
set_option maxHeartbeats 4000000
namespace K1
open PySem PySem.Spec PyProof.Rows L2 LF
theorem isNm_len {z : Str} (h : isNm z = true) : 1 ≤ z.length ∧ z.length ≤ 8 := by
  unfold isNm at h
  rw [Bool.and_eq_true, decide_eq_true_eq] at h
  exact h.1
theorem sum_le {ss : List Str} {n : Nat} (h : ∀ s ∈ ss, s.length ≤ n) : (ss.map (·.length)).sum ≤ n * ss.length := by
  induction ss with
  | nil => simp
  | cons a l ih =>
    have h1 := h a List.mem_cons_self
    have h2 := ih fun s hs => h s (List.mem_cons_of_mem _ hs)
    rw [List.map_cons, List.sum_cons, List.length_cons, Nat.mul_succ]
    omega

def spOrder (K : PySem.W.Frag) : Sp := fun vs H Q _ => ∃ (a : Addr) (ws : List Str), vs = [.ref a] ∧ SqL K H a (ws.map V.str) ∧ (∀ x ∈ ws, x.length ≤ 1000000) ∧
  ∀ H' p, Same H H' → H p = none → H' p = some (.lst ((ws.mergeSort (PySem.W.dataLe false keyD)).map V.str)) → Q (.ref p) H'
theorem alike_strs : ∀ xs ys : List Str, PySem.W.alikeAll (xs.map .str) (ys.map .str) = true
  | [], _ => by simp [PySem.W.alikeAll]
  | _ :: _, [] => by simp [PySem.W.alikeAll]
  | x :: xs, y :: ys => by
    show PySem.W.alikeAll (.str x :: xs.map .str) (.str y :: ys.map .str) = true
    rw [PySem.W.alikeAll, alike_strs xs ys]
    simp [PySem.W.alike]
theorem key_alike (x y : Str) : PySem.W.alike (keyD x) (keyD y) = true := by
  show PySem.W.alikeAll [.int _, .list _] [.int _, .list _] = true
  rw [PySem.W.alikeAll, PySem.W.alikeAll, PySem.W.alikeAll]
  show (true && (PySem.W.alikeAll _ _ && true)) = true
  rw [alike_strs]; rfl
theorem depth_strs : ∀ xs : List Str, PyData.depthAll (xs.map .str) = 0
  | [] => by simp [PyData.depthAll]
  | x :: xs => by
    show PyData.depthAll (.str x :: xs.map .str) = 0
    rw [PyData.depthAll, depth_strs xs]
    simp [PyData.depth]
theorem key_depth (x : Str) : (keyD x).depth ≤ 60 := by
  unfold keyD
  simp [PyData.depth, PyData.depthAll, depth_strs]
section
variable {P : Program} {w : World} {K : PySem.W.Frag} {mg : Str → Option Value} {base : Heap} {tk1 tk2 : Tok}
theorem ok_in_order {f f1 : Addr} {fd fd1 : FuncData} (F : Fun K "in_order" "in_order" s_in_order f fd) (T : Txt K mg tk1 tk2) (d_order_key : DefAt P w K mg base "order_key" 2 f1 fd1 ["path"] (spKey K)) :
    FnOk P w K mg base CX0 5 f fd ["paths"] (spOrder K) := by
  refine F.ok sc_in_order (fun vs H Q E h => ?_) (fun cdv A outer s H vs Q E hr h => ?_)
  · obtain ⟨x, ws, rfl, _⟩ := h
    rfl
  refine ⟨_, (pss_one (ps_ret (pe_callBK (call_sortedF (kd := keyD) d_order_key.F hr d_order_key.b) (by rfl) T.n_sorted (by decide +kernel) (pa_cons (pv 0) pa_nil) (pk_cons (pe_glob (v := .ref f1) rfl d_order_key.g rfl) pk_nil)))), ?_⟩
  obtain ⟨a, ws, rfl, hs, hw, hq⟩ := h
  refine ⟨_, rfl, a, ws, rfl, rfl, hs, PySem.W.AllAlike.of key_alike, PySem.W.Sortable.tuples fun b => ⟨_, _, rfl⟩, ?_, ?_, ?_⟩
  · intro d hd
    obtain ⟨x, _, rfl⟩ := List.mem_map.mp hd
    exact key_depth x
  · intro x hx H1 sm Q1 h1
    exact ⟨x, rfl, hw x hx, fun v H' s' dp => h1 v H' s' dp⟩
  · intro H1 p sm hp
    exact hq _ p (sm.trans (same_new hp)) (sm.free hp) upd_same
end
end K1

set_option Elab.async false
set_option linter.all false
set_option maxRecDepth 100000
set_option maxHeartbeats 4000000
namespace LF
open PySem PySem.Spec PyProof.Rows L2
def spBag (K : PySem.W.Frag) : Sp := fun vs H Q _ => ∃ (a : Addr) (at' : Int) (ns : List Int), vs = [.ref a, .int at'] ∧ SqL K H a (ns.map V.int) ∧ 0 ≤ at' ∧
  ∀ H' p, Same H H' → H p = none → BagAt H' p → Q (.ref p) H'
def spTake : Sp := fun vs H Q _ => ∃ (b : Addr) (m : Int), vs = [.ref b, .int m] ∧ BagAt H b ∧ 1 ≤ m ∧ m < 1000000 ∧
  ∀ H' r, Keep b H H' → BagAt H' b → 0 ≤ r → r < m → Q (.int r) H'
def spPick (K : PySem.W.Frag) : Sp := fun vs H Q _ => ∃ (b : Addr) (x : V), vs = [.ref b, x] ∧ BagAt H b ∧
  ((∃ (p : Addr) (items : List V), x = .ref p ∧ p ≠ b ∧ SqL K H p items ∧ 1 ≤ items.length ∧ items.length < 1000000 ∧ ∀ H' v, Keep b H H' → BagAt H' b → v ∈ items → Q v H') ∨
   (∃ z : Str, x = .str z ∧ 1 ≤ z.length ∧ z.length < 1000000 ∧ ∀ H' c, Keep b H H' → BagAt H' b → c ∈ z.cps.toList → Q (.str ⟨#[c]⟩) H'))
end LF
namespace K1
open PySem PySem.Spec PyProof.Rows L2 LF
abbrev s_bag : Stmt := topS 46
theorem sc_bag : FnScope ["_law_script", "_law_at", "_law_cell", "_law_digits"] ["_law_script", "_law_at"] (defScope s_bag) := ⟨rfl, rfl, rfl, by decide +kernel, rfl, by decide +kernel, by decide +kernel⟩
abbrev s_take : Stmt := topS 47
theorem sc_take : FnScope ["_law_bag_here", "_law_many", "_law_digit"] ["_law_bag_here", "_law_many"] (defScope s_take) := ⟨rfl, rfl, rfl, by decide +kernel, rfl, by decide +kernel, by decide +kernel⟩
abbrev s_pick : Stmt := topS 48
theorem sc_pick : FnScope ["_law_bag_here", "_law_some"] ["_law_bag_here", "_law_some"] (defScope s_pick) := ⟨rfl, rfl, rfl, by decide +kernel, rfl, by decide +kernel, by decide +kernel⟩
section
variable {P : Program} {w : World} {K : PySem.W.Frag} {mg : Str → Option Value} {base : Heap} {tk1 tk2 : Tok}
theorem ok_bag {f : Addr} {fd : FuncData} (F : Fun K "_law_bag" "_law_bag" s_bag f fd) (T : Txt K mg tk1 tk2) : FnOk P w K mg base CX0 1 f fd ["_law_script", "_law_at"] (spBag K) := by
  refine F.ok sc_bag (fun vs H Q E h => ?_) (fun cdv A outer s H vs Q E hr h => ?_)
  · obtain ⟨a, at', ns, rfl, _⟩ := h
    rfl
  refine ⟨_, (pss_cons (ps_set (i := 2) sc_bag.nd rfl (Or.inl rfl) (pe_ifExp (pt_cmpR op_lt (pv 1) (pe_callB call_len_seq (by rfl) T.n_len (by decide +kernel) (pa_cons (pv 0) pa_nil)) (nomark _)) (pe_ix ix_list (pv 0) (pv 1) (fun _ _ => rfl)) pe_int))
    (pss_cons (ps_set (i := 3) sc_bag.nd rfl (Or.inl rfl) (pe_ifExp (pt_cmpR op_ge (pe_callB call_abs (by rfl) T.n_abs (by decide +kernel) (pa_cons (pv 2) pa_nil)) (pe_op op_pow pe_int pe_int) (nomark _)) (pe_callB call_abs (by rfl) T.n_abs (by decide +kernel) (pa_cons (pv 2) pa_nil)) pe_int))
    (pss_one (ps_ret (pe_lst (pa_cons (pv 3) (pa_cons (pe_op op_mod (pe_op op_add (pe_op op_add (pe_op op_mul (pe_op op_mod (pe_callTy call_int1 (by rfl) T.n_int (by decide +kernel) (pa_cons (pv 2) pa_nil)) pe_int) pe_int) (pe_op op_mul pe_int (pv 1))) pe_int) pe_int) (pa_cons pe_int pa_nil)))))))), ?_⟩
  obtain ⟨a, at', ns, rfl, hS, hat, hq⟩ := h
  have absNN : ∀ c : Int, 0 ≤ (if c < 0 then -c else c) := fun c => by split <;> omega
  refine ⟨_, rfl, _, rfl, a, _, rfl, Or.inl hS, _, _, rfl, rfl, _, rfl, ?_⟩
  refine ifD (fun h1 => ?_) (fun h1 => ?_)
  · rw [List.length_map] at h1
    have h2 : at'.toNat < ns.length := by omega
    have hix : atI (ns.map V.int) at' = some (.int ns[at'.toNat]) := by
      have e : at' = ((at'.toNat : Nat) : Int) := by omega
      have z := atI_nat (xs := ns.map V.int) (j := at'.toNat) (v := .int ns[at'.toNat]) (by rw [List.getElem?_map, List.getElem?_eq_getElem h2]; rfl)
      rw [← e] at z
      exact z
    refine ⟨_, rfl, _, rfl, a, _, _, .int ns[at'.toNat], rfl, rfl, hS, hix, ?_⟩
    refine ⟨_, rfl, _, rfl, _, _, rfl, rfl, ⟨by decide, by decide, by decide⟩, _, _, rfl, rfl, _, rfl, ?_⟩
    refine ifD (fun _ => ?_) (fun _ => ?_)
    · refine ⟨_, rfl, _, rfl, ?_⟩
      refine ⟨_, rfl, _, rfl, Or.inl ⟨_, rfl, ?_⟩⟩
      refine ⟨_, _, rfl, rfl, (by show (0 : Int) < 2147483629; decide), ?_⟩
      refine ⟨_, _, rfl, rfl, Or.inr ⟨by decide, by decide⟩, ?_⟩
      refine ⟨_, rfl, _, _, rfl, rfl, Or.inl ⟨by decide, by decide⟩, ?_⟩
      refine ⟨_, _, rfl, rfl, _, _, rfl, rfl, _, _, rfl, rfl, (by show (0 : Int) < 2147483647; decide), ?_⟩
      exact ⟨(by show 3 ≤ sizeLine; decide), fun p hp => hq _ p (same_new hp) hp ⟨_, _, 0, upd_same, by first | exact absNN _ | exact Int.le_refl 0, Int.emod_nonneg _ (by decide), Int.emod_lt_of_pos _ (by decide)⟩⟩
    · refine ⟨_, rfl, _, rfl, Or.inl ⟨_, rfl, ?_⟩⟩
      refine ⟨_, _, rfl, rfl, (by show (0 : Int) < 2147483629; decide), ?_⟩
      refine ⟨_, _, rfl, rfl, Or.inr ⟨by decide, by decide⟩, ?_⟩
      refine ⟨_, rfl, _, _, rfl, rfl, Or.inl ⟨by decide, by decide⟩, ?_⟩
      refine ⟨_, _, rfl, rfl, _, _, rfl, rfl, _, _, rfl, rfl, (by show (0 : Int) < 2147483647; decide), ?_⟩
      exact ⟨(by show 3 ≤ sizeLine; decide), fun p hp => hq _ p (same_new hp) hp ⟨_, _, 0, upd_same, by first | exact absNN _ | exact Int.le_refl 0, Int.emod_nonneg _ (by decide), Int.emod_lt_of_pos _ (by decide)⟩⟩
  · refine ⟨_, rfl, _, rfl, _, _, rfl, rfl, ⟨by decide, by decide, by decide⟩, _, _, rfl, rfl, _, rfl, ?_⟩
    refine ifD (fun _ => ?_) (fun _ => ?_)
    · refine ⟨_, rfl, _, rfl, ?_⟩
      refine ⟨_, rfl, _, rfl, Or.inl ⟨_, rfl, ?_⟩⟩
      refine ⟨_, _, rfl, rfl, (by show (0 : Int) < 2147483629; decide), ?_⟩
      refine ⟨_, _, rfl, rfl, Or.inr ⟨by decide, by decide⟩, ?_⟩
      refine ⟨_, rfl, _, _, rfl, rfl, Or.inl ⟨by decide, by decide⟩, ?_⟩
      refine ⟨_, _, rfl, rfl, _, _, rfl, rfl, _, _, rfl, rfl, (by show (0 : Int) < 2147483647; decide), ?_⟩
      exact ⟨(by show 3 ≤ sizeLine; decide), fun p hp => hq _ p (same_new hp) hp ⟨_, _, 0, upd_same, by first | exact absNN _ | exact Int.le_refl 0, Int.emod_nonneg _ (by decide), Int.emod_lt_of_pos _ (by decide)⟩⟩
    · refine ⟨_, rfl, _, rfl, Or.inl ⟨_, rfl, ?_⟩⟩
      refine ⟨_, _, rfl, rfl, (by show (0 : Int) < 2147483629; decide), ?_⟩
      refine ⟨_, _, rfl, rfl, Or.inr ⟨by decide, by decide⟩, ?_⟩
      refine ⟨_, rfl, _, _, rfl, rfl, Or.inl ⟨by decide, by decide⟩, ?_⟩
      refine ⟨_, _, rfl, rfl, _, _, rfl, rfl, _, _, rfl, rfl, (by show (0 : Int) < 2147483647; decide), ?_⟩
      exact ⟨(by show 3 ≤ sizeLine; decide), fun p hp => hq _ p (same_new hp) hp ⟨_, _, 0, upd_same, by first | exact absNN _ | exact Int.le_refl 0, Int.emod_nonneg _ (by decide), Int.emod_lt_of_pos _ (by decide)⟩⟩
theorem ok_take {f : Addr} {fd : FuncData} (F : Fun K "_law_take" "_law_take" s_take f fd) (T : Txt K mg tk1 tk2) : FnOk P w K mg base CX0 1 f fd ["_law_bag_here", "_law_many"] spTake := by
  refine F.ok sc_take (fun vs H Q E h => ?_) (fun cdv A outer s H vs Q E hr h => ?_)
  · obtain ⟨b, m, rfl, _⟩ := h
    rfl
  refine ⟨_, (pss_cons (ps_if (pt_cmpR op_gt (pe_ix ix_list (pv 0) pe_int (fun _ _ => rfl)) pe_int (nomark _)) (pss_cons (ps_set (i := 2) sc_take.nd rfl (Or.inl rfl) (pe_op op_mod (pe_callTy call_int1 (by rfl) T.n_int (by decide +kernel) (pa_cons (pe_ix ix_list (pv 0) pe_int (fun _ _ => rfl)) pa_nil)) (pv 1)))
    (pss_cons (ps_asg (pe_op op_fdiv (pe_ix ix_list (pv 0) pe_int (fun _ _ => rfl)) (pv 1)) (pg_sub (pv 0) pe_int set_list))
    (pss_one (ps_ret (pv 2))))) pss_nil)
    (pss_cons (ps_asg (pe_op op_add (pe_ix ix_list (pv 0) pe_int (fun _ _ => rfl)) pe_int) (pg_sub (pv 0) pe_int set_list))
    (pss_cons (ps_asg (pe_op op_mod (pe_op op_add (pe_op op_add (pe_op op_mul (pe_callTy call_int1 (by rfl) T.n_int (by decide +kernel) (pa_cons (pe_ix ix_list (pv 0) pe_int (fun _ _ => rfl)) pa_nil)) pe_int) (pe_op op_mul pe_int (pe_ix ix_list (pv 0) pe_int (fun _ _ => rfl)))) pe_int) pe_int) (pg_sub (pv 0) pe_int set_list))
    (pss_one (ps_ret (pe_op op_mod (pe_op op_fdiv (pe_op op_mod (pe_callTy call_int1 (by rfl) T.n_int (by decide +kernel) (pa_cons (pe_op op_pow (pe_op op_fdiv (pe_ix ix_list (pv 0) pe_int (fun _ _ => rfl)) pe_int) pe_int) pa_nil)) pe_int) pe_int) (pv 1))))))), ?_⟩
  obtain ⟨b, m, rfl, ⟨d, x, n, hb, hd, hx0, hx1⟩, hm1, hm2, hq⟩ := h
  refine ⟨_, rfl, b, _, _, _, rfl, rfl, SqL.of hb, rfl, _, _, rfl, rfl, _, rfl, ?_⟩
  refine ifD (fun h1 => ?_) (fun h1 => ?_)
  · refine ⟨_, rfl, b, _, _, _, rfl, rfl, SqL.of hb, rfl, Or.inl ⟨_, rfl, ?_⟩⟩
    refine ⟨_, rfl, _, _, rfl, rfl, (by show (0 : Int) < m; omega), ?_⟩
    refine ⟨_, rfl, b, _, _, _, rfl, rfl, SqL.of hb, rfl, _, rfl, _, _, rfl, rfl, ⟨by show (0 : Int) < m; omega, by show m < 1073741824; omega⟩, ?_⟩
    refine ⟨_, rfl, b, _, _, _, rfl, rfl, hb, rfl, ?_⟩
    refine ⟨_, rfl, ?_⟩
    refine hq _ _ (keep_put (Keep.refl b H)) ⟨d / m, x, n, upd_same, ?_, hx0, hx1⟩ (Int.emod_nonneg _ (by omega)) (Int.emod_lt_of_pos _ (by omega))
    exact Int.ediv_nonneg hd (by omega)
  · refine ⟨_, rfl, b, _, _, _, rfl, rfl, SqL.of hb, rfl, _, _, rfl, rfl, ?_⟩
    refine ⟨_, rfl, b, _, _, _, rfl, rfl, hb, rfl, ?_⟩
    refine ⟨_, rfl, b, _, _, _, rfl, rfl, SqL.of upd_same, rfl, Or.inl ⟨_, rfl, ?_⟩⟩
    refine ⟨_, _, rfl, rfl, Or.inr ⟨by decide, by decide⟩, ?_⟩
    refine ⟨_, rfl, b, _, _, _, rfl, rfl, SqL.of upd_same, rfl, _, _, rfl, rfl, Or.inl ⟨by decide, by decide⟩, ?_⟩
    refine ⟨_, _, rfl, rfl, _, _, rfl, rfl, _, _, rfl, rfl, (by show (0 : Int) < 2147483647; decide), ?_⟩
    refine ⟨_, rfl, b, _, _, _, rfl, rfl, upd_same, rfl, ?_⟩
    have n1 := Int.emod_nonneg (x * 48271 + 3571 * (n + 1) + 7) (show (2147483647 : Int) ≠ 0 by decide)
    have n2 := Int.emod_lt_of_pos (x * 48271 + 3571 * (n + 1) + 7) (show (0 : Int) < 2147483647 by decide)
    refine ⟨_, rfl, b, _, _, _, rfl, rfl, SqL.of upd_same, rfl, _, _, rfl, rfl, ⟨by decide, by decide⟩, ?_⟩
    refine ⟨_, _, rfl, rfl, ⟨by decide, by decide, ?_⟩, Or.inl ⟨_, rfl, ?_⟩⟩
    · have h9 : (((x * 48271 + 3571 * (n + 1) + 7) % 2147483647) / 8).natAbs < 2 ^ 64 := by
        generalize (x * 48271 + 3571 * (n + 1) + 7) % 2147483647 = y at n1 n2 ⊢
        have h8 : 0 ≤ y / 8 ∧ y / 8 < 2147483647 := by omega
        have h7 : (2 : Nat) ^ 64 = 18446744073709551616 := by decide
        omega
      exact h9
    refine ⟨_, _, rfl, rfl, (by show (0 : Int) < 2147483579; decide), _, _, rfl, rfl, ⟨by decide, by decide⟩, ?_⟩
    refine ⟨_, rfl, _, _, rfl, rfl, (by show (0 : Int) < m; omega), ?_⟩
    refine hq _ _ (keep_put (keep_put (Keep.refl b H))) ⟨_, _, _, upd_same, hd, n1, n2⟩ (Int.emod_nonneg _ (by omega)) (Int.emod_lt_of_pos _ (by omega))
theorem ok_pick {f f1 : Addr} {fd fd1 : FuncData} (F : Fun K "_law_pick" "_law_pick" s_pick f fd) (T : Txt K mg tk1 tk2) (d_take : DefAt P w K mg base "_law_take" 1 f1 fd1 ["_law_bag_here", "_law_many"] spTake) :
    FnOk P w K mg base CX0 2 f fd ["_law_bag_here", "_law_some"] (spPick K) := by
  refine F.ok sc_pick (fun vs H Q E h => ?_) (fun cdv A outer s H vs Q E hr h => ?_)
  · obtain ⟨b, x, rfl, _⟩ := h
    rfl
  refine ⟨_, (pss_one (ps_ret (pe_ix ix_seq (pv 1) (pe_callD d_take (hr.mono (by decide)) (pa_cons (pv 0) (pa_cons (pe_callB call_len (by rfl) T.n_len PySem.boot_len (pa_cons (pv 1) pa_nil)) pa_nil))) (fun _ _ => rfl)))), ?_⟩
  obtain ⟨b, x, rfl, hb, h⟩ := h
  rcases h with ⟨p, items, rfl, npb, hp, h1, h2, hq⟩ | ⟨z, rfl, h1, h2, hq⟩
  · refine ⟨_, rfl, _, rfl, _, rfl, .ref p, items.length, rfl, Or.inl ⟨_, hp, rfl⟩, ?_⟩
    refine ⟨b, _, rfl, hb, by omega, by omega, fun H' r kp bg r0 r1 => ?_⟩
    have hr' : r.toNat < items.length := by omega
    have e : r = ((r.toNat : Nat) : Int) := by omega
    have z := atI_nat (xs := items) (j := r.toNat) (v := items[r.toNat]) (List.getElem?_eq_getElem hr')
    rw [← e] at z
    exact Or.inl ⟨p, _, _, _, rfl, rfl, keep_seq kp npb hp, z, hq H' _ kp bg (List.getElem_mem hr')⟩
  · refine ⟨_, rfl, _, rfl, _, rfl, .str z, z.length, rfl, ⟨Nat.le_trans (Nat.le_of_lt h2) (by decide), rfl⟩, ?_⟩
    refine ⟨b, _, rfl, hb, by omega, by omega, fun H' r kp bg r0 r1 => ?_⟩
    have hr' : r.toNat < z.cps.toList.length := by
      have : z.cps.toList.length = z.length := by simp [Str.length]
      omega
    have e : r = ((r.toNat : Nat) : Int) := by omega
    have y := atI_nat (xs := z.cps.toList) (j := r.toNat) (v := z.cps.toList[r.toNat]) (List.getElem?_eq_getElem hr')
    rw [← e] at y
    exact Or.inr (Or.inr ⟨z, _, _, rfl, rfl, Nat.le_trans (Nat.le_of_lt h2) (by decide), y, hq H' _ kp bg (List.getElem_mem hr')⟩)
end
end K1

set_option Elab.async false
set_option linter.all false
set_option maxRecDepth 100000
set_option maxHeartbeats 4000000
namespace LF
open PySem PySem.Spec PyProof.Rows L2 TL K1
def low (z : Str) : Prop := ∀ c ∈ z.cps.toList, c ∈ letters.cps.toList
theorem isNm_iff {z : Str} : isNm z = true ↔ (1 ≤ z.length ∧ z.length ≤ 8) ∧ low z := by
  unfold isNm low
  rw [Bool.and_eq_true, decide_eq_true_eq, List.all_eq_true]
  simp only [decide_eq_true_eq]
theorem sl_not_low : (47 : Nat) ∉ letters.cps.toList := by decide +kernel
theorem isNm_sl {z : Str} (h : isNm z = true) : 47 ∉ tl z := fun hm => sl_not_low ((isNm_iff.mp h).2 _ hm)
theorem tl_sl : tl c_sl = [47] := by decide +kernel
theorem kind_sl : c_sl.cps.all (· < 256) = true := by decide +kernel
theorem len_app (x y : Str) : (x ++ y).length = x.length + y.length := by
  rw [len_tl, len_tl, len_tl, tl_append, List.length_append]
theorem low_app {x y : Str} (hx : low x) (hy : low y) : low (x ++ y) := fun c hc => by
  have e := tl_append x y
  have hc' : c ∈ tl (x ++ y) := hc
  rw [e] at hc'
  exact (List.mem_append.mp hc').elim (hx c) (hy c)
theorem low_sub {x y : Str} (hx : low x) (h : ∀ c ∈ y.cps.toList, c ∈ x.cps.toList) : low y := fun c hc => hx c (h c hc)
theorem cut_mem (z : Str) (lo hi : Option Int) : ∀ c ∈ (cutS z lo hi).cps.toList, c ∈ z.cps.toList := fun c hc => by
  unfold cutS at hc
  exact List.mem_of_mem_drop (List.mem_of_mem_take (by simpa using hc))
theorem cut_to (z : Str) (i : Nat) (h : i ≤ z.length) : (cutS z none (some (i : Int))).length = i := by
  have e : z.cps.toList.length = z.length := by simp [Str.length]
  unfold cutS
  rw [HT.sIx_none, HT.sIx_nat]
  show (((z.cps.toList.drop 0).take (min i z.length - 0)).toArray).size = i
  rw [List.size_toArray, List.length_take, List.length_drop]
  omega
theorem cut_from (z : Str) (i : Nat) (h : i ≤ z.length) : (cutS z (some (i : Int)) none).length = z.length - i := by
  have e : z.cps.toList.length = z.length := by simp [Str.length]
  unfold cutS
  rw [HT.sIx_none, HT.sIx_nat]
  show (((z.cps.toList.drop (min i z.length)).take (z.length - min i z.length)).toArray).size = _
  rw [List.size_toArray, List.length_take, List.length_drop]
  omega
theorem join_nil_tl (ss : List Str) : tl (PySem.Txt.join "" ss) = (ss.map tl).flatten := by
  rw [join_eq, tl_join]
  have e : tl ("" : Str) = [] := by decide +kernel
  rw [e]
  generalize ss.map tl = l
  induction l with
  | nil => rfl
  | cons a l ih =>
    cases l with
    | nil => simp [joinL]
    | cons b l =>
      show a ++ ([] ++ joinL [] (b :: l)) = _
      rw [ih]; simp
/-- what a word is: a stem with one more letter -/
theorem stem_of {ss : List Str} (h : ∀ s ∈ ss, ∃ c, s = ⟨#[c]⟩ ∧ c ∈ letters.cps.toList) : (PySem.Txt.join "" ss).length = ss.length ∧ low (PySem.Txt.join "" ss) := by
  have e := join_nil_tl ss
  constructor
  · rw [len_tl, e]
    clear e
    induction ss with
    | nil => rfl
    | cons a l ih =>
      obtain ⟨c, rfl, _⟩ := h a List.mem_cons_self
      have := ih fun s hs => h s (List.mem_cons_of_mem _ hs)
      have e1 : (tl (⟨#[c]⟩ : Str)).length = 1 := rfl
      simp only [List.map_cons, List.flatten_cons, List.length_append, List.length_cons, e1, this]
      omega
  · intro c hc
    have hc' : c ∈ tl (PySem.Txt.join "" ss) := hc
    rw [e, List.mem_flatten] at hc'
    obtain ⟨l, hl, hcl⟩ := hc'
    obtain ⟨s, hs, rfl⟩ := List.mem_map.mp hl
    obtain ⟨d, rfl, hd⟩ := h s hs
    have : c ∈ [d] := hcl
    rw [List.mem_singleton.mp this]
    exact hd
theorem split_names {ns : List Str} (hne : ns ≠ []) (h : ∀ n ∈ ns, isNm n = true) : PySem.Txt.split (PySem.Txt.join c_sl ns) c_sl = ns :=
  split_join tl_sl kind_sl hne fun p hp => isNm_sl (h p hp)
theorem join_nil0 : PySem.Txt.join c_sl [] = "" := by decide +kernel
theorem join_ne {ns : List Str} (hne : ns ≠ []) (h : ∀ n ∈ ns, isNm n = true) : PySem.Txt.join c_sl ns ≠ "" := fun e => by
  have h1 := split_names hne h
  rw [e] at h1
  have h2 : PySem.Txt.split "" c_sl = [("" : Str)] := by decide +kernel
  rw [h2] at h1
  have h3 := h "" (by rw [← h1]; exact List.mem_singleton_self _)
  exact absurd h3 (by decide +kernel)
theorem parts_join {ns : List Str} (h : ∀ n ∈ ns, isNm n = true) : parts (PySem.Txt.join c_sl ns) = ns := by
  unfold parts
  by_cases hne : ns = []
  · subst hne
    rw [join_nil0, if_pos rfl]
  · rw [if_neg (join_ne hne h), split_names hne h]
theorem isPt_join {ns : List Str} (h : ∀ n ∈ ns, isNm n = true) : isPt (PySem.Txt.join c_sl ns) = true := by
  unfold isPt
  by_cases hne : ns = []
  · subst hne
    rw [join_nil0]; rfl
  · rw [split_names hne h, List.all_eq_true.mpr h, Bool.or_true]
theorem join_len_le {ns : List Str} (h : ∀ n ∈ ns, isNm n = true) : (PySem.Txt.join c_sl ns).length ≤ 9 * ns.length := by
  rw [len_tl, join_eq, tl_join, tl_sl]
  induction ns with
  | nil => exact Nat.zero_le _
  | cons a l ih =>
    have ha := (isNm_len (h a List.mem_cons_self)).2
    have e : (tl a).length = a.length := (len_tl a).symm
    have il := ih fun n hn => h n (List.mem_cons_of_mem _ hn)
    cases l with
    | nil =>
      show (tl a).length ≤ _
      rw [List.length_singleton]; omega
    | cons b l =>
      show (tl a ++ ([47] ++ joinL [47] ((b :: l).map tl))).length ≤ _
      have e1 : ([47] : List Nat).length = 1 := rfl
      simp only [List.length_append, List.length_cons, e1] at il ⊢
      try simp only [List.length_nil] at il ⊢
      omega
end LF

set_option Elab.async false
set_option linter.all false
set_option maxRecDepth 100000
set_option maxHeartbeats 4000000
namespace LF
open PySem PySem.Spec PyProof.Rows L2
section
variable {prog : Program} {w : World} {A : Around} {E : Value → Shared → Prop} {s : Shared} {K : PySem.W.Frag} {x C f : Addr} {ox : Obj} {od : Option Obj}
/-- repr of an own instance below another: its own __repr__ -/
theorem under_own {b : Nat} {Q : Value → Shared → Prop} (hu : A.units < cLine) (X : K.In s.heap) (I : PySem.W.InstAt s.heap x ox C od) (hs : PySem.W.findIn K (.ref C) "__repr__" = some (some (.ref f))) (hf : PySem.W.isFn K (.ref f) = true)
    (h : wpAny (model prog w) A (call (.ref f) [.ref x]) (fun v s' => ∃ m tk, v = .str m tk ∧ Q v s') E s) : wpAny (model prog w) A (pyReprObjUnder b (.ref x)) Q E s := by
  unfold pyReprObjUnder pyReprObjBy
  refine wpAny_bind (wpAny_cRoomFor hu ?_)
  refine wpAny_bind (wpAny_bind (I.type.here ((PySem.W.looks_findIn X hs).here ?_)))
  show wpAny _ _ (if (some (Value.ref f)).isNone = true then _ else _) _ _ _
  rw [if_neg (by simp)]
  have fin : wpAny (model prog w) A (call (.ref f) ([.ref x] ++ []) >>= fun v => pure (some v)) (fun r s' => wpAny (model prog w) A (match r with
      | some r => do if ← isInstance r (.type "str") then pure r else raiseError "TypeError" s!"__repr__ returned non-string (type {← typeNameOf r})"
      | none => unsupported "repr:special-get-raises") Q E s') E s := by
    refine wpAny_bind (wpAny_mono h (fun v s' hv => ?_) fun _ _ z => z)
    obtain ⟨m, tk, rfl, q⟩ := hv
    exact wpAny_pure (wpAny_bind (wpAny_isInstance (T := "str") (b := true) (typeIs_str _ _ _) isSubtype_str_str (wpAny_pure q)))
  refine wpAny_bind ?_
  simp only [callSpecialIfBoundBy?, bindSpecialIfBound?]
  refine wpAny_holding (wpAny_bind (wpAny_bind (wpAny_bind (I.type.here ((PySem.W.looks_findIn X hs).here ?_)))))
  refine wpAny_bind (wpAny_askSetting (wpAny_ite ?_))
  split
  · exact wpAny_bind ((PySem.W.bind_fn X _ (beq_iff_eq.mp hf)).here (wpAny_pure (by exact fin)))
  · exact wpAny_tryCatch (wpAny_bind ((PySem.W.bind_fn X _ (beq_iff_eq.mp hf)).here (wpAny_pure (by exact fin))))
end
theorem Room.guard {k : Nat} {A : Around} (r : Room (k + 1) A) (args : Args) : Room k (A.under (.builtin "tuple.__repr__" args)) := by
  have hd : (A.under (.builtin "tuple.__repr__" args)).depth ≤ A.depth + 1 := by
    first
      | exact Nat.le_refl _
      | exact Nat.le_succ _
      | simp [Around.under, Code.weight, Code.isCreation, Code.isGuard, Code.isCaller, Code.frames, Code.isFrame, guardIds]
  refine ⟨r.hd, by have := r.dp; omega, ?_⟩
  have := r.un
  rw [units_under_tuple_repr]
  omega
theorem Env0.guard {P : Program} {w : World} {K : PySem.W.Frag} {mg : Str → Option Value} {base : Heap} {A : Around} {outer : List Env} {s : Shared} {H : Hp} (e : Env0 P w K mg base A outer s H) (args : Args) :
    Env0 P w K mg base (A.under (.builtin "tuple.__repr__" args)) outer s H := ⟨by first | exact e.frames | (simpa [Around.under, Code.envs, Code.isFrame, pushEnvs] using e.frames), e.mod, e.bs, e.bsz, e.funs, e.frf, e.hok, e.bare⟩
/-- repr((text, x)), x an own instance of the class at C whose __repr__ tells txt and leaves what is tracked -/
def rReprTO (K : PySem.W.Frag) (C : Addr) (sp : Sp) (txt : Str) : List V → Hp → VK → Prop := fun xs H Q => ∃ (a x dx : Addr) (z : Str) (fs : List (Str × V)), xs = [.ref a] ∧ SqT K H a [.str z, .ref x] ∧ H x = some (.ins C dx fs) ∧
  (reprText z).length ≤ 1000 ∧ (∀ Q1 : VK, (∀ H1, Same H H1 → Q1 (.str txt) H1) → sp [.ref x] H Q1 E0) ∧ ∀ H', Same H H' → Q (.str (tupleText [reprText z, txt])) H'
theorem sizeLine_1m : 1000010 < sizeLine := by decide
section
variable {X : Cx} {k : Nat} {f C : Addr} {fd : FuncData} {sp : Sp} {txt : Str} {px : Str}
theorem call_reprTO (gd : X.A.guards = some []) (G : FnOk X.prog X.w X.K X.mg X.base CX0 k f fd [px] sp) (hr : Room (k + 3) X.A) (hb : Binds X.K fd [px] [])
    (hs : PySem.W.findIn X.K (.ref C) "__repr__" = some (some (.ref f))) (hf : PySem.W.isFn X.K (.ref f) = true) (hl : txt.length ≤ 1000) :
    CallR X (.builtin "repr") (rReprTO X.K C sp txt) := by
  intro pins s σ H xs us Q I r h
  obtain ⟨a, x, dx, z, fs, rfl, ht, hx, hz, hsp, hq⟩ := h
  rw [Vals.ref1 r]
  have hbig := sizeLine_1m
  obtain ⟨its, rv, ⟨o, ho, hcls, n, hd⟩, _⟩ := I.tuple ht
  cases rv with
  | cons r1 rv =>
  cases rv with
  | cons r2 rv =>
  cases rv with
  | nil =>
  rename_i u1 u2
  obtain ⟨tk1, rfl⟩ := r1
  cases r2
  obtain ⟨mA, O, _, _, _, _⟩ := ins_get I.hok hx
  obtain ⟨od, J, _⟩ := O.look
  have hu := hr.un
  refine call_repr_slot (by omega) ⟨o, ho, hcls⟩ F.slot_tuple_repr ?_
  refine wpAny_call (codeAny_call_builtin_own (Code.quiet_builtin _ (by decide +kernel)) F.entry_tuple_repr (F.slot_tuple_repr.check _ _ _ _ _ _ _ _ ⟨o, ho, hcls⟩ (F.args_tuple_repr_1 _) ?_))
  show wpOwn _ _ _ (Builtin.tupleReprAt 0 ⟨[.ref a], []⟩) _ _ _
  rw [tuple_repr_tree, tupleReprUnderWay_eq]
  refine wpOwn_bind (wpOwn_stackTailAny (g := []) gd (tupGuardF_off _) (tupGuardF_pos _) ?_)
  show wpOwn _ _ _ (if false = true then _ else _) _ _ _
  rw [if_neg Bool.false_ne_true]
  refine wpOwn_of_wpAny ?_
  unfold tupleReprRest Builtin.Tuple.tupleItemsOf
  refine wpAny_bind (wpAny_bind (wpAny_seqItems ho hd (wpAny_pure ?_)))
  rw [← Array.forIn_toList]
  refine wpAny_bind ?_
  show wpAny _ _ (forIn [Value.str z tk1, Value.ref x] _ tupBody) _ _ _
  rw [List.forIn_cons]
  refine wpAny_bind (wpAny_bind (ReprIs.str z tk1 (by omega) 1 (by omega) _ _ _ _ fun tk => wpAny_pure ?_))
  show wpAny _ _ (forIn [Value.ref x] _ tupBody) _ _ _
  rw [List.forIn_cons]
  have I2 := I.tok tk
  have hr' : Room (k + 1) (X.A.in1.under (.builtin "tuple.__repr__" ⟨[.ref a], []⟩)) := Room.guard hr.in1 _
  have b' := hb { s with toks := tk } [.ref x] I2.kIn rfl
  rw [List.append_nil] at b'
  refine wpAny_bind (wpAny_bind (wpAny_pyReprUnder_ref (by show 0 + ((reprText z).length + 2) + 1 ≤ sizeLine; omega) (under_own (by have := hr'.un; omega) I2.kIn J hs hf ?_)))
  have run := G.run _ X.stack { s with toks := tk } H ⟨[.ref x], []⟩ [.ref x] [.ref x] _ E0 (hr'.mono (Nat.le_succ k)) (Env0.guard I2.env0.in1 _) b' (.cons rfl .nil) (hsp (fun v H1 => v = .str txt ∧ Same H H1) fun H1 s1 => ⟨rfl, s1⟩)
  refine wpAny_call (codeAny_mono run ?_)
  intro rr s2 hq2
  cases rr with
  | error e => exact hq2.elim
  | ok fl =>
    cases fl with
    | next => exact hq2.elim
    | brk => exact hq2.elim
    | cont => exact hq2.elim
    | ret u =>
      obtain ⟨y, H2, J2, ry, ey, sm2⟩ := I2.after hq2
      subst ey
      obtain ⟨tk2, rfl⟩ := ry
      refine ⟨txt, tk2, rfl, txt, tk2, rfl, wpAny_pure ?_⟩
      show wpAny _ _ (forIn [] _ tupBody) _ _ _
      rw [List.forIn_nil]
      refine wpAny_pure ?_
      refine wpAny_bind (wpAny_mkStr (wpAny_pure ?_) ?_)
      · exact ⟨_, _, rfl, .str (tupleText [reprText z, txt]), H2, J2.tok _, ⟨_, rfl⟩, hq H2 sm2⟩
      · show (tupleText [reprText z, txt]).length ≤ sizeLine
        have e : tupleText [reprText z, txt] = ("(" : Str) ++ (reprText z ++ ", " ++ txt) ++ ")" := rfl
        have e1 : ((("(" : String) : Str)).length = 1 := rfl
        have e2 : (((", " : String) : Str)).length = 2 := rfl
        have e3 : (((")" : String) : Str)).length = 1 := rfl
        rw [e, strLen_append, strLen_append, strLen_append, strLen_append, e1, e2, e3]
        omega
end
end LF

set_option Elab.async false
set_option linter.all false
set_option maxRecDepth 100000
set_option maxHeartbeats 4000000
namespace LF
open PySem PySem.Spec PyProof.Rows L2
/-- None, bools, ints, texts -/
def isAtom : V → Bool
  | .non => true
  | .bl _ => true
  | .int _ => true
  | .str _ => true
  | _ => false
def atomD : V → PyData
  | .bl b => .bool b
  | .int i => .int i
  | .str x => .str x
  | _ => .none
def kD : Key → PyData
  | .inl i => .int i
  | .inr x => .str x
theorem reads_atom {h : Heap} : ∀ {v : V} {u : Value}, isAtom v = true → RelV v u → Reads h u (atomD v) []
  | .non, _, _, r => by cases r; exact Reads.none
  | .bl b, _, _, r => by cases r; exact Reads.bool b
  | .int i, _, _, r => by obtain ⟨t, rfl⟩ := r; exact Reads.int i t
  | .str x, _, _, r => by obtain ⟨t, rfl⟩ := r; exact Reads.str x t
  | .ref _, _, a, _ => nomatch a
  | .flt _, _, a, _ => nomatch a
  | .byt _, _, a, _ => nomatch a
  | .ty _, _, a, _ => nomatch a
theorem reads_key {h : Heap} {k : Key} {v : Value} (e : keyIs k v = true) : Reads h v (kD k) [] := by
  rcases keyIs_shape e with ⟨i, t, rfl, rfl⟩ | ⟨x, t, rfl, rfl⟩
  · exact Reads.int i t
  · exact Reads.str x t
theorem reads_pairs {P : Program} {w : World} {h : Heap} : ∀ {es : List DictEntry} {vs : List (Key × Value)} {kvs : List (Key × V)}, Pairs (mixKind P w) es vs → KV kvs vs → (∀ q ∈ kvs, isAtom q.2 = true) →
    ReadsAll h (es.map (·.key)) (kvs.map fun q => kD q.1) [] ∧ ReadsAll h (es.map (·.val)) (kvs.map fun q => atomD q.2) []
  | _, _, _, .nil, .nil, _ => ⟨.nil, .nil⟩
  | _, _, _, .cons (e := e) (kv := kv) h1 h2 t, .cons (a := q) r rs, ha => by
    obtain ⟨i1, i2⟩ := reads_pairs (h := h) t rs fun q hq => ha q (List.mem_cons_of_mem _ hq)
    obtain ⟨e1, e2⟩ := r
    have k1 : Reads h e.key (kD q.1) [] := by rw [e1]; exact reads_key h1
    have k2 : Reads h e.val (atomD q.2) [] := by rw [h2]; exact reads_atom (ha q List.mem_cons_self) e2
    exact ⟨ReadsAll.cons k1 i1, ReadsAll.cons k2 i2⟩
def dictD (kvs : List (Key × V)) : PyData := .dict (kvs.map fun q => (kD q.1, atomD q.2))
theorem reads_dict {P : Program} {w : World} {H : Hp} {h : Heap} {p : Addr} {kvs : List (Key × V)} (ok : HOk P w H h) (e : H p = some (.dK kvs)) (ha : ∀ q ∈ kvs, isAtom q.2 = true) :
    Reads h (.ref p) (dictD kvs) [p] ∧ (p == sysModules) = false := by
  obtain ⟨_, lo, vs, rel, o, es, ep, ho, hx, hd, _, hp, _⟩ := dk_of ok e
  obtain ⟨i1, i2⟩ := reads_pairs (h := h) hp rel ha
  refine ⟨?_, lo⟩
  have := Reads.dict (kvs := kvs.map fun q => (kD q.1, atomD q.2)) ho hx.1 hd (by rw [List.map_map]; exact i1) (by rw [List.map_map]; exact i2)
  exact this
/-- repr((text, d)), d a dict of ints, texts and None -/
def rReprTD (K : PySem.W.Frag) : List V → Hp → VK → Prop := fun xs H Q => ∃ (a p : Addr) (z : Str) (kvs : List (Key × V)), xs = [.ref a] ∧ SqT K H a [.str z, .ref p] ∧ H p = some (.dK kvs) ∧ (∀ q ∈ kvs, isAtom q.2 = true) ∧
  (PyData.tuple [.str z, dictD kvs]).showable = true ∧ (PyData.tuple [.str z, dictD kvs]).depth ≤ 60 ∧ (PyData.tuple [.str z, dictD kvs]).shown.length ≤ sizeLine ∧ Q (.str (PyData.tuple [.str z, dictD kvs]).shown) H
theorem call_reprTD {X : Cx} (gd : X.A.guards = some []) (hu : X.A.units + 64 < cLine) : CallR X (.builtin "repr") (rReprTD X.K) := by
  intro pins s σ H xs us Q I r h
  obtain ⟨a, p, z, kvs, rfl, ht, hp, ha, hs, hdp, hz, q⟩ := h
  rw [Vals.ref1 r]
  obtain ⟨its, rv, ⟨o, ho, hcls, n, hd⟩, _⟩ := I.tuple ht
  cases rv with
  | cons r1 rv =>
  cases rv with
  | cons r2 rv =>
  cases rv with
  | nil =>
  rename_i u1 u2
  obtain ⟨tk1, rfl⟩ := r1
  cases r2
  obtain ⟨rd, lo⟩ := reads_dict I.hok hp ha
  have R : Reads s.heap (.ref a) (.tuple [.str z, dictD kvs]) ([] ++ ([p] ++ [])) := Reads.tuple ho hcls hd (ReadsAll.cons (Reads.str z tk1) (ReadsAll.cons rd ReadsAll.nil))
  refine repr_of_reads' R hs (fun _ hm => ?_) gd (by omega) (fun _ _ e => e) (fun h' u tk hk => ⟨.str _, H, I.kept (t' := tk) hk, ⟨_, rfl⟩, q⟩) hz
  have : sysModules = p := by simpa using hm
  rw [this] at lo
  simp at lo
end LF

set_option Elab.async false
set_option linter.all false
set_option maxRecDepth 100000
set_option maxHeartbeats 4000000
namespace LF
open PySem PySem.Spec PyProof.Rows L2 K1
def bits (z : Str) : List Str := (PySem.Txt.split z c_sl).filter fun s => !decide (s = "")
theorem bits_join {ns : List Str} (h : ∀ n ∈ ns, isNm n = true) : bits (PySem.Txt.join c_sl ns) = ns := by
  unfold bits
  by_cases hne : ns = []
  · subst hne
    rw [join_nil0]
    decide +kernel
  · rw [split_names hne h, List.filter_eq_self]
    intro a ha
    have h1 := (isNm_len (h a ha)).1
    have : a ≠ "" := fun e => by rw [e] at h1; exact absurd h1 (by decide +kernel)
    simp [this]
theorem dp_strs {K : PySem.W.Frag} {H : Hp} : ∀ l : List Str, DpAll K H (l.map V.str) (l.map .str)
  | [] => .nil
  | a :: l => .cons (.str a) (dp_strs l)
theorem eqv_strs : ∀ xs ys : List Str, PyData.eqvAll (xs.map .str) (ys.map .str) = decide (xs = ys)
  | [], [] => by simp [PyData.eqvAll]
  | [], _ :: _ => by simp [PyData.eqvAll]
  | _ :: _, [] => by simp [PyData.eqvAll]
  | x :: xs, y :: ys => by
    show PyData.eqvAll (.str x :: xs.map .str) (.str y :: ys.map .str) = _
    rw [PyData.eqvAll, eqv_strs xs ys]
    show ((x == y) && decide (xs = ys)) = _
    by_cases h1 : x = y <;> by_cases h2 : xs = ys <;> simp [h1, h2]
theorem strOk_low {z : Str} (h : low z) : PyData.strOk z = true := by
  unfold PyData.strOk
  rw [Array.all_eq_true']
  intro c hc
  have h1 := h c (Array.mem_toList_iff.mpr hc)
  have h2 : ∀ d ∈ letters.cps.toList, d < 0x110000 := by decide +kernel
  exact decide_eq_true (h2 c h1)
theorem strOk_join {ns : List Str} (h : ∀ n ∈ ns, isNm n = true) : PyData.strOk (PySem.Txt.join c_sl ns) = true := by
  unfold PyData.strOk
  rw [Array.all_eq_true']
  intro c hc
  have h1 : c ∈ TL.tl (PySem.Txt.join c_sl ns) := Array.mem_toList_iff.mpr hc
  have h2 : ∀ d ∈ letters.cps.toList, d < 0x110000 := by decide +kernel
  rw [TL.join_eq, TL.tl_join, tl_sl] at h1
  refine decide_eq_true ?_
  clear hc
  induction ns with
  | nil => exact nomatch h1
  | cons a l ih =>
    have ha : c ∈ TL.tl a → c < 0x110000 := fun q => h2 c ((isNm_iff.mp (h a List.mem_cons_self)).2 c q)
    cases l with
    | nil => exact ha h1
    | cons b l =>
      have h3 : c ∈ TL.tl a ++ ([47] ++ TL.joinL [47] ((b :: l).map TL.tl)) := h1
      rcases List.mem_append.mp h3 with q | q
      · exact ha q
      · rcases List.mem_append.mp q with q | q
        · rw [List.mem_singleton.mp q]; decide
        · exact ih (fun n hn => h n (List.mem_cons_of_mem _ hn)) q
theorem canLay_strs : ∀ {l : List Str}, (∀ s ∈ l, PyData.strOk s = true) → PyData.canLayAll0 (l.map .str) = true
  | [], _ => by simp [PyData.canLayAll0]
  | a :: l, h => by
    show PyData.canLayAll0 (.str a :: l.map .str) = true
    rw [PyData.canLayAll0, canLay_strs fun s hs => h s (List.mem_cons_of_mem _ hs), PyData.canLay0, h a List.mem_cons_self]
    rfl
theorem shaped_strs {l : List Str} (h : ∀ s ∈ l, PyData.strOk s = true) : SeqAt.shaped (.list (l.map .str)) = true := by
  unfold SeqAt.shaped
  rw [PyData.canLay0, canLay_strs h, Bool.true_and]
  exact decide_eq_true (by rw [PyData.depth, depth_strs]; decide)
theorem eqv_list_strs (xs ys : List Str) : PyData.eqv (.list (xs.map .str)) (.list (ys.map .str)) = decide (xs = ys) := by
  rw [PyData.eqv]; exact eqv_strs _ _
/-- data whose repr is told -/
structure Rok (d : PyData) : Prop where
  sh : d.showable = true
  nd : d.hasDict = false
  dp : d.depth ≤ 60
  ln : d.shown.length ≤ sizeLine
theorem Rok.of {d : PyData} (h1 : d.canLay0 = true) (h2 : d.depth ≤ 60) (h3 : d.weight ≤ 2 ^ 20) (h4 : d.intsShort 13 = true) (h5 : d.showable = true) : Rok d := by
  refine ⟨h5, PyData.hasDict_of_canLay d h1, h2, ?_⟩
  have hl : PyData.layable0 d = true := by
    unfold PyData.layable0
    rw [h1, decide_eq_true (by omega : d.depth ≤ 64), decide_eq_true h3]; rfl
  exact Nat.le_trans (shown_le13 hl h4) (by decide)
theorem weight_strs {n : Nat} : ∀ {l : List Str}, (∀ s ∈ l, s.length ≤ n) → PyData.weightAll (l.map .str) ≤ (n + 1) * l.length
  | [], _ => by simp [PyData.weightAll]
  | a :: l, h => by
    have h1 := weight_strs (n := n) fun s hs => h s (List.mem_cons_of_mem _ hs)
    have h2 := h a List.mem_cons_self
    show PyData.weightAll (.str a :: l.map .str) ≤ _
    rw [PyData.weightAll, PyData.weight, List.length_cons, Nat.mul_succ]
    have e : a.cps.size = a.length := rfl
    omega
theorem ints_strs : ∀ l : List Str, PyData.intsShortAll 13 (l.map .str) = true
  | [] => by simp [PyData.intsShortAll]
  | a :: l => by
    show PyData.intsShortAll 13 (.str a :: l.map .str) = true
    rw [PyData.intsShortAll, ints_strs l]; simp [PyData.intsShort]
theorem show_strs : ∀ l : List Str, PyData.showableAll (l.map .str) = true
  | [] => by simp [PyData.showableAll]
  | a :: l => by
    show PyData.showableAll (.str a :: l.map .str) = true
    rw [PyData.showableAll, show_strs l]; simp [PyData.showable]
theorem rok_tuple {l : List Str} {n : Nat} (h1 : ∀ s ∈ l, PyData.strOk s = true) (h2 : ∀ s ∈ l, s.length ≤ n) (h3 : (n + 1) * l.length ≤ 1000000) : Rok (.tuple (l.map .str)) := by
  refine Rok.of (by rw [PyData.canLay0]; exact canLay_strs h1) (by rw [PyData.depth, depth_strs]; decide) ?_ (by rw [PyData.intsShort]; exact ints_strs l) (by rw [PyData.showable]; exact show_strs l)
  rw [PyData.weight]
  exact Nat.le_trans (Nat.le_trans (weight_strs h2) h3) (by decide)
theorem rok_list {l : List Str} {n : Nat} (h1 : ∀ s ∈ l, PyData.strOk s = true) (h2 : ∀ s ∈ l, s.length ≤ n) (h3 : (n + 1) * l.length ≤ 1000000) : Rok (.list (l.map .str)) := by
  refine Rok.of (by rw [PyData.canLay0]; exact canLay_strs h1) (by rw [PyData.depth, depth_strs]; decide) ?_ (by rw [PyData.intsShort]; exact ints_strs l) (by rw [PyData.showable]; exact show_strs l)
  rw [PyData.weight]
  exact Nat.le_trans (Nat.le_trans (weight_strs h2) h3) (by decide)
theorem rok_str {z : Str} (h1 : PyData.strOk z = true) (h2 : z.length ≤ 1000000) : Rok (.str z) := by
  refine Rok.of (by rw [PyData.canLay0]; exact h1) (by simp [PyData.depth]) ?_ (by simp [PyData.intsShort]) (by simp [PyData.showable])
  rw [PyData.weight]
  exact Nat.le_trans (show z.cps.size ≤ 1000000 from h2) (by decide)
theorem rok_none : Rok .none := Rok.of (by simp [PyData.canLay0]) (by simp [PyData.depth]) (by simp [PyData.weight]) (by simp [PyData.intsShort]) (by simp [PyData.showable])
end LF

set_option Elab.async false
set_option linter.all false
set_option maxRecDepth 100000
set_option maxHeartbeats 4000000
namespace LF
open PySem PySem.Spec PyProof.Rows L2 TL K1
theorem sub_chars (x : Str) (i j : Nat) : ∀ c ∈ (Builtin.Str.strSub x i j).cps.toList, c ∈ x.cps.toList := fun c hc => by
  have e := tl_strSub x i j
  have hc' : c ∈ tl (Builtin.Str.strSub x i j) := hc
  rw [e] at hc'
  exact List.mem_of_mem_drop (List.mem_of_mem_take hc')
theorem partsFrom_chars (x : Str) (w : Nat) : ∀ (cuts : List Nat) (a : Nat), ∀ p ∈ StrLaws.partsFrom x w a cuts, ∀ c ∈ p.cps.toList, c ∈ x.cps.toList
  | [], a, p, hp => by rw [List.mem_singleton.mp hp]; exact sub_chars x _ _
  | c :: r, a, p, hp => by
    rcases List.mem_cons.mp hp with rfl | hp'
    · exact sub_chars x _ _
    · exact partsFrom_chars x w r _ p hp'
theorem part_chars {x y a : Str} (h : a ∈ PySem.Txt.split x y) : ∀ c ∈ a.cps.toList, c ∈ x.cps.toList := by
  unfold PySem.Txt.split at h
  split at h
  · rw [List.mem_singleton.mp h]; exact fun c hc => hc
  · split at h
    · rw [List.mem_singleton.mp h]; exact fun c hc => hc
    · rw [StrLaws.partsBetween_eq] at h
      exact partsFrom_chars x _ _ _ a h
theorem strOk_iff {z : Str} : PyData.strOk z = true ↔ ∀ c ∈ z.cps.toList, c < 0x110000 := by
  unfold PyData.strOk
  rw [Array.all_eq_true']
  exact ⟨fun h c hc => of_decide_eq_true (h c (Array.mem_toList_iff.mp hc)), fun h c hc => decide_eq_true (h c (Array.mem_toList_iff.mpr hc))⟩
theorem strOk_sub {x y : Str} (h : PyData.strOk x = true) (hs : ∀ c ∈ y.cps.toList, c ∈ x.cps.toList) : PyData.strOk y = true := strOk_iff.mpr fun c hc => strOk_iff.mp h c (hs c hc)
theorem strOk_app {x y : Str} (hx : PyData.strOk x = true) (hy : PyData.strOk y = true) : PyData.strOk (x ++ y) = true := strOk_iff.mpr fun c hc => by
  have e := tl_append x y
  have hc' : c ∈ tl (x ++ y) := hc
  rw [e] at hc'
  exact (List.mem_append.mp hc').elim (strOk_iff.mp hx c) (strOk_iff.mp hy c)
/-- a value asked, its text well-formed -/
def isOkS (K : PySem.W.Frag) (H : Hp) (x : V) (g : Str → Bool) (b : Bool) : Prop :=
  (∃ z : Str, x = .str z ∧ z.length ≤ 1000000 ∧ PyData.strOk z = true ∧ b = g z) ∨ ((∃ t, TyX K H x t ∧ PySem.W.kitOne K t (.type "str") = some false) ∧ b = false)
theorem isOkS.ok {K : PySem.W.Frag} {H : Hp} {x : V} {g : Str → Bool} {b : Bool} (h : isOkS K H x g b) : isOk K H x g b := by
  rcases h with ⟨z, rfl, h1, _, h2⟩ | h
  · exact Or.inl ⟨z, rfl, h1, h2⟩
  · exact Or.inr h
theorem eqv_nil (l : List PyData) : PyData.eqv (.list l) (.list []) = decide (l = []) := by
  cases l with
  | nil => simp [PyData.eqv, PyData.eqvAll]
  | cons a l => simp [PyData.eqv, PyData.eqvAll]
end LF
namespace K1
open PySem PySem.Spec PyProof.Rows L2 LF
abbrev s__law_is_name : Stmt := topS 49
abbrev N__law_is_name : List Str := ["_law_thing", "_law_sign"]
theorem sc__law_is_name : FnScope ["_law_thing", "_law_sign"] ["_law_thing"] (defScope s__law_is_name) := ⟨rfl, rfl, rfl, by decide +kernel, rfl, by decide +kernel, by decide +kernel⟩
abbrev s__law_is_path : Stmt := topS 50
abbrev N__law_is_path : List Str := ["_law_thing", "_law_bits", "_law_part"]
theorem sc__law_is_path : FnScope ["_law_thing", "_law_bits", "_law_part"] ["_law_thing"] (defScope s__law_is_path) := ⟨rfl, rfl, rfl, by decide +kernel, rfl, by decide +kernel, by decide +kernel⟩
def spAsk (K : PySem.W.Frag) (g : Str → Bool) : Sp := fun vs H Q _ => ∃ (x : V) (b : Bool), vs = [x] ∧ isOkS K H x g b ∧ ∀ H', Same H H' → Q (.bl b) H'
section
variable {P : Program} {w : World} {K : PySem.W.Frag} {mg : Str → Option Value} {base : Heap} {tk1 tk2 : Tok}
theorem ok_lname {f : Addr} {fd : FuncData} (F : Fun K "_law_is_name" "_law_is_name" s__law_is_name f fd) (T : Txt K mg tk1 tk2) : FnOk P w K mg base CX0 1 f fd ["_law_thing"] (spAsk K isNm) := by
  refine F.ok sc__law_is_name (fun vs H Q E h => ?_) (fun cdv A outer s H vs Q E hr h => ?_)
  · obtain ⟨x, b, rfl, _⟩ := h
    rfl
  have hu := hr.units
  refine ⟨_, (pss_cons (ps_if (PW.pt (pw_or (pt_not (pt_val (pe_callB call_isi (by rfl) T.n_isinstance (by decide +kernel) (pa_cons (pv 0) (pa_cons (pe_bltn (v := .ty "str") (by rfl) T.n_str (by decide +kernel) rfl) pa_nil))))) (pw_or1 (pt_not (pt_chain op_le op_le pe_int (pe_callB call_len_str (by rfl) T.n_len (by decide +kernel) (pa_cons (pv 0) pa_nil)) pe_int))))) (pss_one (ps_ret pe_bl)) pss_nil)
    (pss_one (ps_ret (pe_cmpR (op_eqD hu) (pe_lc (own := [("_law_sign", 1)]) rfl sc__law_is_name.nd (pi_str (pv 0)) (blkOk_by (N := N__law_is_name) (sc := defScope s__law_is_name) (by decide +kernel)) (fun _ _ _ _ _ => pg_name (i := 1) sc__law_is_name.nd rfl (Or.inl rfl)) (fun _ _ _ _ _ => (pts_one (pt_cmpR op_notIn_sign (pv 1) pe_str (by rfl)))) (fun _ _ _ _ _ => (pv 1))) (pe_lst pa_nil) (nomark _))))), ?_⟩
  obtain ⟨x, b, rfl, hx, hq⟩ := h
  rcases hx with ⟨z, rfl, hz, hok, rfl⟩ | ⟨⟨t, ty, ht⟩, rfl⟩
  rotate_left
  · refine ⟨_, rfl, _, .ty "str", _, _, false, rfl, .ty _, ty, ht, ?_⟩
    exact ⟨_, rfl, iteT (iteT (hq H (Same.refl H)))⟩
  refine ⟨_, rfl, _, .ty "str", _, _, true, rfl, .ty _, .base (.str _), kit_str, ?_⟩
  refine ⟨_, rfl, iteF ?_⟩
  have hl : z.length ≤ sizeLine := Nat.le_trans hz (by decide)
  have hfalse : isNm z = false → Q (.bl false) H := fun e => by have := hq H (Same.refl H); rw [e] at this; exact this
  refine ⟨_, rfl, z, rfl, hl, _, _, rfl, rfl, _, rfl, ?_⟩
  refine ifD (fun h1 => ?_) (fun h1 => ?_)
  · refine ⟨_, _, rfl, rfl, _, rfl, ?_⟩
    refine ifN (fun h2 => ?_) (fun h2 => ?_)
    · refine ⟨_, rfl, z, rfl, fun D hD => ?_⟩
      refine lc_it walk_str (fun i H' => Same H H' ∧ H' D = some (.lst (((z.cps.toList.take i).filter fun c => !decide (c ∈ letters.cps.toList)).map fun c => V.str ⟨#[c]⟩)))
          ⟨fun b o e => by rw [upd_ne (ne_of_none e hD)]; exact e, by rw [upd_same]; rfl⟩ (fun _ _ _ _ => trivial) ?_ ?_
      · rintro i x H1 H2 hi ⟨sm, hd⟩ ⟨rfl, c, hc, rfl⟩
        have hcl : z.cps.toList[i]? = some c := by simpa using hc
        refine ⟨rfl, _, rfl, c, letters, rfl, rfl, _, rfl, ?_⟩
        have hlen : (((z.cps.toList.take i).filter fun c => !decide (c ∈ letters.cps.toList)).map fun c => V.str ⟨#[c]⟩).length < sizeLine := by
          rw [List.length_map]
          have h3 := List.length_filter_le (fun c => !decide (c ∈ letters.cps.toList)) (z.cps.toList.take i)
          rw [List.length_take] at h3
          have h4 : z.cps.toList.length = z.length := by simp [Str.length]
          exact Nat.lt_of_le_of_lt (show _ ≤ 8 by omega) (by decide)
        refine ifN (fun h3 => ?_) (fun h3 => ?_)
        · refine ⟨sm, ?_⟩
          have h5 := Array.mem_toList_iff.mp h3
          rw [hd, List.take_add_one, hcl]
          simp [h5]
        · refine ⟨_, rfl, _, hd, hlen, fun b o e => ?_, ?_⟩
          · rw [upd_ne (ne_of_none e hD)]; exact sm b o e
          · have h5 : ¬ c ∈ letters.cps := fun q => h3 (Array.mem_toList_iff.mpr q)
            rw [upd_same, List.take_add_one, hcl]
            simp [h5]
      · rintro H1 ⟨sm, hd⟩
        refine ⟨Nat.zero_le _, fun pe hpe => ?_⟩
        rw [List.take_of_length_le (by simp)] at hd
        have hstr : ∀ s ∈ ((z.cps.toList.filter fun c => !decide (c ∈ letters.cps.toList)).map fun c => (⟨#[c]⟩ : Str)), PyData.strOk s = true := by
          intro s hs
          obtain ⟨c, hc, rfl⟩ := List.mem_map.mp hs
          exact strOk_iff.mpr fun d hd' => by
            have hd2 : d ∈ [c] := hd'
            rw [List.mem_singleton.mp hd2]
            exact strOk_iff.mp hok c (List.mem_filter.mp hc).1
        have hmap : (z.cps.toList.filter fun c => !decide (c ∈ letters.cps.toList)).map (fun c => V.str ⟨#[c]⟩) = ((z.cps.toList.filter fun c => !decide (c ∈ letters.cps.toList)).map fun c => (⟨#[c]⟩ : Str)).map V.str := by
          rw [List.map_map]; rfl
        rw [hmap] at hd
        refine ⟨_, .list [], .lst (SqL.of (same_new hpe _ _ hd)) (dp_strs _), .lst (SqL.of upd_same) .nil, shaped_strs hstr, by decide +kernel, ?_⟩
        rw [eqv_nil]
        have hfin := hq _ (sm.trans (same_new (o := .lst []) hpe))
        have he : isNm z = decide (((z.cps.toList.filter fun c => !decide (c ∈ letters.cps.toList)).map fun c => (⟨#[c]⟩ : Str)).map PyData.str = []) := by
          unfold isNm
          have h3 : 1 ≤ z.length ∧ z.length ≤ 8 := by omega
          rw [decide_eq_true h3, Bool.true_and]
          rw [Bool.eq_iff_iff, List.all_eq_true, decide_eq_true_eq, List.map_eq_nil_iff, List.map_eq_nil_iff, List.filter_eq_nil_iff]
          simp
        rw [he] at hfin
        exact hfin
    · exact hfalse (by unfold isNm; rw [decide_eq_false (by omega)]; rfl)
  · refine ⟨_, rfl, iteT ?_⟩
    exact hfalse (by unfold isNm; rw [decide_eq_false (by omega)]; rfl)
end
end K1

set_option Elab.async false
set_option linter.all false
set_option maxRecDepth 100000
set_option maxHeartbeats 4000000
namespace K1
open PySem PySem.Spec PyProof.Rows L2 LF
theorem parts_ok {z p : Str} (hz : PyData.strOk z = true) (hp : p ∈ PySem.Txt.split z c_sl) : PyData.strOk p = true := strOk_sub hz (part_chars hp)
section
variable {P : Program} {w : World} {K : PySem.W.Frag} {mg : Str → Option Value} {base : Heap} {tk1 tk2 : Tok}
theorem ok_lpath {f f1 : Addr} {fd fd1 : FuncData} (F : Fun K "_law_is_path" "_law_is_path" s__law_is_path f fd) (T : Txt K mg tk1 tk2) (d_lname : DefAt P w K mg base "_law_is_name" 1 f1 fd1 ["_law_thing"] (spAsk K isNm)) : FnOk P w K mg base CX0 2 f fd ["_law_thing"] (spAsk K isPt) := by
  refine F.ok sc__law_is_path (fun vs H Q E h => ?_) (fun cdv A outer s H vs Q E hr h => ?_)
  · obtain ⟨x, b, rfl, _⟩ := h
    rfl
  have hu := hr.units
  refine ⟨_, (pss_cons (ps_if (pt_not (pt_val (pe_callB call_isi (by rfl) T.n_isinstance (by decide +kernel) (pa_cons (pv 0) (pa_cons (pe_bltn (v := .ty "str") (by rfl) T.n_str (by decide +kernel) rfl) pa_nil))))) (pss_one (ps_ret pe_bl)) pss_nil)
    (pss_cons (ps_set (i := 1) sc__law_is_path.nd rfl (Or.inl rfl) (pe_split (pv 0) pe_str))
    (pss_one (ps_ret (pe_or (pe_cmpR op_eq (pv 0) pe_str (nomark _)) (pe_one (pe_cmpR (op_eqD hu) (pe_lc (own := [("_law_part", 2)]) rfl sc__law_is_path.nd (pi_list (pv 1)) (blkOk_by (N := N__law_is_path) (sc := defScope s__law_is_path) (by decide +kernel)) (fun _ _ _ _ _ => pg_name (i := 2) sc__law_is_path.nd rfl (Or.inl rfl)) (fun _ _ _ _ _ => (pts_one (pt_not (pt_val (pe_callD d_lname (hr.mono (by decide)) (pa_cons (pv 2) pa_nil)))))) (fun _ _ _ _ _ => (pv 2))) (pe_lst pa_nil) (nomark _)))))))), ?_⟩
  obtain ⟨x, b, rfl, hx, hq⟩ := h
  rcases hx with ⟨z, rfl, hz, hok, rfl⟩ | ⟨⟨t, ty, ht⟩, rfl⟩
  rotate_left
  · refine ⟨_, rfl, _, .ty "str", _, _, false, rfl, .ty _, ty, ht, ?_⟩
    exact ⟨_, rfl, iteT (hq H (Same.refl H))⟩
  refine ⟨_, rfl, _, .ty "str", _, _, true, rfl, .ty _, .base (.str _), kit_str, _, rfl, iteF ?_⟩
  have hbig := sizeLine_big
  refine ⟨_, rfl, ⟨_, rfl⟩, z, c_sl, rfl, rfl, sl_ne, by omega, fun p hp => ?_⟩
  refine ⟨_, rfl, rfl, _, rfl, ?_⟩
  rw [str_dec]
  have s0 : Same H (upd H p (.lst ((PySem.Txt.split z c_sl).map V.str))) := same_new hp
  refine ifD (fun h1 => ?_) (fun h1 => ?_)
  · have := hq _ s0
    unfold isPt at this
    rw [decide_eq_true h1] at this
    exact this
  · refine ⟨_, rfl, p, rfl, ⟨_, SqL.of upd_same⟩, fun D hD => ?_⟩
    refine lc_filt (xs := (PySem.Txt.split z c_sl).map V.str) (fun x => match x with | .str y => !isNm y | _ => true) (fun x => x) hD (SqL.of upd_same) ?_ ?_ ?_ ?_
    · rw [List.length_map]
      have := split_le z c_sl
      omega
    · intro x H1 R hx sm hR
      obtain ⟨y, hy, rfl⟩ := List.mem_map.mp hx
      exact ⟨_, rfl, _, _, rfl, Or.inl ⟨y, rfl, Nat.le_trans (part_short hy) hz, parts_ok hok hy, rfl⟩, fun H' sm' => ⟨_, rfl, hR H' sm'⟩⟩
    · intro x H1 R hx _ sm hR
      exact ⟨_, rfl, hR H1 (Same.refl H1)⟩
    · intro H2 sm hd
      have em : (((PySem.Txt.split z c_sl).map V.str).filter fun x => match x with | .str y => !isNm y | _ => true).map (fun x => x) = ((PySem.Txt.split z c_sl).filter fun y => !isNm y).map V.str := by
        rw [List.map_id', List.filter_map]
        rfl
      rw [em] at hd
      refine ⟨Nat.zero_le _, fun pe hpe => ?_⟩
      refine ⟨_, .list [], .lst (SqL.of (same_new hpe _ _ hd)) (dp_strs _), .lst (SqL.of upd_same) .nil, shaped_strs (fun s hs => parts_ok hok (List.mem_filter.mp hs).1), by decide +kernel, ?_⟩
      rw [eqv_nil]
      have hfin := hq _ ((s0.trans sm).trans (same_new (o := .lst []) hpe))
      have he : isPt z = decide (((PySem.Txt.split z c_sl).filter fun y => !isNm y).map PyData.str = []) := by
        unfold isPt
        rw [decide_eq_false h1, Bool.false_or, Bool.eq_iff_iff, List.all_eq_true, decide_eq_true_eq, List.map_eq_nil_iff, List.filter_eq_nil_iff]
        simp
      rw [he] at hfin
      exact hfin
end
end K1

set_option Elab.async false
set_option linter.all false
set_option maxRecDepth 100000
set_option maxHeartbeats 4000000
namespace LF
open PySem PySem.Spec PyProof.Rows L2
/-! a dict comprehension with two clauses, {k: v for a in p if .. for b in q if ..} -/
abbrev dcx (kx vx ga pa gb pb : Expr) (fa fb : List Expr) (sc : Scope) (pz : Pos) : Expr := .DictComp kx vx [⟨ga, pa, fa, 0⟩, ⟨gb, pb, fb, 0⟩] sc pz
/-- the tests of a clause -/
abbrev tsts (fs : List Expr) (ev : Env) : Sem Bool := forIn fs true fun c r => if r = true then do let ok ← isTrue c ev (eval c ev); pure (ForInStep.yield ok) else pure (ForInStep.yield r)
theorem dcTurnA (kx vx ga pa gb pb : Expr) (fa fb : List Expr) (sc : Scope) (pz : Pos) (jt ac : Value) (ev : Env) :
    compTurn (dcx kx vx ga pa gb pb fa fb sc pz) 0 jt ac ev = (standAt pa.pos >>= fun _ => pyNext jt >>= fun r => match r with
      | none => pure (.done .next)
      | some v => letOwnedTupleGo ga jt v >>= fun _ => assign ga ev v >>= fun _ => tsts fa ev >>= fun ok => (if ok = true then
          eval pb ev >>= fun x => standAt pb.pos >>= fun _ => foldedSetIterable pb ev x >>= fun x => holding [x] (pyIter x) >>= fun jt1 => runOwn (.compStart (dcx kx vx ga pa gb pb fa fb sc pz) 1 jt1 ac ev) ev >>= fun _ =>
            again (.compLoop (dcx kx vx ga pa gb pb fa fb sc pz) 0 jt ac ev)
          else again (.compLoop (dcx kx vx ga pa gb pb fa fb sc pz) 0 jt ac ev))) := by rfl
theorem dcTurnB (kx vx ga pa gb pb : Expr) (fa fb : List Expr) (sc : Scope) (pz : Pos) (jt : Value) (D : Addr) (ev : Env) :
    compTurn (dcx kx vx ga pa gb pb fa fb sc pz) 1 jt (.ref D) ev = (standAt pb.pos >>= fun _ => pyNext jt >>= fun r => match r with
      | none => pure (.done .next)
      | some v => letOwnedTupleGo gb jt v >>= fun _ => assign gb ev v >>= fun _ => tsts fb ev >>= fun ok => (if ok = true then
          (eval kx ev >>= fun kv => holding [kv] (eval vx ev) >>= fun vv => standAt { kx.pos with endLine := vx.pos.endLine, endCol := vx.pos.endCol } >>= fun _ => holding [kv, vv] (dictSet D kv vv)) >>= fun _ =>
            again (.compLoop (dcx kx vx ga pa gb pb fa fb sc pz) 1 jt (.ref D) ev)
          else again (.compLoop (dcx kx vx ga pa gb pb fa fb sc pz) 1 jt (.ref D) ev))) := by rfl
section
variable {prog : Program} {w : World} {A : Around} {R : Result → Shared → Prop} {s : Shared} {kx vx ga pa gb pb : Expr} {fa fb : List Expr} {sc : Scope} {pz : Pos} {jt : Value} {D : Addr} {ev : Env}
abbrev nby (prog : Program) (w : World) (A : Around) (R : Result → Shared → Prop) (ev : Env) : Value → Shared → Prop := notedBy (model prog w) A ev fun e z => R (.error e) z
theorem dcLoopA (hf : ∀ x, foldedSetIterable pb ev x = pure x) (J : Nat → Shared → Prop)
    (turn : ∀ n z, J n z → wpAny (model prog w) A (pyNext jt) (fun r z1 => match r with
      | none => R (.ok .next) z1
      | some v => wpAny (model prog w) A (letOwnedTupleGo ga jt v) (fun _ z2 => wpAny (model prog w) A (assign ga ev v) (fun _ z3 => wpAny (model prog w) A (tsts fa ev) (fun ok z4 =>
          if ok = true then wpAny (model prog w) A (eval pb ev) (fun x z5 => wpAny (model prog w) A (pyIter x) (fun jt1 z6 =>
              codeAny (model prog w) A (.compStart (dcx kx vx ga pa gb pb fa fb sc pz) 1 jt1 (.ref D) ev) (fun r y => match r with
                | .ok _ => ∃ m, m < n ∧ J m y
                | .error _ => False) z6) (nby prog w A R ev) z5) (nby prog w A R ev) z4
          else ∃ m, m < n ∧ J m z4) (nby prog w A R ev) z3) (nby prog w A R ev) z2) (nby prog w A R ev) z1) (nby prog w A R ev) z)
    (n : Nat) (h : J n s) : codeAny (model prog w) A (.compLoop (dcx kx vx ga pa gb pb fa fb sc pz) 0 jt (.ref D) ev) R s := by
  refine codeAny_loop rfl J (fun n z hJ => ?_) n h
  show wpAny _ A ((compTurn (dcx kx vx ga pa gb pb fa fb sc pz) 0 jt (.ref D) ev).onRaise (fun x => do noteFrame x ev; theTreesLotGoes x)) _ _ z
  refine wpAny_noted ?_
  rw [dcTurnA]
  refine wpAny_bind (wpAny_standAt (wpAny_bind (wpAny_mono (turn n z hJ) (fun r z1 h1 => ?_) fun _ _ k => k)))
  cases r with
  | none => exact wpAny_pure h1
  | some v =>
    refine wpAny_bind (wpAny_mono h1 (fun _ z2 h2 => wpAny_bind (wpAny_mono h2 (fun _ z3 h3 => wpAny_bind (wpAny_mono h3 (fun ok z4 h4 => ?_) fun _ _ k => k)) fun _ _ k => k)) fun _ _ k => k)
    cases ok with
    | false => exact wpAny_pure ⟨rfl, h4⟩
    | true =>
      refine wpAny_bind (wpAny_mono h4 (fun x z5 h5 => wpAny_bind (wpAny_standAt (wpAny_bind (wpAny_of_eq (hf x) (wpAny_bind (wpAny_holding (wpAny_mono h5 (fun jt1 z6 h6 => ?_) fun _ _ k => k))))))) fun _ _ k => k)
      refine wpAny_bind (wpAny_runOwn ?_)
      rw [Around.mark_none]
      refine codeAny_mono h6 fun r y hr => ?_
      cases r with
      | ok f => exact wpAny_pure ⟨rfl, hr⟩
      | error e => exact hr.elim
theorem dcLoopB (J : Nat → Shared → Prop)
    (turn : ∀ n z, J n z → wpAny (model prog w) A (pyNext jt) (fun r z1 => match r with
      | none => R (.ok .next) z1
      | some v => wpAny (model prog w) A (letOwnedTupleGo gb jt v) (fun _ z2 => wpAny (model prog w) A (assign gb ev v) (fun _ z3 => wpAny (model prog w) A (tsts fb ev) (fun ok z4 =>
          if ok = true then wpAny (model prog w) A (eval kx ev) (fun kv z5 => wpAny (model prog w) A (eval vx ev) (fun vv z6 =>
              wpAny (model prog w) A (dictSet D kv vv) (fun _ z7 => ∃ m, m < n ∧ J m z7) (nby prog w A R ev) z6) (nby prog w A R ev) z5) (nby prog w A R ev) z4
          else ∃ m, m < n ∧ J m z4) (nby prog w A R ev) z3) (nby prog w A R ev) z2) (nby prog w A R ev) z1) (nby prog w A R ev) z)
    (n : Nat) (h : J n s) : codeAny (model prog w) A (.compLoop (dcx kx vx ga pa gb pb fa fb sc pz) 1 jt (.ref D) ev) R s := by
  refine codeAny_loop rfl J (fun n z hJ => ?_) n h
  show wpAny _ A ((compTurn (dcx kx vx ga pa gb pb fa fb sc pz) 1 jt (.ref D) ev).onRaise (fun x => do noteFrame x ev; theTreesLotGoes x)) _ _ z
  refine wpAny_noted ?_
  rw [dcTurnB]
  refine wpAny_bind (wpAny_standAt (wpAny_bind (wpAny_mono (turn n z hJ) (fun r z1 h1 => ?_) fun _ _ k => k)))
  cases r with
  | none => exact wpAny_pure h1
  | some v =>
    refine wpAny_bind (wpAny_mono h1 (fun _ z2 h2 => wpAny_bind (wpAny_mono h2 (fun _ z3 h3 => wpAny_bind (wpAny_mono h3 (fun ok z4 h4 => ?_) fun _ _ k => k)) fun _ _ k => k)) fun _ _ k => k)
    cases ok with
    | false => exact wpAny_pure ⟨rfl, h4⟩
    | true =>
      exact wpAny_bind (wpAny_bind (wpAny_mono h4 (fun kv z5 h5 => wpAny_bind (wpAny_holding (wpAny_mono h5 (fun vv z6 h6 => wpAny_bind (wpAny_standAt (wpAny_holding (wpAny_mono h6 (fun _ z7 h7 => wpAny_pure ⟨rfl, h7⟩) fun _ _ k => k)))) fun _ _ k => k))) fun _ _ k => k))
theorem dcStartB (h0 : codeAny (model prog w) A (.compLoop (dcx kx vx ga pa gb pb fa fb sc pz) 1 jt (.ref D) ev) R s)
    (h : wpAny (model prog w) A (pyIter jt) (fun jt' z => codeAny (model prog w) A (.compLoop (dcx kx vx ga pa gb pb fa fb sc pz) 1 jt' (.ref D) ev) R z) (nby prog w A R ev) s) :
    codeAny (model prog w) A (.compStart (dcx kx vx ga pa gb pb fa fb sc pz) 1 jt (.ref D) ev) R s := by
  refine codeAny_of_tree ?_
  show wpAny _ _ ((compStart (dcx kx vx ga pa gb pb fa fb sc pz) 1 jt (.ref D) ev).onRaise (fun x => do noteFrame x ev; standAt theWindowsPlace)) _ _ s
  refine wpAny_notedAt ?_
  unfold compStart
  show wpAny _ _ (ask >>= _) _ _ s
  refine wpAny_bind (wpAny_askSetting (wpAny_ite ?_))
  split
  · first
      | exact wpAny_bind (wpAny_pure (wpAny_pure (And.intro rfl h0)))
      | exact wpAny_pure (And.intro rfl h0)
  · first
      | exact wpAny_bind (wpAny_rule (wpAny_bind (wpAny_standAt (wpAny_bind (wpAny_mono h (fun jt' z k => wpAny_pure (And.intro rfl k)) fun _ _ x => x)))))
      | (refine wpAny_bind (wpAny_rule ?_); show wpAny _ _ (standAt pb.pos >>= _) _ _ s; exact wpAny_bind (wpAny_standAt (wpAny_bind (wpAny_mono h (fun jt' z k => wpAny_pure (And.intro rfl k)) fun _ _ x => x))))
end
end LF

set_option Elab.async false
set_option linter.all false
set_option maxRecDepth 100000
set_option maxHeartbeats 4000000
namespace LF
open PySem PySem.Spec PyProof.Rows L2
/-- what one turn of the second clause must bring: G is asked of the heap behind it -/
abbrev dcIn (tk tv : TE) (D : Addr) (σ : L2.St) (H : Hp) (G : Hp → Prop) : Prop := tk σ H fun y H1 => tv σ H1 fun z H2 => ∃ kvs k, y = kV k ∧ H2 D = some (.dK kvs) ∧ kvs.length < sizeLine ∧ G (upd H2 D (.dK (putK kvs k z)))
/-- the second clause, from the slots σ: Out is asked behind its last turn -/
def dcB (wb : TI) (gb : TG) (tb : TT) (tk tv : TE) (vb : List Nat) (D : Addr) (σ : L2.St) (H : Hp) (Out : Hp → Prop) : Prop := wb σ H fun J H1 => ∃ W : Nat → Nat → Hp → Prop, (∃ m, W 0 m H1) ∧ ∀ j k H, W j k H →
  (J.stop j H ∧ Out H) ∨ (J.go j H ∧ ∃ N : Hp → Prop, (∀ H', N H' → ∃ k', k' < k ∧ W (j + 1) k' H') ∧ ∀ x H', J.yld j H x H' → gb x (wipe σ vb) H' fun σ1 H2 => wipe σ1 vb = wipe σ vb ∧ tb σ1 H2 fun b H3 => if b = true then dcIn tk tv D σ1 H3 N else N H3)
def tDc2 (wa : TI) (ga : TG) (ta : TT) (wb : TI) (gb : TG) (tb : TT) (tk tv : TE) (va vb : List Nat) : TE := fun σ H Q => wa σ H fun J H1 => ∀ D, H1 D = none → ∃ W : Nat → Nat → Hp → Prop, (∃ m, W 0 m (upd H1 D (.dK []))) ∧ ∀ i m H, W i m H →
  (J.stop i H ∧ Q (.ref D) H) ∨ (J.go i H ∧ ∃ N : Hp → Prop, (∀ H', N H' → ∃ m', m' < m ∧ W (i + 1) m' H') ∧ ∀ x H', J.yld i H x H' → ga x (wipe σ va) H' fun σ1 H2 => wipe σ1 va = wipe σ va ∧ ta σ1 H2 fun b H3 => if b = true then dcB wb gb tb tk tv vb D σ1 H3 N else N H3)
section
variable {X : Cx}
/-- what is shown of each part of the block, wherever it stands -/
abbrev atBlk (X : Cx) (sc : Scope) (φ : Cx → Prop) : Prop := ∀ (s : Shared) (H : Hp) (C : Addr) (cl : List (Str × Addr)) (fp : List Addr), φ (X.blk s H sc (compEnvC sc cl C X.env) fp)
theorem dc2_run {pins : List (Addr × Obj)} {s : Shared} {σ : L2.St} {H : Hp} {Q : VK} {kx vx ea pa eb pb : Expr} {fa fb : List Expr} {sc : Scope} {own : List (Str × Nat)} {vb : List Nat} {pz pz' : Pos} {wa wb : TI} {ga gb : TG} {ta tb : TT} {tk tv : TE} {use : Option (Value → Sem Unit)} {Qf : Value → Shared → Prop}
    (hc : X.calm = true) (hN : X.N.Nodup) (I : Inv X pins σ H s) (hi : PI X ea pa wa) (bo : BlkOk X.N X.env.scope sc own) (hv : ∀ i ∈ vb, i ∈ own.map (·.2))
    (hga : atBlk X sc fun Y => PG Y ea ga) (hta : atBlk X sc fun Y => PTs Y fa ta) (hib : atBlk X sc fun Y => PI Y eb pb wb) (hgb : atBlk X sc fun Y => PG Y eb gb) (htb : atBlk X sc fun Y => PTs Y fb tb)
    (hk : atBlk X sc fun Y => PE Y kx tk) (hx : atBlk X sc fun Y => PE Y vx tv) (fla : ∀ x, foldedSetIterable pa X.env x = pure x) (flb : ∀ ev x, foldedSetIterable pb ev x = pure x)
    (h : tDc2 wa ga ta wb gb tb tk tv (own.map (·.2)) vb σ H Q)
    (back : ∀ D C y m H', Inv X pins σ H' y → Q (.ref D) H' → y.heap.Ns C m → FpOk X pins H' C → compPost (model X.prog X.w) X.A X.xe use Qf (.ref D) C (.ok .next) y) :
    wpAny (model X.prog X.w) X.A (comprehension (dcx kx vx ea pa eb pb fa fb sc pz) sc X.env pz' newDict false (eval pa X.env) use) Qf X.xe s := by
  have cells : ∀ y ∈ sc.names, y.2 = .free → ∃ c, X.env.cells.lookup y.1 = some c := fun y hy e => (bo.free y hy e).elim (fun k => I.ok.has _ (.inl k)) (fun k => I.ok.has _ (.inr k))
  refine wpAny_comprehension_free (use := use) rfl fla (closure_ok cells) bo.kind (fun y hy e => by rw [bo.uniq y hy, e]) (thn (hi.run pins s σ H _ I h) fun va' z1 k1 => thn k1 fun it' z2 k2 => ?_)
  obtain ⟨ia, fpa, na, Ja, Ha, ei, Ia, Ta, sa, fa0, qa⟩ := k2
  subst ei
  refine wpAny_newObj_type (newEnv_comp ?_)
  generalize eD : z2.heap.objs.size = D
  obtain ⟨W, ⟨m0, w0⟩, turnA⟩ := qa D (Ia.hok.fresh (Nat.le_of_eq eD))
  generalize ez3 : ({ z2 with heap := z2.heap.push { cls := .type "dict", data := .dict #[] } } : Shared) = z3
  have hp3 : z3.heap = z2.heap.push { cls := .type "dict", data := .dict #[] } := by rw [← ez3]
  have I3 : Inv X pins σ (upd Ha D (.dK [])) z3 := by
    rw [← ez3]
    refine Ia.laid (t' := z2.toks) (fun _ _ e => Heap.get?_push_of_some _ e) (Nat.le_of_eq eD) ?_
    rw [← eD]
    exact dk_empty z2.heap Ia.big
  have lo : ∀ b ∈ fpa, b < z2.heap.objs.size := fun b hb => let ⟨_, e, _⟩ := Ta.obj _ _ sa b hb; Heap.lt_size e
  have fa3 : ∀ b ∈ fpa, FpOk X pins (upd Ha D (.dK [])) b ∧ b < z3.heap.objs.size := fun b hb => by
    refine ⟨⟨?_, (fa0 b hb).2⟩, by rw [hp3, Heap.size_push]; exact Nat.lt_succ_of_lt (lo b hb)⟩
    rw [upd_ne (by rw [← eD]; exact Nat.ne_of_lt (lo b hb))]
    exact (fa0 b hb).1
  have sa3 : na 0 z3.heap := Ta.keep _ _ _ sa fun _ _ _ e => by rw [hp3]; exact Heap.get?_push_of_some _ e
  have Ib := block_start I3 bo hN fa3
  show codeAny _ _ (.compStart (dcx kx vx ea pa eb pb fa fb sc pz) 0 (.ref ia) (.ref D) (compEnvC sc (cellsFrom (z3.heap.objs.size + 1) sc.names (cloFrom X.env.cells sc.names [])) z3.heap.objs.size X.env))
    (compPost (model X.prog X.w) X.A X.xe use Qf (.ref D) z3.heap.objs.size) { z3 with heap := pushCells (z3.heap.push { cls := .type "dict", data := .dict #[] }) sc.names }
  generalize cellsFrom (z3.heap.objs.size + 1) sc.names (cloFrom X.env.cells sc.names []) = cl at Ib ⊢
  have pga := hga z3 (upd Ha D (.dK [])) z3.heap.objs.size cl fpa
  have pta := hta z3 (upd Ha D (.dK [])) z3.heap.objs.size cl fpa
  have pib := hib z3 (upd Ha D (.dK [])) z3.heap.objs.size cl fpa
  have pgb := hgb z3 (upd Ha D (.dK [])) z3.heap.objs.size cl fpa
  have ptb := htb z3 (upd Ha D (.dK [])) z3.heap.objs.size cl fpa
  have pk := hk z3 (upd Ha D (.dK [])) z3.heap.objs.size cl fpa
  have px := hx z3 (upd Ha D (.dK [])) z3.heap.objs.size cl fpa
  have nfa : ∀ b ∈ fpa, (upd Ha D (.dK [])) b = none := fun b hb => (fa3 b hb).1.1
  generalize ece : compEnvC sc cl z3.heap.objs.size X.env = ce at Ib pga pta pib pgb ptb pk px ⊢
  have ceL : ce.locals = z3.heap.objs.size := by subst ece; rfl
  generalize eH3 : upd Ha D (.dK []) = H3 at I3 Ib pga pta pib pgb ptb pk px w0 nfa fa3
  generalize ez4 : ({ z3 with heap := pushCells (z3.heap.push { cls := .type "dict", data := .dict #[] }) sc.names } : Shared) = z4 at Ib ⊢
  have sa4 : na 0 z4.heap := Ta.keep _ _ _ sa3 fun _ _ _ e => by rw [← ez4]; exact pushCells_keeps _ _ _ _ (Heap.get?_push_of_some _ e)
  generalize eY : X.blk z3 H3 sc ce fpa = Y at Ib pga pta pib pgb ptb pk px
  have cY : Y.calm = true := by rw [← eY]; exact hc
  have stay : ∀ {σ' : L2.St} {H' : Hp} {y : Shared}, Inv Y [] σ' H' y → (∀ b ∈ fpa, H' b = none) → ∀ b ∈ fpa, FpOk Y [] H' b := fun {σ' H' y} I' hn b hb => by
    subst eY
    exact ⟨hn b hb, (I'.ok.exf b hb).1, I'.ok.exfs b hb, .inl hb, fun x c e => (I'.ok.exf b hb).2 x c e, fun p hp => absurd (show p ∈ ([] : List (Addr × Obj)) ++ [] from hp) (by simp)⟩
  let st0 := wipe σ (own.map (·.2))
  let Turn : Nat → Shared → Prop := fun n y => ∃ i H', Inv Y [] st0 H' y ∧ na i y.heap ∧ (∀ b ∈ fpa, H' b = none) ∧ W i n H'
  have eP : model Y.prog Y.w = model X.prog X.w := by subst eY; rfl
  have eA : Y.A = X.A := by subst eY; rfl
  have loopA : codeAny (model X.prog X.w) X.A (.compLoop (dcx kx vx ea pa eb pb fa fb sc pz) 0 (.ref ia) (.ref D) ce) (compPost (model X.prog X.w) X.A X.xe use Qf (.ref D) z3.heap.objs.size) z4 := by
    refine dcLoopA (flb ce) Turn ?_ m0 ⟨0, H3, Ib, sa4, nfa, w0⟩
    rintro n z5 ⟨i, H5, I5, s5, n5, w5⟩
    rcases turnA i n H5 w5 with ⟨stop, qq⟩ | ⟨go, N, hNx, step⟩
    · subst eY
      refine thnF (Ta.done (X.blk z3 H3 sc ce fpa) rfl rfl rfl hc i [] z5 _ H5 (fun _ _ => False) I5 (stay I5 n5) s5 stop) fun r z6 ⟨hr, I6⟩ => ?_
      subst hr
      have I7 : Inv X pins σ H5 z6 := I3.call' (ch := fpa) I6.os I6.base I6.hok I6.bare fun b hb => ⟨(fa3 b hb).1.2.2.2.1, (fa3 b hb).1.2.1, (fa3 b hb).1.2.2.2.2.1, (fa3 b hb).1.2.2.2.2.2⟩
      have nC : H5 z3.heap.objs.size = none := by have q0 : H5 ce.locals = none := I6.free; rw [ceL] at q0; exact q0
      obtain ⟨m, hn, _⟩ := I6.loc
      have hn' : z6.heap.Ns ce.locals m := hn
      rw [ceL] at hn'
      exact back D z3.heap.objs.size z6 m H5 I7 qq hn' (I3.fpOk (Nat.le_refl _) nC)
    · subst eY
      refine thnF (Ta.item (X.blk z3 H3 sc ce fpa) rfl rfl rfl hc i [] z5 _ H5 (fun _ _ => False) I5 (stay I5 n5) s5 go) fun r z6 ⟨u, hr, k6⟩ => ?_
      subst hr
      refine thnF k6 fun _ z7 ⟨x, H7, I7, r7, y7, s7, n7⟩ => ?_
      have I7p := I7.pinned (stay I7 n7) (Ta.obj _ _ s7)
      refine thnF (pga.run _ z7 _ H7 x u _ I7p r7 (step x H7 y7)) fun _ z8 ⟨σ8, H8, I8, hw8, q8⟩ => ?_
      refine thnF (pta.run _ z8 σ8 H8 _ I8 q8) fun b z9 ⟨H9, I9, q9⟩ => ?_
      -- behind the turn, from slots that still know what the block knew
      have ends : ∀ {τ : L2.St} {y : Shared} {H' : Hp}, Inv (X.blk z3 H3 sc ce fpa) ([] ++ pinsAt fpa z7.heap) τ H' y → st0.length = τ.length → (∀ (j : Nat) v, st0[j]? = some (some v) → τ[j]? = some (some v)) → N H' → ∃ m, m < n ∧ Turn m y := fun {τ y H'} I' hl hkn nx => by
        obtain ⟨m', lt, w'⟩ := hNx H' nx
        have same : ∀ b ∈ fpa, ∀ o, z7.heap.get? b = some o → y.heap.get? b = some o ∧ H' b = none := fun b hb o e => let q := I'.pin (b, o) (List.mem_append_right _ (List.mem_append_right _ (mem_pinsAt hb e))); ⟨q.1, q.2.1⟩
        refine ⟨m', lt, i + 1, H', (I'.unpinned (pins := [])).weak hl hkn, Ta.keep _ _ _ s7 fun b hb o e => (same b hb o e).1, fun b hb => ?_, w'⟩
        obtain ⟨o, e, _⟩ := Ta.obj _ _ s7 b hb
        exact (same b hb o e).2
      have ln8 : st0.length = σ8.length := by show (wipe σ _).length = _; rw [← hw8, wipe_length]
      have kn8 : ∀ (j : Nat) v, st0[j]? = some (some v) → σ8[j]? = some (some v) := fun j v e => (wipe_some (show (wipe σ8 _)[j]? = _ by rw [hw8]; exact e)).1
      have kn9 : ∀ (j : Nat) v, st0[j]? = some (some v) → (wipe σ8 vb)[j]? = some (some v) := fun j v e => by
        obtain ⟨e1, e2⟩ := wipe_some (show (wipe σ8 (own.map (·.2)))[j]? = some (some v) by rw [hw8]; exact e)
        rw [wipe_out fun q => e2 (hv j q)]
        exact e1
      cases b with
      | false => exact ends I9 ln8 kn8 q9
      | true =>
        refine thnF (pib.run _ z9 σ8 H9 _ I9 q9) fun vv' z10 k10 => thnF k10 fun it'' z11 k11 => ?_
        obtain ⟨ib, fpb, nb, Jb, Hb, ej, I11, Tb, s11, fb0, Wb, ⟨mb, wb0⟩, turnB⟩ := k11
        subst ej
        have stayB : ∀ {H' : Hp}, (∀ b ∈ fpb, H' b = none) → ∀ b ∈ fpb, FpOk (X.blk z3 H3 sc ce fpa) ([] ++ pinsAt fpa z7.heap) H' b := fun hn b hb => ⟨hn b hb, (fb0 b hb).2⟩
        let TurnB : Nat → Shared → Prop := fun k y => ∃ j H', Inv (X.blk z3 H3 sc ce fpa) ([] ++ pinsAt fpa z7.heap) (wipe σ8 vb) H' y ∧ nb j y.heap ∧ (∀ b ∈ fpb, H' b = none) ∧ Wb j k H'
        have loopB : codeAny (model X.prog X.w) X.A (.compLoop (dcx kx vx ea pa eb pb fa fb sc pz) 1 (.ref ib) (.ref D) ce) (fun r y => match r with
            | .ok _ => ∃ m, m < n ∧ Turn m y
            | .error _ => False) z11 := by
          refine dcLoopB TurnB ?_ mb ⟨0, Hb, I11.weak (wipe_length _ _) (fun j v e => (wipe_some e).1), s11, fun b hb => (fb0 b hb).1, wb0⟩
          rintro k z12 ⟨j, H12, I12, s12, n12, w12⟩
          rcases turnB j k H12 w12 with ⟨stop1, nx1⟩ | ⟨go1, N1, hN1, step1⟩
          · refine thnF (Tb.done (X.blk z3 H3 sc ce fpa) rfl rfl rfl hc j _ z12 (wipe σ8 vb) H12 (fun _ _ => False) I12 (stayB n12) s12 stop1) fun r z13 ⟨hr, I13⟩ => ?_
            subst hr
            exact ends I13 (ln8.trans (wipe_length σ8 vb).symm) kn9 nx1
          · refine thnF (Tb.item (X.blk z3 H3 sc ce fpa) rfl rfl rfl hc j _ z12 (wipe σ8 vb) H12 (fun _ _ => False) I12 (stayB n12) s12 go1) fun r z13 ⟨u1, hr, k13⟩ => ?_
            subst hr
            refine thnF k13 fun _ z14 ⟨x1, H14, I14, r14, y14, s14, n14⟩ => ?_
            refine thnF (pgb.run _ z14 (wipe σ8 vb) H14 x1 u1 _ (I14.pinned (stayB n14) (Tb.obj _ _ s14)) r14 (step1 x1 H14 y14)) fun _ z15 ⟨σ15, H15, I15, hw15, q15⟩ => ?_
            refine thnF (ptb.run _ z15 σ15 H15 _ I15 q15) fun b1 z16 ⟨H16, I16, q16⟩ => ?_
            have endsB : ∀ {y : Shared} {H' : Hp}, Inv (X.blk z3 H3 sc ce fpa) (([] ++ pinsAt fpa z7.heap) ++ pinsAt fpb z14.heap) σ15 H' y → N1 H' → ∃ m, m < k ∧ TurnB m y := fun {y H'} I' nx => by
              obtain ⟨m', lt, w'⟩ := hN1 H' nx
              have same : ∀ b ∈ fpb, ∀ o, z14.heap.get? b = some o → y.heap.get? b = some o ∧ H' b = none := fun b hb o e => let q := I'.pin (b, o) (List.mem_append_right _ (List.mem_append_right _ (mem_pinsAt hb e))); ⟨q.1, q.2.1⟩
              refine ⟨m', lt, j + 1, H', I'.unpinned.weak (by rw [← hw15, wipe_length]) (fun j' v e => (wipe_some (show (wipe σ15 vb)[j']? = some (some v) by rw [hw15]; exact e)).1), Tb.keep _ _ _ s14 fun b hb o e => (same b hb o e).1, fun b hb => ?_, w'⟩
              obtain ⟨o, e, _⟩ := Tb.obj _ _ s14 b hb
              exact (same b hb o e).2
            cases b1 with
            | false => exact endsB I16 q16
            | true =>
              refine thnF (pk.run _ z16 σ15 H16 _ I16 q16) fun uk z17 ⟨yk, H17, I17, r17, q17⟩ => ?_
              refine thnF (px.run _ z17 σ15 H17 _ I17 q17) fun uv z18 ⟨yv, H18, I18, r18, kvs, ky, ek, hD18, hz18, nx⟩ => ?_
              subst ek
              exact d_dictSet (X := X.blk z3 H3 sc ce fpa) I18 hD18 hz18 r17 r18 fun z19 I19 => endsB I19 nx
        exact dcStartB loopB (Tb.self X.A 0 _ _ _ s11 loopB)
  exact codeAny_compStart_dict loopA (Ta.self X.A 0 _ _ _ sa4 loopA)
theorem pe_dc2 {kx vx ea pa eb pb : Expr} {fa fb : List Expr} {sc : Scope} {own : List (Str × Nat)} {vb : List Nat} {pz : Pos} {wa wb : TI} {ga gb : TG} {ta tb : TT} {tk tv : TE}
    (hc : X.calm = true) (hN : X.N.Nodup) (hi : PI X ea pa wa) (bo : BlkOk X.N X.env.scope sc own) (hv : ∀ i ∈ vb, i ∈ own.map (·.2))
    (hga : ∀ (z : Shared) (G : Hp) (c : Addr) (cs : List (Str × Addr)) (fs : List Addr), PG (X.blk z G sc (compEnvC sc cs c X.env) fs) ea ga) (hta : ∀ (z : Shared) (G : Hp) (c : Addr) (cs : List (Str × Addr)) (fs : List Addr), PTs (X.blk z G sc (compEnvC sc cs c X.env) fs) fa ta) (hib : ∀ (z : Shared) (G : Hp) (c : Addr) (cs : List (Str × Addr)) (fs : List Addr), PI (X.blk z G sc (compEnvC sc cs c X.env) fs) eb pb wb) (hgb : ∀ (z : Shared) (G : Hp) (c : Addr) (cs : List (Str × Addr)) (fs : List Addr), PG (X.blk z G sc (compEnvC sc cs c X.env) fs) eb gb) (htb : ∀ (z : Shared) (G : Hp) (c : Addr) (cs : List (Str × Addr)) (fs : List Addr), PTs (X.blk z G sc (compEnvC sc cs c X.env) fs) fb tb)
    (hk : ∀ (z : Shared) (G : Hp) (c : Addr) (cs : List (Str × Addr)) (fs : List Addr), PE (X.blk z G sc (compEnvC sc cs c X.env) fs) kx tk) (hx : ∀ (z : Shared) (G : Hp) (c : Addr) (cs : List (Str × Addr)) (fs : List Addr), PE (X.blk z G sc (compEnvC sc cs c X.env) fs) vx tv) (fla : ∀ x, foldedSetIterable pa X.env x = pure x := by intro _; rfl) (flb : ∀ ev x, foldedSetIterable pb ev x = pure x := by intro _ _; rfl) :
    PE X (dcx kx vx ea pa eb pb fa fb sc pz) (tDc2 wa ga ta wb gb tb tk tv (own.map (·.2)) vb) := by
  refine ⟨fun pins s σ H Q I h => ?_⟩
  have e0 : eval (dcx kx vx ea pa eb pb fa fb sc pz) X.env = comprehension (dcx kx vx ea pa eb pb fa fb sc pz) sc X.env (firstIterPos [⟨ea, pa, fa, 0⟩, ⟨eb, pb, fb, 0⟩] pz) newDict false (eval pa X.env) none := by rfl
  rw [e0]
  refine dc2_run hc hN I hi bo hv hga hta hib hgb htb hk hx fla flb h fun D C y m H' I' q hn f => ⟨m, hn, fun h'' sb => ?_⟩
  obtain ⟨f0, f1, f2, f3, f4, f5⟩ := f
  exact ⟨.ref D, H', I'.turned (t' := y.toks) (fun b o hb e => (sb.2 b hb).trans e) f0 f1 f3 f4 f5, rfl, q⟩
end
end LF

set_option Elab.async false
set_option linter.all false
set_option maxRecDepth 100000
set_option maxHeartbeats 4000000
namespace LF
open PySem PySem.Spec PyProof.Rows L2
section
variable {J : It} {n : Nat} {G : Hp → Prop} {Y : Nat → Hp → V → Hp → Prop}
theorem dcB_it (wk : Walk J n G Y) {gb : TG} {tb : TT} {tk tv : TE} {vb : List Nat} {D : Addr} {σ : L2.St} {H0 : Hp} {Out : Hp → Prop} (Pv : Nat → Hp → Prop) (start : Pv 0 H0) (stays : ∀ i H, i ≤ n → Pv i H → G H)
    (turn : ∀ i x H H', i < n → Pv i H → Y i H x H' → gb x (wipe σ vb) H' fun σ1 H2 => wipe σ1 vb = wipe σ vb ∧ tb σ1 H2 fun b H3 => if b = true then dcIn tk tv D σ1 H3 (Pv (i + 1)) else Pv (i + 1) H3) (done : ∀ H, Pv n H → Out H) :
    ∃ W : Nat → Nat → Hp → Prop, (∃ m, W 0 m H0) ∧ ∀ j k H, W j k H →
      (J.stop j H ∧ Out H) ∨ (J.go j H ∧ ∃ N : Hp → Prop, (∀ H', N H' → ∃ k', k' < k ∧ W (j + 1) k' H') ∧ ∀ x H', J.yld j H x H' → gb x (wipe σ vb) H' fun σ1 H2 => wipe σ1 vb = wipe σ vb ∧ tb σ1 H2 fun b H3 => if b = true then dcIn tk tv D σ1 H3 N else N H3) := by
  refine ⟨fun i m H => m = n - i ∧ i ≤ n ∧ Pv i H, ⟨n, by simp, Nat.zero_le _, start⟩, ?_⟩
  rintro i m H ⟨rfl, hi, p⟩
  rcases Nat.lt_or_eq_of_le hi with lt | rfl
  · exact .inr ⟨wk.goes i H lt (stays i H hi p), Pv (i + 1), fun H' p' => ⟨n - (i + 1), by omega, rfl, lt, p'⟩, fun x H' y => turn i x H H' lt p (wk.yields i H x H' lt (stays i H hi p) y)⟩
  · exact .inl ⟨wk.stops H (stays i H hi p), done H p⟩
theorem dc2_it (wk : Walk J n G Y) {ga : TG} {ta : TT} {wb : TI} {gb : TG} {tb : TT} {tk tv : TE} {va vb : List Nat} {D : Addr} {σ : L2.St} {H0 : Hp} {Out : Hp → Prop} (Pv : Nat → Hp → Prop) (start : Pv 0 (upd H0 D (.dK []))) (stays : ∀ i H, i ≤ n → Pv i H → G H)
    (turn : ∀ i x H H', i < n → Pv i H → Y i H x H' → ga x (wipe σ va) H' fun σ1 H2 => wipe σ1 va = wipe σ va ∧ ta σ1 H2 fun b H3 => if b = true then dcB wb gb tb tk tv vb D σ1 H3 (Pv (i + 1)) else Pv (i + 1) H3) (done : ∀ H, Pv n H → Out H) :
    ∃ W : Nat → Nat → Hp → Prop, (∃ m, W 0 m (upd H0 D (.dK []))) ∧ ∀ i m H, W i m H →
      (J.stop i H ∧ Out H) ∨ (J.go i H ∧ ∃ N : Hp → Prop, (∀ H', N H' → ∃ m', m' < m ∧ W (i + 1) m' H') ∧ ∀ x H', J.yld i H x H' → ga x (wipe σ va) H' fun σ1 H2 => wipe σ1 va = wipe σ va ∧ ta σ1 H2 fun b H3 => if b = true then dcB wb gb tb tk tv vb D σ1 H3 N else N H3) := by
  refine ⟨fun i m H => m = n - i ∧ i ≤ n ∧ Pv i H, ⟨n, by simp, Nat.zero_le _, start⟩, ?_⟩
  rintro i m H ⟨rfl, hi, p⟩
  rcases Nat.lt_or_eq_of_le hi with lt | rfl
  · exact .inr ⟨wk.goes i H lt (stays i H hi p), Pv (i + 1), fun H' p' => ⟨n - (i + 1), by omega, rfl, lt, p'⟩, fun x H' y => turn i x H H' lt p (wk.yields i H x H' lt (stays i H hi p) y)⟩
  · exact .inl ⟨wk.stops H (stays i H hi p), done H p⟩
end
end LF

set_option Elab.async false
set_option linter.all false
set_option maxRecDepth 100000
set_option maxHeartbeats 4000000
namespace LF
open PySem PySem.Spec PyProof.Rows L2
/-- what a class without an __init__ must have to be made -/
structure Mk0 (K : PySem.W.Frag) (C : Addr) : Prop where
  makes : PySem.W.makesIn K C = true
  init : PySem.W.findIn K (.ref C) "__init__" = some (some (.builtin "object.__init__"))
  kp : PySem.W.keepIn K (.ref C) = true
def tMake0 (C : Addr) : TE := fun _ H Q => ∀ x dx, H x = none → H dx = none → dx ≠ x → Q (.ref x) (upd (upd H dx (.own x)) x (.ins C dx []))
/-- C() of a class without an __init__ -/
theorem pe_new0 {X : Cx} {C : Addr} {x : Str} {p pos : Pos} (M : Mk0 X.K C) (hg : Gl X x) (hm : X.mg x = some (.ref C))
    (hdb : (x == ("__debug__" : Str)) = false := by decide) : PE X (.Call (.Name x p) [] [] pos) (tMake0 C) := by
  refine ⟨fun pins s σ H Q I h => ?_⟩
  refine wpAny_Call_Name_kw (ld_glob I hg hm ?_ hdb)
  refine PySem.W.callWith_K0 I.kIn M.kp ?_
  have hq := h (s.heap.objs.size + 1) s.heap.objs.size (I.hok.fresh (Nat.le_succ _)) (I.hok.fresh (Nat.le_refl _)) (Nat.ne_of_lt (Nat.lt_succ_self _))
  have I2 := Inv.made (C := C) I
  have Y := PySem.W.makes_of (M := model X.prog X.w) I.kIn M.makes
  refine wpAny_call (make_map0 I.kIn M.makes M.init (fun self => PySem.W.Looks.of_pure (PySem.W.oi_bind self)) ?_)
  have e2 : ((s.heap.push PySem.W.emptyDict).push (PySem.W.instObj C s.heap.objs.size)).get? (s.heap.objs.size + 1) = some (PySem.W.instObj C s.heap.objs.size) := by
    have := Heap.get?_push_size (s.heap.push PySem.W.emptyDict) (o := PySem.W.instObj C s.heap.objs.size) rfl
    rwa [Heap.size_push] at this
  have t1 : PySem.W.Looks (model X.prog X.w) ((s.heap.push PySem.W.emptyDict).push (PySem.W.instObj C s.heap.objs.size)) (typeOf (.ref (s.heap.objs.size + 1))) (.ref C) := (PySem.W.Looks.ld e2).andThen .now
  have t2 : PySem.W.Looks (model X.prog X.w) ((s.heap.push PySem.W.emptyDict).push (PySem.W.instObj C s.heap.objs.size)) (isInstance (.ref (s.heap.objs.size + 1)) (.type "object")) true :=
    t1.andThen (Y.top.keeps fun b o e => Heap.get?_push_of_some _ (Heap.get?_push_of_some _ e))
  refine codeAny_call_builtin PySem.W.oi_plain PySem.W.entry_oi (@PySem.W.check_slot (model X.prog X.w) _ _ _ "object.__init__" "object" "__init__" (.ref (s.heap.objs.size + 1)) [] [] _ PySem.W.oi_kind PySem.W.oi_split t2 (PySem.W.oi_args (.ref (s.heap.objs.size + 1))) ?_)
  rw [PySem.W.oi_run]
  exact wpAny_pure (And.intro rfl ⟨V.ref (s.heap.objs.size + 1), _, I2, rfl, hq⟩)
end LF

set_option Elab.async false
set_option linter.all false
set_option maxRecDepth 100000
set_option maxHeartbeats 4000000
namespace LF
open PySem PySem.Spec PyProof.Rows L2
/-- code that is never come to -/
theorem pe_never {X : Cx} {e : Expr} : PE X e (fun _ _ _ => False) := ⟨fun _ _ _ _ _ _ h => h.elim⟩
theorem pt_never {X : Cx} {e : Expr} : PT X e (fun _ _ _ => False) := ⟨fun _ _ _ _ _ _ h => h.elim⟩
end LF
namespace K1
open PySem PySem.Spec PyProof.Rows L2 LF
abbrev s_check_entries : Stmt := topS 33
abbrev N_check_entries : List Str := ["entries", "key", "wrong", "path"]
theorem sc_check_entries : FnScope ["entries", "key", "wrong", "path"] ["entries"] (defScope s_check_entries) := ⟨rfl, rfl, rfl, by decide +kernel, rfl, by decide +kernel, by decide +kernel⟩
abbrev s_with_parents : Stmt := topS 35
abbrev N_with_parents : List Str := ["entries", "full", "path", "place"]
theorem sc_with_parents : FnScope ["entries", "full", "path", "place"] ["entries"] (defScope s_with_parents) := ⟨rfl, rfl, rfl, by decide +kernel, rfl, by decide +kernel, by decide +kernel⟩
abbrev s_solid_entries : Stmt := topS 36
abbrev N_solid_entries : List Str := ["entries", "torn", "path", "place"]
theorem sc_solid_entries : FnScope ["entries", "torn", "path", "place"] ["entries"] (defScope s_solid_entries) := ⟨rfl, rfl, rfl, by decide +kernel, rfl, by decide +kernel, by decide +kernel⟩
abbrev s_names_within : Stmt := topS 37
abbrev N_names_within : List Str := ["entries", "rooms", "path", "folder", "slash", "name"]
theorem sc_names_within : FnScope ["entries", "rooms", "path", "folder", "slash", "name"] ["entries"] (defScope s_names_within) := ⟨rfl, rfl, rfl, by decide +kernel, rfl, by decide +kernel, by decide +kernel⟩
abbrev s_Notebook : Stmt := topS 42
abbrev s_ninit : Stmt := inClass s_Notebook 0
theorem sc_ninit : FnScope ["self"] ["self"] (defScope s_ninit) := ⟨rfl, rfl, rfl, by decide +kernel, rfl, by decide +kernel, by decide +kernel⟩
abbrev s_Package : Stmt := topS 44
abbrev s_init : Stmt := inClass s_Package 1
theorem sc_init : FnScope ["self", "entries", "given"] ["self", "entries"] (defScope s_init) := ⟨rfl, rfl, rfl, by decide +kernel, rfl, by decide +kernel, by decide +kernel⟩
abbrev s_files : Stmt := inClass s_Package 8
theorem sc_files : FnScope ["self"] ["self"] (defScope s_files) := ⟨rfl, rfl, rfl, by decide +kernel, rfl, by decide +kernel, by decide +kernel⟩
abbrev s_folders : Stmt := inClass s_Package 9
theorem sc_folders : FnScope ["self"] ["self"] (defScope s_folders) := ⟨rfl, rfl, rfl, by decide +kernel, rfl, by decide +kernel, by decide +kernel⟩
abbrev s_references : Stmt := inClass s_Package 10
theorem sc_references : FnScope ["self"] ["self"] (defScope s_references) := ⟨rfl, rfl, rfl, by decide +kernel, rfl, by decide +kernel, by decide +kernel⟩
abbrev s_paths_of : Stmt := inClass s_Package 11
abbrev N_paths_of : List Str := ["self", "kind", "path"]
theorem sc_paths_of : FnScope ["self", "kind", "path"] ["self", "kind"] (defScope s_paths_of) := ⟨rfl, rfl, rfl, by decide +kernel, rfl, by decide +kernel, by decide +kernel⟩
abbrev s_repr : Stmt := inClass s_Package 17
theorem sc_repr : FnScope ["self"] ["self"] (defScope s_repr) := ⟨rfl, rfl, rfl, by decide +kernel, rfl, by decide +kernel, by decide +kernel⟩

def spCE0 : Sp := fun vs H Q _ => ∃ d, vs = [.ref d] ∧ H d = some (.dK []) ∧ ∀ H', Same H H' → Q .non H'
def spWP0 : Sp := fun vs H Q _ => ∃ d, vs = [.ref d] ∧ H d = some (.dK []) ∧ ∀ H' p, Same H H' → H p = none → H' p = some (.dK []) → Q (.ref p) H'
/-- what else a package has: solid, rooms, token, notes -/
structure PkX where
  s : Addr
  r : Addr
  t : Addr
  n : Addr
def pkFs (d : Addr) (x : PkX) : List (Str × V) := [("entries", .ref d), ("solid", .ref x.s), ("rooms", .ref x.r), ("token", .ref x.t), ("notes", .ref x.n)]
/-- a package without entries -/
def Pk (C : Addr) (H : Hp) (p : Addr) : Prop := ∃ dx d, (∃ x, H p = some (.ins C dx (pkFs d x)) ∧ True) ∧ H d = some (.dK [])
theorem Pk.same {C p : Addr} {H H' : Hp} (h : Pk C H p) (s : Same H H') : Pk C H' p := by
  obtain ⟨dx, d, ⟨x, h1, _⟩, h2⟩ := h
  exact ⟨dx, d, ⟨x, s _ _ h1, True.intro⟩, s _ _ h2⟩
def spSolid0 : Sp := fun vs H Q _ => ∃ d, vs = [.ref d] ∧ H d = some (.dK []) ∧ ∀ H' p, Same H H' → H p = none → H' p = some (.dK []) → Q (.ref p) H'
def spWithin0 : Sp := fun vs H Q _ => ∃ d, vs = [.ref d] ∧ H d = some (.dK []) ∧ ∀ H' p, Same H H' → H p = none → Q (.ref p) H'
def spInit0 (C : Addr) : Sp := fun vs H Q _ => ∃ p dx, vs = [.ref p, .non] ∧ H p = some (.ins C dx []) ∧ ∀ H', Keep p H H' → Pk C H' p → Q .non H'
def spPO0 (C : Addr) : Sp := fun vs H Q _ => ∃ p z, vs = [.ref p, .str z] ∧ Pk C H p ∧ ∀ H' q, Same H H' → H' q = some (.lst []) → Q (.ref q) H'
def spPr0 (C : Addr) : Sp := fun vs H Q _ => ∃ p, vs = [.ref p] ∧ Pk C H p ∧ ∀ H' q, Same H H' → H' q = some (.lst []) → Q (.ref q) H'
def pkText : Str := "Package(0 files, 0 folders, 0 references)"
def spRepr0 (C : Addr) : Sp := fun vs H Q _ => ∃ p, vs = [.ref p] ∧ Pk C H p ∧ ∀ H', Same H H' → Q (.str pkText) H'
structure PkTxt (K : PySem.W.Frag) (mg : Str → Option Value) (C : Addr) : Prop where
  cl : Cls K C
  nE : NoAttr K C "entries"
  gC : mg "Package" = some (.ref C)
  lim : ∃ tk, Con K C "LIMIT" (.int 40) (.int 40 tk)
  nS : NoAttr K C "solid"
  nR : NoAttr K C "rooms"
  nT : NoAttr K C "token"
  nN : NoAttr K C "notes"
/-- the classes Token and Notebook -/
structure TokTxt (K : PySem.W.Frag) (mg : Str → Option Value) (CT : Addr) : Prop where
  made : Mk0 K CT
  g : mg "Token" = some (.ref CT)
def spNote (CN : Addr) : Sp := fun vs H Q _ => ∃ p dx, vs = [.ref p] ∧ H p = some (.ins CN dx []) ∧ ∀ H' r, Keep p H H' → H r = none → H' p = some (.ins CN dx [("rows", .ref r)]) → H' r = some (.dK []) → Q .non H'
structure NoteTxt (P : Program) (w : World) (K : PySem.W.Frag) (mg : Str → Option Value) (base : Heap) (CN fN : Addr) (fdN : FuncData) : Prop where
  made : Mk K CN fN
  g : mg "Notebook" = some (.ref CN)
  F : FnOk P w K mg base CX0 1 fN fdN ["self"] (spNote CN)
  b : Binds K fdN ["self"] []
/-- behind a lock the heap is as ahead of it -/
theorem same_unlock {H H' : Hp} {d : Addr} {u : HO} {o : Obj} (h : H d = some u) (s : Same (upd H d (.frz o u)) H') : Same H (upd H' d u) := fun b x e => by
  by_cases hb : b = d
  · subst hb
    rw [upd_same, ← e, h]
  · rw [upd_ne hb]
    exact s b x (by rw [upd_ne hb]; exact e)
theorem lk_entries (d : Addr) {x : PkX} : List.lookup ("entries" : Str) (pkFs d x) = some (.ref d) := by simp [pkFs, List.lookup]
def pkNot (m : Str) : Bool := !(m == ("entries" : Str)) && !(m == ("solid" : Str)) && !(m == ("rooms" : Str)) && !(m == ("token" : Str)) && !(m == ("notes" : Str))
theorem lk_no {m : Str} (d : Addr) {x : PkX} (h : pkNot m = true) : List.lookup m (pkFs d x) = none := by
  unfold pkNot at h
  simp only [Bool.and_eq_true, Bool.not_eq_true'] at h
  obtain ⟨⟨⟨⟨h1, h2⟩, h3⟩, h4⟩, h5⟩ := h
  simp [pkFs, List.lookup, h1, h2, h3, h4, h5]
section
variable {P : Program} {w : World} {K : PySem.W.Frag} {mg : Str → Option Value} {base : Heap} {tk1 tk2 : Tok}
theorem ok_check_entries0 {f f1 : Addr} {fd fd1 : FuncData} (F : Fun K "check_entries" "check_entries" s_check_entries f fd) (T : Txt K mg tk1 tk2) (d_in_order : DefAt P w K mg base "in_order" 5 f1 fd1 ["paths"] (spOrder K)) :
    FnOk P w K mg base CX0 6 f fd ["entries"] spCE0 := by
  refine F.ok sc_check_entries (fun vs H Q E h => ?_) (fun cdv A outer s H vs Q E hr h => ?_)
  · obtain ⟨d, rfl, _⟩ := h
    rfl
  refine ⟨_, (pss_cons (ps_if (PW.pt (pw_or (pt_not (pt_val (pe_callB call_isi (by rfl) T.n_isinstance (by decide +kernel) (pa_cons (pv 0) (pa_cons (pe_bltn (v := .ty "dict") (by rfl) T.n_dict (by decide +kernel) rfl) pa_nil))))) (pw_or1 (pt_not (pt_val (pe_callB (cr_all rfl) (by rfl) T.n_all (by decide +kernel) (pa_cons (pe_lock (pe_lc (own := [("key", 1)]) rfl sc_check_entries.nd (pi_keys (pv 0)) (blkOk_by (N := N_check_entries) (sc := defScope s_check_entries) (by decide +kernel)) (fun _ _ _ _ _ => pg_name (i := 1) sc_check_entries.nd rfl (Or.inl rfl)) (fun _ _ _ _ _ => pts_nil) (fun _ _ _ _ _ => pe_never))) pa_nil))))))) (pss_one ps_never) pss_nil)
    (pss_cons (ps_lock (ps_setLc (i := 2) (own := [("key", 1)]) rfl sc_check_entries.nd rfl rfl (sw_true rfl rfl rfl (by decide +kernel)) (pi_keys (pv 0)) (blkOk_by (N := N_check_entries) (sc := defScope s_check_entries) (by decide +kernel)) (fun _ _ _ _ _ => pg_name (i := 1) sc_check_entries.nd rfl (Or.inl rfl)) (fun _ _ _ _ _ => pts_one pt_never) (fun _ _ _ _ _ => pe_never)))
    (pss_cons (ps_if (pt_cmpR op_gt (pe_callB call_len_seq (by rfl) T.n_len (by decide +kernel) (pa_cons (pv 2) pa_nil)) pe_int (nomark _)) (pss_one ps_never) pss_nil)
    (pss_one (ps_for PassesOwn.never rfl (pi_list (pe_callD d_in_order (hr.mono (by decide)) (pa_cons (pe_callTy (call_listD rfl) (by rfl) T.n_list (by decide +kernel) (pa_cons (pv 0) pa_nil)) pa_nil))) (pg_name (i := 3) sc_check_entries.nd rfl (Or.inl rfl)) (pss_one ps_never)))))), ?_⟩
  obtain ⟨d, rfl, hd, hq⟩ := h
  refine ⟨_, rfl, _, .ty "dict", _, _, true, rfl, .ty _, .base (.dK hd), kit_ty (by decide +kernel), ?_⟩
  refine ⟨_, rfl, iteF ?_⟩
  refine ⟨d, _, hd, True.intro, fun od => ?_⟩
  refine ⟨_, rfl, d, od, rfl, Or.inl ⟨[], upd_same, fun D hD => ?_⟩⟩
  have nDd : d ≠ D := ne_of_none upd_same hD
  refine ⟨fun i m H' => i = 0 ∧ H' = upd (upd H d (.frz od (.dK []))) D (.lst []), ⟨0, rfl, rfl⟩, ?_⟩
  rintro i m H1 ⟨rfl, rfl⟩
  refine Or.inl ⟨⟨by rw [upd_ne nDd, upd_same], Nat.le_refl _⟩, ?_⟩
  refine ⟨by rw [upd_ne nDd, upd_same], ?_⟩
  have s1 : Same H (upd (upd (upd H d (.frz od (.dK []))) D (.lst [])) d (.dK [])) := same_unlock hd (same_new hD)
  have hD1 : (upd (upd (upd H d (.frz od (.dK []))) D (.lst [])) d (.dK [])) D = some (.lst []) := by rw [upd_ne nDd.symm, upd_same]
  generalize (upd (upd (upd H d (.frz od (.dK []))) D (.lst [])) d (.dK [])) = H1 at s1 hD1
  refine ⟨D, [], rfl, SqL.of hD1, ?_⟩
  refine ⟨_, rfl, iteF ?_⟩
  have hd1 := s1 _ _ hd
  -- wrong
  refine ⟨d, _, hd1, True.intro, fun od2 => ?_⟩
  refine ⟨_, rfl, d, od2, rfl, Or.inl ⟨[], upd_same, fun D2 hD2 => ?_⟩⟩
  have nD2 : d ≠ D2 := ne_of_none upd_same hD2
  refine ⟨fun i m H' => i = 0 ∧ H' = upd (upd H1 d (.frz od2 (.dK []))) D2 (.lst []), ⟨0, rfl, rfl⟩, ?_⟩
  rintro i m H2 ⟨rfl, rfl⟩
  refine Or.inl ⟨⟨by rw [upd_ne nD2, upd_same], Nat.le_refl _⟩, ?_⟩
  refine ⟨by rw [upd_ne nD2, upd_same], ?_⟩
  have s2 : Same H1 (upd (upd (upd H1 d (.frz od2 (.dK []))) D2 (.lst [])) d (.dK [])) := same_unlock hd1 (same_new hD2)
  have hD3 : (upd (upd (upd H1 d (.frz od2 (.dK []))) D2 (.lst [])) d (.dK [])) D2 = some (.lst []) := by rw [upd_ne nD2.symm, upd_same]
  generalize (upd (upd (upd H1 d (.frz od2 (.dK []))) D2 (.lst [])) d (.dK [])) = H2 at s2 hD3
  refine ⟨_, rfl, D2, [], rfl, Or.inl (SqL.of hD3), _, _, rfl, rfl, _, rfl, ?_⟩
  refine ifD (fun h => absurd h (by decide)) (fun _ => ?_)
  -- the loop
  refine ⟨_, rfl, d, [], rfl, Or.inl (s2 _ _ hd1), fun q hq1 => ?_⟩
  refine ⟨q, [], rfl, SqL.of upd_same, fun x hx => (nomatch hx), fun H3 p s3 np hp => ?_⟩
  rw [List.mergeSort_nil] at hp
  refine ⟨p, rfl, ⟨_, SqL.of hp⟩, for_list (K := K) (a := p) (xs := []) (fun i σ H' => H' = H3) rfl (fun i σ H' _ e => by rw [e]; exact SqL.of hp) (fun i x σ H' hi => by simp at hi) ?_⟩
  rintro σ H' rfl
  exact hq _ (((s1.trans s2).trans (same_new hq1)).trans s3)
theorem ok_with_parents0 {f f1 : Addr} {fd fd1 : FuncData} (F : Fun K "with_parents" "with_parents" s_with_parents f fd) (T : Txt K mg tk1 tk2) (d_in_order : DefAt P w K mg base "in_order" 5 f1 fd1 ["paths"] (spOrder K)) :
    FnOk P w K mg base CX0 6 f fd ["entries"] spWP0 := by
  refine F.ok sc_with_parents (fun vs H Q E h => ?_) (fun cdv A outer s H vs Q E hr h => ?_)
  · obtain ⟨d, rfl, _⟩ := h
    rfl
  refine ⟨_, (pss_cons (ps_set (i := 1) sc_with_parents.nd rfl (Or.inr rfl) (pe_callTy call_dictD (by rfl) T.n_dict (by decide +kernel) (pa_cons (pv 0) pa_nil)))
    (pss_cons (ps_lock (ps_for PassesOwn.never rfl (pi_keys (pv 0)) (pg_name (i := 2) sc_with_parents.nd rfl (Or.inl rfl)) (pss_one ps_never)))
    (pss_one (ps_ret (pe_dc (own := [("path", 2)]) rfl sc_with_parents.nd (pi_list (pe_callD d_in_order (hr.mono (by decide)) (pa_cons (pe_callTy (call_listD rfl) (by rfl) T.n_list (by decide +kernel) (pa_cons (pv 1) pa_nil)) pa_nil))) (blkOk_by (N := N_with_parents) (sc := defScope s_with_parents) (by decide +kernel)) (fun _ _ _ _ _ => pg_name (i := 2) sc_with_parents.nd rfl (Or.inl rfl)) (fun _ _ _ _ _ => pts_nil) (fun _ _ _ _ _ => pv 2) (fun _ _ _ _ _ => pe_never)))))), ?_⟩
  obtain ⟨d, rfl, hd, hq⟩ := h
  refine ⟨_, rfl, d, [], rfl, Or.inl hd, fun e he => ?_⟩
  have ned : d ≠ e := ne_of_none hd he
  have hd1 : (upd H e (.dK [])) d = some (.dK []) := same_new he _ _ hd
  refine ⟨d, _, hd1, True.intro, fun od => ?_⟩
  refine ⟨_, rfl, d, od, rfl, Or.inl ⟨[], upd_same, ?_⟩⟩
  refine ⟨fun i m σ H' => i = 0 ∧ σ = (L2.start ["entries", "full", "path", "place"] [V.ref d]).set 1 (some (.ref e)) ∧ H' = upd (upd H e (.dK [])) d (.frz od (.dK [])), ⟨0, rfl, rfl, rfl⟩, ?_⟩
  rintro i m σ H1 ⟨rfl, rfl, rfl⟩
  refine Or.inl ⟨⟨upd_same, Nat.le_refl _⟩, upd_same, ?_⟩
  have s1 : Same (upd H e (.dK [])) (upd (upd (upd H e (.dK [])) d (.frz od (.dK []))) d (.dK [])) := same_unlock hd1 (Same.refl _)
  have he1 := s1 _ _ (upd_same (H := H) (a := e) (o := .dK []))
  have S1 := (same_new (o := .dK []) he).trans s1
  generalize (upd (upd (upd H e (.dK [])) d (.frz od (.dK []))) d (.dK [])) = H1 at s1 he1 S1
  refine ⟨_, rfl, e, [], rfl, Or.inl he1, fun q hq1 => ?_⟩
  refine ⟨q, [], rfl, SqL.of upd_same, fun x hx => (nomatch hx), fun H3 p s3 np hp => ?_⟩
  rw [List.mergeSort_nil] at hp
  refine ⟨p, rfl, ⟨_, SqL.of hp⟩, fun D hD => ?_⟩
  refine ⟨fun i m H' => i = 0 ∧ H' = upd H3 D (.dK []), ⟨0, rfl, rfl⟩, ?_⟩
  rintro i m H4 ⟨rfl, rfl⟩
  refine Or.inl ⟨⟨[], SqL.of (same_new hD _ _ hp), Nat.le_refl _⟩, ?_⟩
  have S := (S1.trans (same_new (o := .lst []) hq1)).trans s3
  refine hq _ D (S.trans (same_new hD)) (S.free hD) upd_same
theorem ok_solid0 {f : Addr} {fd : FuncData} (F : Fun K "solid_entries" "solid_entries" s_solid_entries f fd) (T : Txt K mg tk1 tk2) : FnOk P w K mg base CX0 1 f fd ["entries"] spSolid0 := by
  refine F.ok sc_solid_entries (fun vs H Q E h => ?_) (fun cdv A outer s H vs Q E hr h => ?_)
  · obtain ⟨d, rfl, _⟩ := h
    rfl
  refine ⟨_, (pss_cons (ps_set (i := 1) sc_solid_entries.nd rfl (Or.inr rfl) (pe_lock (pe_dc2 (own := [("path", 2), ("place", 3)]) (vb := [3]) rfl sc_solid_entries.nd (pi_keys (pv 0)) (blkOk_by (N := N_solid_entries) (sc := defScope s_solid_entries) (by decide +kernel)) (by decide)
      (fun _ _ _ _ _ => pg_name (i := 2) sc_solid_entries.nd rfl (Or.inl rfl)) (fun _ _ _ _ _ => pts_one pt_never)
      (fun _ _ _ _ _ => (show PI _ _ _ (iList K _) from pi_list pe_never)) (fun _ _ _ _ _ => pg_name (i := 3) sc_solid_entries.nd rfl (Or.inl rfl)) (fun _ _ _ _ _ => pts_nil) (fun _ _ _ _ _ => pv 3) (fun _ _ _ _ _ => pe_bl))))
    (pss_one (ps_ret (pe_lock (pe_dc (own := [("path", 2)]) rfl sc_solid_entries.nd (pi_keys (pv 0)) (blkOk_by (N := N_solid_entries) (sc := defScope s_solid_entries) (by decide +kernel)) (fun _ _ _ _ _ => pg_name (i := 2) sc_solid_entries.nd rfl (Or.inl rfl))
      (fun _ _ _ _ _ => pts_one pt_never) (fun _ _ _ _ _ => pv 2) (fun _ _ _ _ _ => pe_never)))))), ?_⟩
  obtain ⟨d, rfl, hd, hq⟩ := h
  refine ⟨d, _, hd, True.intro, fun od => ?_⟩
  refine ⟨_, rfl, d, od, rfl, Or.inl ⟨[], upd_same, fun D hD => ?_⟩⟩
  have nDd : d ≠ D := ne_of_none upd_same hD
  refine ⟨fun i m H' => i = 0 ∧ H' = upd (upd H d (.frz od (.dK []))) D (.dK []), ⟨0, rfl, rfl⟩, ?_⟩
  rintro i m H1 ⟨rfl, rfl⟩
  refine Or.inl ⟨⟨by rw [upd_ne nDd, upd_same], Nat.le_refl _⟩, ?_⟩
  refine ⟨by rw [upd_ne nDd, upd_same], ?_⟩
  have s1 : Same H (upd (upd (upd H d (.frz od (.dK []))) D (.dK [])) d (.dK [])) := same_unlock hd (same_new hD)
  generalize (upd (upd (upd H d (.frz od (.dK []))) D (.dK [])) d (.dK [])) = H1 at s1
  have hd1 := s1 _ _ hd
  refine ⟨d, _, hd1, True.intro, fun od2 => ?_⟩
  refine ⟨_, rfl, d, od2, rfl, Or.inl ⟨[], upd_same, fun D2 hD2 => ?_⟩⟩
  have nD2 : d ≠ D2 := ne_of_none upd_same hD2
  refine ⟨fun i m H' => i = 0 ∧ H' = upd (upd H1 d (.frz od2 (.dK []))) D2 (.dK []), ⟨0, rfl, rfl⟩, ?_⟩
  rintro i m H2 ⟨rfl, rfl⟩
  refine Or.inl ⟨⟨by rw [upd_ne nD2, upd_same], Nat.le_refl _⟩, ?_⟩
  refine ⟨by rw [upd_ne nD2, upd_same], ?_⟩
  have hfr : H1 D2 = none := by rw [upd_ne nD2.symm] at hD2; exact hD2
  exact hq _ D2 (s1.trans (same_unlock hd1 (same_new hD2))) (s1.free hfr) (by rw [upd_ne nD2.symm, upd_same])
theorem ok_within0 {f : Addr} {fd : FuncData} (F : Fun K "names_within" "names_within" s_names_within f fd) (T : Txt K mg tk1 tk2) : FnOk P w K mg base CX0 1 f fd ["entries"] spWithin0 := by
  refine F.ok sc_names_within (fun vs H Q E h => ?_) (fun cdv A outer s H vs Q E hr h => ?_)
  · obtain ⟨d, rfl, _⟩ := h
    rfl
  refine ⟨_, (pss_cons (ps_set (i := 1) sc_names_within.nd rfl (Or.inl rfl) (pe_disp (pps_cons pe_str (pe_lst pa_nil) pps_nil) rfl rfl (fun h => nomatch h) (by decide)))
    (pss_cons (ps_lock (ps_for PassesOwn.never rfl (pi_keys (pv 0)) (pg_name (i := 2) sc_names_within.nd rfl (Or.inl rfl)) (pss_cons ps_never (pss_cons ps_never (pss_one ps_never)))))
    (pss_one (ps_ret (pv 1))))), ?_⟩
  obtain ⟨d, rfl, hd, hq⟩ := h
  intro p hp
  refine ⟨Nat.zero_le _, fun l hl => ?_⟩
  have npl : p ≠ l := ne_of_none upd_same hl
  have hl0 : H l = none := by rw [upd_ne npl.symm] at hl; exact hl
  refine ⟨by rw [upd_ne npl, upd_same], [(.inr "", .ref l)], rfl, (by show 1 ≤ 15; decide), ?_⟩
  generalize eG : upd (upd (upd H p (.dK [])) l (.lst [])) p (.dK (mergeK [] [(.inr "", .ref l)])) = G
  have sG : Same H G := by
    intro a o e
    rw [← eG, upd_ne (ne_of_none e hp), upd_ne (ne_of_none e hl0), upd_ne (ne_of_none e hp)]; exact e
  have hdG := sG _ _ hd
  refine ⟨d, _, hdG, True.intro, fun od => ?_⟩
  refine ⟨_, rfl, d, od, rfl, Or.inl ⟨[], upd_same, ?_⟩⟩
  refine ⟨fun i m σ H' => i = 0 ∧ σ = (L2.start ["entries", "rooms", "path", "folder", "slash", "name"] [V.ref d]).set 1 (some (.ref p)) ∧ H' = upd G d (.frz od (.dK [])), ⟨0, rfl, rfl, rfl⟩, ?_⟩
  rintro i m σ H1 ⟨rfl, rfl, rfl⟩
  refine Or.inl ⟨⟨upd_same, Nat.le_refl _⟩, upd_same, ?_⟩
  exact ⟨_, rfl, hq _ p (sG.trans (same_unlock hdG (Same.refl _))) hp⟩
theorem ok_ninit {f CN : Addr} {fd : FuncData} (F : Fun K "__init__" "Notebook.__init__" s_ninit f fd) (cl : Cls K CN) (nr : NoAttr K CN "rows") : FnOk P w K mg base CX0 1 f fd ["self"] (spNote CN) := by
  refine F.ok sc_ninit (fun vs H Q E h => ?_) (fun cdv A outer s H vs Q E hr h => ?_)
  · obtain ⟨p, dx, rfl, _⟩ := h
    rfl
  refine ⟨_, pss_one (ps_fld (pv 0) pe_dnewK rfl), ?_⟩
  obtain ⟨p, dx, rfl, hp, hq⟩ := h
  intro r hr0
  have npr : p ≠ r := ne_of_none hp hr0
  refine ⟨_, rfl, p, CN, dx, [], rfl, (by rw [upd_ne npr]; exact hp), cl, nr, (by show 0 < 1000; decide), ?_⟩
  refine hq _ r (keep_put (Same.keep (same_new hr0))) hr0 upd_same (by rw [upd_ne npr.symm, upd_same])
def pf1 (d : Addr) : List (Str × V) := [("entries", .ref d)]
def pf2 (d s : Addr) : List (Str × V) := [("entries", .ref d), ("solid", .ref s)]
def pf3 (d s r : Addr) : List (Str × V) := [("entries", .ref d), ("solid", .ref s), ("rooms", .ref r)]
def pf4 (d s r t : Addr) : List (Str × V) := [("entries", .ref d), ("solid", .ref s), ("rooms", .ref r), ("token", .ref t)]
theorem put0 {d : Addr} : putF "entries" (V.ref d) [] = pf1 d := rfl
theorem put1 {d s : Addr} : putF "solid" (V.ref s) (pf1 d) = pf2 d s := by
  unfold pf1 pf2; simp only [putF]; rw [if_neg (by decide +kernel)]
theorem put2 {d s r : Addr} : putF "rooms" (V.ref r) (pf2 d s) = pf3 d s r := by
  unfold pf2 pf3; simp only [putF]; rw [if_neg (by decide +kernel), if_neg (by decide +kernel)]
theorem put3 {d s r t : Addr} : putF "token" (V.ref t) (pf3 d s r) = pf4 d s r t := by
  unfold pf3 pf4; simp only [putF]; rw [if_neg (by decide +kernel), if_neg (by decide +kernel), if_neg (by decide +kernel)]
theorem put4 {d s r t n : Addr} : putF "notes" (V.ref n) (pf4 d s r t) = pkFs d ⟨s, r, t, n⟩ := by
  unfold pf4 pkFs; simp only [putF]; rw [if_neg (by decide +kernel), if_neg (by decide +kernel), if_neg (by decide +kernel), if_neg (by decide +kernel)]
theorem lkE1 {v : V} {r : List (Str × V)} : List.lookup ("entries" : Str) (("entries", v) :: r) = some v := by simp [List.lookup]
theorem ok_init0 {f f1 f2 f3 f4 CT CN fN C : Addr} {fd fd1 fd2 fd3 fd4 fdN : FuncData} (F : FunD K "__init__" "Package.__init__" (defArgs s_init) (defBody s_init) (defScope s_init) [.non] [] f fd) (T : Txt K mg tk1 tk2) (R : PkTxt K mg C)
    (d_ce : DefAt P w K mg base "check_entries" 6 f1 fd1 ["entries"] spCE0) (d_wp : DefAt P w K mg base "with_parents" 6 f2 fd2 ["entries"] spWP0)
    (d_so : DefAt P w K mg base "solid_entries" 1 f3 fd3 ["entries"] spSolid0) (d_nw : DefAt P w K mg base "names_within" 1 f4 fd4 ["entries"] spWithin0) (TT : TokTxt K mg CT) (NT : NoteTxt P w K mg base CN fN fdN) :
    FnOk P w K mg base CX0 7 f fd ["self", "entries"] (spInit0 C) := by
  refine F.ok sc_init (fun vs H Q E h => ?_) (fun cdv A outer s H vs Q E hr h => ?_)
  · obtain ⟨p, dx, rfl, _⟩ := h
    rfl
  refine ⟨_, (pss_cons (ps_set (i := 2) sc_init.nd rfl (Or.inl rfl) (pe_ifExp (pt_cmpR op_isN (pv 1) pe_non (nomark _)) pe_dnewK (pv 1)))
    (pss_cons (ps_expr (pe_callD d_ce (hr.mono (by decide)) (pa_cons (pv 2) pa_nil)))
    (pss_cons (ps_fld (pv 0) (pe_callD d_wp (hr.mono (by decide)) (pa_cons (pv 2) pa_nil)) rfl)
    (pss_cons (ps_if (pt_cmpR op_gt (pe_callB call_lenD (by rfl) T.n_len (by decide +kernel) (pa_cons (pe_fld (pv 0) rfl) pa_nil)) (pe_con (pv 0) rfl) (nomark _)) (pss_one ps_never) pss_nil)
    (pss_cons (ps_fld (pv 0) (pe_callD d_so (hr.mono (by decide)) (pa_cons (pe_fld (pv 0) rfl) pa_nil)) rfl)
    (pss_cons (ps_fld (pv 0) (pe_callD d_nw (hr.mono (by decide)) (pa_cons (pe_fld (pv 0) rfl) pa_nil)) rfl)
    (pss_cons (ps_fld (pv 0) (pe_new0 TT.made (by rfl) TT.g) rfl)
    (pss_one (ps_fld (pv 0) (pe_make0 NT.made NT.F (hr.mono (by decide)) rfl NT.g NT.b .nil pass0) rfl))))))))), ?_⟩
  obtain ⟨p, dx, rfl, hp, hq⟩ := h
  obtain ⟨tkL, lim⟩ := R.lim
  refine ⟨_, rfl, rfl, _, rfl, ?_⟩
  refine ifD (fun _ => ?_) (fun h => absurd rfl h)
  intro g hg
  refine ⟨_, rfl, g, rfl, upd_same, fun H1 s1 => ?_⟩
  have S1 := (same_new (o := .dK []) hg).trans s1
  refine ⟨_, rfl, g, rfl, s1 _ _ upd_same, fun H2 d s2 hd0 hd => ?_⟩
  have S2 := S1.trans s2
  have hp2 := S2 _ _ hp
  have npd : d ≠ p := Ne.symm (ne_of_none (S1 _ _ hp) hd0)
  refine ⟨_, rfl, p, C, dx, [], rfl, hp2, R.cl, R.nE, (by show 0 < 1000; decide), ?_⟩
  rw [put0]
  have lk2 : List.lookup ("LIMIT" : Str) (pf1 d) = none := by
    have e : ((Str.ofString "LIMIT") == (Str.ofString "entries")) = false := by decide +kernel
    simp [pf1, List.lookup, e]
  have hp3 : (upd H2 p (.ins C dx (pf1 d))) p = some (.ins C dx (pf1 d)) := upd_same
  have hd3 : (upd H2 p (.ins C dx (pf1 d))) d = some (.dK []) := by rw [upd_ne npd]; exact hd
  have K3 : Keep p H (upd H2 p (.ins C dx (pf1 d))) := keep_put (Same.keep S2)
  generalize (upd H2 p (.ins C dx (pf1 d))) = H3 at hd3 hp3 K3
  refine ⟨_, rfl, p, C, dx, _, _, rfl, hp3, R.cl, R.nE, lkE1, d, [], rfl, hd3, ?_⟩
  refine ⟨_, rfl, p, C, dx, _, _, _, rfl, hp3, R.cl, lim, lk2, _, _, rfl, rfl, _, rfl, ?_⟩
  refine ifD (fun h => absurd h (by decide)) (fun _ => ?_)
  refine ⟨_, rfl, p, C, dx, _, _, rfl, hp3, R.cl, R.nE, lkE1, d, rfl, hd3, fun H4 so s4 hso0 hso => ?_⟩
  have hp4 := s4 _ _ hp3
  refine ⟨_, rfl, p, C, dx, _, rfl, hp4, R.cl, R.nS, (by show 1 < 1000; decide), ?_⟩
  rw [put1]
  have hd5 : (upd H4 p (.ins C dx (pf2 d so))) d = some (.dK []) := by rw [upd_ne npd]; exact s4 _ _ hd3
  have hp5 : (upd H4 p (.ins C dx (pf2 d so))) p = some (.ins C dx (pf2 d so)) := upd_same
  have K5 : Keep p H (upd H4 p (.ins C dx (pf2 d so))) := K3.trans (keep_put (Same.keep s4))
  generalize (upd H4 p (.ins C dx (pf2 d so))) = H5 at hd5 hp5 K5
  refine ⟨_, rfl, p, C, dx, _, _, rfl, hp5, R.cl, R.nE, lkE1, d, rfl, hd5, fun H6 ro s6 hro0 => ?_⟩
  have hp6 := s6 _ _ hp5
  refine ⟨_, rfl, p, C, dx, _, rfl, hp6, R.cl, R.nR, (by show 2 < 1000; decide), ?_⟩
  rw [put2]
  have hd7 : (upd H6 p (.ins C dx (pf3 d so ro))) d = some (.dK []) := by rw [upd_ne npd]; exact s6 _ _ hd5
  have hp7 : (upd H6 p (.ins C dx (pf3 d so ro))) p = some (.ins C dx (pf3 d so ro)) := upd_same
  have K7 : Keep p H (upd H6 p (.ins C dx (pf3 d so ro))) := K5.trans (keep_put (Same.keep s6))
  generalize (upd H6 p (.ins C dx (pf3 d so ro))) = H7 at hd7 hp7 K7
  intro t dt ht hdt ndt
  have s8 : Same H7 (upd (upd H7 dt (.own t)) t (.ins CT dt [])) := same_upd ht (same_new hdt)
  generalize (upd (upd H7 dt (.own t)) t (.ins CT dt [])) = H8 at s8
  have hp8 := s8 _ _ hp7
  refine ⟨_, rfl, p, C, dx, _, rfl, hp8, R.cl, R.nT, (by show 3 < 1000; decide), ?_⟩
  rw [put3]
  have hd9 : (upd H8 p (.ins C dx (pf4 d so ro t))) d = some (.dK []) := by rw [upd_ne npd]; exact s8 _ _ hd7
  have hp9 : (upd H8 p (.ins C dx (pf4 d so ro t))) p = some (.ins C dx (pf4 d so ro t)) := upd_same
  have K9' : Keep p H (upd H8 p (.ins C dx (pf4 d so ro t))) := K7.trans (keep_put (Same.keep s8))
  generalize (upd H8 p (.ins C dx (pf4 d so ro t))) = H9 at hd9 hp9 K9'
  intro n dn hn hdn ndn
  have sN : Same H9 (upd (upd H9 dn (.own n)) n (.ins CN dn [])) := same_upd hn (same_new hdn)
  have hN : (upd (upd H9 dn (.own n)) n (.ins CN dn [])) n = some (.ins CN dn []) := upd_same
  refine ⟨n, dn, rfl, hN, fun Ha r kp hr0 hna hra => ⟨rfl, ?_⟩⟩
  have sa : Same H9 Ha := fun a o e => kp a o (ne_of_none e hn) (sN _ _ e)
  have hpa := sa _ _ hp9
  refine ⟨_, rfl, p, C, dx, _, rfl, hpa, R.cl, R.nN, (by show 4 < 1000; decide), ?_⟩
  rw [put4]
  exact hq _ (K9'.trans (keep_put (Same.keep sa))) ⟨dx, d, ⟨⟨so, ro, t, n⟩, upd_same, True.intro⟩, by rw [upd_ne npd]; exact sa _ _ hd9⟩
theorem ok_paths_of0 {f C : Addr} {fd : FuncData} (F : Fun K "paths_of" "Package.paths_of" s_paths_of f fd) (R : PkTxt K mg C) : FnOk P w K mg base CX0 2 f fd ["self", "kind"] (spPO0 C) := by
  refine F.ok sc_paths_of (fun vs H Q E h => ?_) (fun cdv A outer s H vs Q E hr h => ?_)
  · obtain ⟨p, z, rfl, _⟩ := h
    rfl
  refine ⟨_, pss_one (ps_ret (pe_lock (pe_lc (own := [("path", 2)]) rfl sc_paths_of.nd (pi_keys (pe_fld (pv 0) rfl)) (blkOk_by (N := N_paths_of) (sc := defScope s_paths_of) (by decide +kernel)) (fun _ _ _ _ _ => pg_name (i := 2) sc_paths_of.nd rfl (Or.inl rfl)) (fun _ _ _ _ _ => pts_one pt_never) (fun _ _ _ _ _ => pe_never)))), ?_⟩
  obtain ⟨p, z, rfl, ⟨dx, d, ⟨xx_hp, hp, zz_hp⟩, hd⟩, hq⟩ := h
  have npd : p ≠ d := ne_of hp hd (by intro z; cases z)
  refine ⟨d, _, hd, True.intro, fun od => ?_⟩
  refine ⟨_, rfl, p, C, dx, _, _, rfl, (by rw [upd_ne npd]; exact hp), R.cl, R.nE, lk_entries d, ?_⟩
  refine ⟨d, od, rfl, Or.inl ⟨[], upd_same, fun D hD => ?_⟩⟩
  have nDd : d ≠ D := ne_of_none upd_same hD
  refine ⟨fun i m H' => i = 0 ∧ H' = upd (upd H d (.frz od (.dK []))) D (.lst []), ⟨0, rfl, rfl⟩, ?_⟩
  rintro i m H1 ⟨rfl, rfl⟩
  refine Or.inl ⟨⟨by rw [upd_ne nDd, upd_same], Nat.le_refl _⟩, ?_⟩
  refine ⟨by rw [upd_ne nDd, upd_same], ?_⟩
  exact hq _ D (same_unlock hd (same_new hD)) (by rw [upd_ne nDd.symm, upd_same])
theorem ok_files0 {f f1 C : Addr} {fd fd1 : FuncData} (F : Fun K "files" "Package.files" s_files f fd) (R : PkTxt K mg C) (M : Meth K C "paths_of" f1) (G : FnOk P w K mg base CX0 2 f1 fd1 ["self", "kind"] (spPO0 C)) (b : Binds K fd1 ["self", "kind"] []) :
    FnOk P w K mg base CX0 3 f fd ["self"] (spPr0 C) := by
  refine F.ok sc_files (fun vs H Q E h => ?_) (fun cdv A outer s H vs Q E hr h => ?_)
  · obtain ⟨p, rfl, _⟩ := h
    rfl
  refine ⟨_, pss_one (ps_ret (pe_meth (pv 0) R.cl M G (hr.mono (by decide)) b .nil pass0 (pa_cons pe_str pa_nil))), ?_⟩
  obtain ⟨p, rfl, hp, hq⟩ := h
  obtain ⟨dx, d, ⟨xx_h1, h1, zz_h1⟩, h2⟩ := id hp
  refine ⟨_, rfl, p, dx, _, rfl, h1, lk_no d (by decide +kernel), p, _, rfl, hp, fun H' q s' hq' => hq H' q s' hq'⟩
theorem ok_folders0 {f f1 C : Addr} {fd fd1 : FuncData} (F : Fun K "folders" "Package.folders" s_folders f fd) (R : PkTxt K mg C) (M : Meth K C "paths_of" f1) (G : FnOk P w K mg base CX0 2 f1 fd1 ["self", "kind"] (spPO0 C)) (b : Binds K fd1 ["self", "kind"] []) :
    FnOk P w K mg base CX0 3 f fd ["self"] (spPr0 C) := by
  refine F.ok sc_folders (fun vs H Q E h => ?_) (fun cdv A outer s H vs Q E hr h => ?_)
  · obtain ⟨p, rfl, _⟩ := h
    rfl
  refine ⟨_, pss_one (ps_ret (pe_meth (pv 0) R.cl M G (hr.mono (by decide)) b .nil pass0 (pa_cons pe_str pa_nil))), ?_⟩
  obtain ⟨p, rfl, hp, hq⟩ := h
  obtain ⟨dx, d, ⟨xx_h1, h1, zz_h1⟩, h2⟩ := id hp
  refine ⟨_, rfl, p, dx, _, rfl, h1, lk_no d (by decide +kernel), p, _, rfl, hp, fun H' q s' hq' => hq H' q s' hq'⟩
theorem ok_references0 {f f1 C : Addr} {fd fd1 : FuncData} (F : Fun K "references" "Package.references" s_references f fd) (R : PkTxt K mg C) (M : Meth K C "paths_of" f1) (G : FnOk P w K mg base CX0 2 f1 fd1 ["self", "kind"] (spPO0 C)) (b : Binds K fd1 ["self", "kind"] []) :
    FnOk P w K mg base CX0 3 f fd ["self"] (spPr0 C) := by
  refine F.ok sc_references (fun vs H Q E h => ?_) (fun cdv A outer s H vs Q E hr h => ?_)
  · obtain ⟨p, rfl, _⟩ := h
    rfl
  refine ⟨_, pss_one (ps_ret (pe_meth (pv 0) R.cl M G (hr.mono (by decide)) b .nil pass0 (pa_cons pe_str pa_nil))), ?_⟩
  obtain ⟨p, rfl, hp, hq⟩ := h
  obtain ⟨dx, d, ⟨xx_h1, h1, zz_h1⟩, h2⟩ := id hp
  refine ⟨_, rfl, p, dx, _, rfl, h1, lk_no d (by decide +kernel), p, _, rfl, hp, fun H' q s' hq' => hq H' q s' hq'⟩
structure PropTxt (P : Program) (w : World) (K : PySem.W.Frag) (mg : Str → Option Value) (base : Heap) (C : Addr) (x : Str) (pp f : Addr) (fd : FuncData) : Prop where
  pr : PropOf K C x pp f
  G : FnOk P w K mg base CX0 3 f fd ["self"] (spPr0 C)
  b : Binds K fd ["self"] []
theorem ok_repr0 {f C p1 p2 p3 f1 f2 f3 : Addr} {fd fd1 fd2 fd3 : FuncData} (F : Fun K "__repr__" "Package.__repr__" s_repr f fd) (T : Txt K mg tk1 tk2) (R : PkTxt K mg C)
    (A1 : PropTxt P w K mg base C "files" p1 f1 fd1) (A2 : PropTxt P w K mg base C "folders" p2 f2 fd2) (A3 : PropTxt P w K mg base C "references" p3 f3 fd3) : FnOk P w K mg base CX0 5 f fd ["self"] (spRepr0 C) := by
  refine F.ok sc_repr (fun vs H Q E h => ?_) (fun cdv A outer s H vs Q E hr h => ?_)
  · obtain ⟨p, rfl, _⟩ := h
    rfl
  refine ⟨_, (pss_one (ps_ret (pe_joined (PJ.cons pe_str (PJ.cons (pe_fmt (pe_callB call_len_seq (by rfl) T.n_len (by decide +kernel) (pa_cons (pe_prop (pv 0) R.cl A1.pr A1.G hr A1.b .nil pass0 rfl) pa_nil))) (PJ.cons pe_str (PJ.cons (pe_fmt (pe_callB call_len_seq (by rfl) T.n_len (by decide +kernel) (pa_cons (pe_prop (pv 0) R.cl A2.pr A2.G hr A2.b .nil pass0 rfl) pa_nil))) (PJ.cons pe_str (PJ.cons (pe_fmt (pe_callB call_len_seq (by rfl) T.n_len (by decide +kernel) (pa_cons (pe_prop (pv 0) R.cl A3.pr A3.G hr A3.b .nil pass0 rfl) pa_nil))) (PJ.cons pe_str PJ.nil)))))))))), ?_⟩
  obtain ⟨p, rfl, hp, hq⟩ := h
  have hlg : (0 : Int).natAbs.log2 < 1920 := by decide
  refine ⟨_, rfl, by decide +kernel, ?_⟩
  obtain ⟨dx1, d1, ⟨xx1, h1, _⟩, g1⟩ := id (hp.same (Same.refl H))
  refine ⟨_, rfl, p, dx1, _, rfl, h1, p, rfl, hp.same (Same.refl H), fun H1 q1 s1 hq1 => ⟨q1, [], rfl, Or.inl (SqL.of hq1), ?_⟩⟩
  refine Or.inr ⟨0, rfl, hlg, _, rfl, by decide +kernel, ?_⟩
  refine ⟨_, rfl, by decide +kernel, ?_⟩
  obtain ⟨dx2, d2, ⟨xx2, h2, _⟩, g2⟩ := id (hp.same ((Same.refl H).trans s1))
  refine ⟨_, rfl, p, dx2, _, rfl, h2, p, rfl, hp.same ((Same.refl H).trans s1), fun H2 q2 s2 hq2 => ⟨q2, [], rfl, Or.inl (SqL.of hq2), ?_⟩⟩
  refine Or.inr ⟨0, rfl, hlg, _, rfl, by decide +kernel, ?_⟩
  refine ⟨_, rfl, by decide +kernel, ?_⟩
  obtain ⟨dx3, d3, ⟨xx3, h3, _⟩, g3⟩ := id (hp.same (((Same.refl H).trans s1).trans s2))
  refine ⟨_, rfl, p, dx3, _, rfl, h3, p, rfl, hp.same (((Same.refl H).trans s1).trans s2), fun H3 q3 s3 hq3 => ⟨q3, [], rfl, Or.inl (SqL.of hq3), ?_⟩⟩
  refine Or.inr ⟨0, rfl, hlg, _, rfl, by decide +kernel, ?_⟩
  refine ⟨_, rfl, by decide +kernel, ?_⟩
  have hfin := hq H3 ((((Same.refl H).trans s1).trans s2).trans s3)
  have e : pkText = Str.empty ++ "Package(" ++ (toString (0 : Int) : String) ++ " files, " ++ (toString (0 : Int) : String) ++ " folders, " ++ (toString (0 : Int) : String) ++ " references)" := by decide +kernel
  rw [e] at hfin
  exact hfin
end
end K1

set_option Elab.async false
set_option linter.all false
set_option maxRecDepth 100000
set_option maxHeartbeats 4000000
namespace LF
open PySem PySem.Spec PyProof.Rows L2
theorem fold_reps (a : Array Nat) : ∀ (k : Nat) (acc : Array Nat), ((List.replicate k a).foldl (· ++ ·) acc).size = acc.size + k * a.size ∧ ∀ c ∈ ((List.replicate k a).foldl (· ++ ·) acc).toList, c ∈ acc.toList ∨ c ∈ a.toList
  | 0, acc => ⟨by simp, fun c hc => Or.inl hc⟩
  | k + 1, acc => by
    obtain ⟨h1, h2⟩ := fold_reps a k (acc ++ a)
    rw [List.replicate_succ, List.foldl_cons]
    refine ⟨by rw [h1, Array.size_append, Nat.succ_mul]; omega, fun c hc => ?_⟩
    rcases h2 c hc with q | q
    · rw [Array.toList_append] at q
      exact List.mem_append.mp q
    · exact Or.inr q
theorem mul_len {z : Str} {n : Int} (h : 1 ≤ n) : (Txt.mul z n).length = z.length * n.toNat ∧ ∀ c ∈ (Txt.mul z n).cps.toList, c ∈ z.cps.toList := by
  unfold Txt.mul
  rw [if_neg (by omega)]
  split
  · rename_i hc
    rw [Bool.or_eq_true, beq_iff_eq, beq_iff_eq] at hc
    refine ⟨?_, fun c hc => hc⟩
    rcases hc with e | e
    · subst e; simp
    · rw [e]; simp
  · obtain ⟨h1, h2⟩ := fold_reps z.cps n.toNat #[]
    refine ⟨?_, fun c hc => ?_⟩
    · show ((List.replicate n.toNat z.cps).foldl (· ++ ·) #[]).size = z.cps.size * n.toNat
      rw [h1, Nat.mul_comm]; simp
    · rcases h2 c hc with q | q
      · simp at q
      · exact q
/-- a text times an int -/
def rMulS : R2 := fun x y H Q => ∃ (z : Str) (n : Int), x = .str z ∧ y = .int n ∧ 1 ≤ n ∧ n ≤ 1000 ∧ z.length ≤ 1000 ∧ ∀ r : Str, r.length = z.length * n.toNat → (∀ c ∈ r.cps.toList, c ∈ z.cps.toList) → Q (.str r) H
theorem op_mulS {X : Cx} : OpR X (binaryOp .Mult) rMulS := by
  intro pins s σ H x y v u Q I rx ry h
  obtain ⟨z, n, rfl, rfl, h1, h2, h3, q⟩ := h
  obtain ⟨t, rfl⟩ := rx
  obtain ⟨t', rfl⟩ := ry
  obtain ⟨l1, l2⟩ := mul_len (z := z) h1
  have hm : z.length * n.toNat ≤ 1000 * 1000 := Nat.mul_le_mul h3 (by omega)
  refine SB.mul ⟨?_, fun _ _ => ?_, fun _ _ => ?_⟩ fun t' k => ⟨.str _, H, I.tok _, ⟨_, rfl⟩, q _ l1 l2⟩
  · rw [decide_eq_false (by omega), decide_eq_false (by omega)]; rfl
  · have : (1000 : Int) ≤ (2 ^ 63 - 1) / n := Int.le_ediv_of_mul_le (by omega) (by omega)
    omega
  · have hs : 1000 * 1000 ≤ sizeLine := by decide
    have : ¬ (z.length * n.toNat > sizeLine) := by omega
    unfold Builtin.Str.tooLong
    exact decide_eq_false this
end LF

set_option Elab.async false
set_option linter.all false
set_option maxRecDepth 100000
set_option maxHeartbeats 4000000
namespace LF
open PySem PySem.Spec PyProof.Rows L2 K1 TL
theorem all_str {Pr : Str → Prop} : ∀ {acc : List V}, (∀ y ∈ acc, ∃ s, y = V.str s ∧ Pr s) → ∃ ss : List Str, acc = ss.map V.str ∧ ∀ s ∈ ss, Pr s
  | [], _ => ⟨[], rfl, fun _ h => nomatch h⟩
  | v :: vs, h => by
    obtain ⟨ss, e, hs⟩ := all_str (acc := vs) fun y hy => h y (List.mem_cons_of_mem _ hy)
    obtain ⟨s, rfl, hp⟩ := h v List.mem_cons_self
    exact ⟨s :: ss, by rw [e]; rfl, fun t ht => (List.mem_cons.mp ht).elim (fun q => q ▸ hp) (hs t)⟩
theorem joinE {n : Nat} : ∀ {ss : List Str}, (∀ s ∈ ss, s.length ≤ n ∧ PyData.strOk s = true) → (PySem.Txt.join "" ss).length ≤ n * ss.length ∧ PyData.strOk (PySem.Txt.join "" ss) = true := by
  intro ss h
  have e := join_nil_tl ss
  constructor
  · rw [len_tl, e]
    clear e
    induction ss with
    | nil => simp
    | cons a l ih =>
      have h1 := (h a List.mem_cons_self).1
      have h2 := ih fun s hs => h s (List.mem_cons_of_mem _ hs)
      rw [len_tl] at h1
      simp only [List.map_cons, List.flatten_cons, List.length_append, List.length_cons, Nat.mul_succ]
      omega
  · refine strOk_iff.mpr fun c hc => ?_
    have hc' : c ∈ tl (PySem.Txt.join "" ss) := hc
    rw [e, List.mem_flatten] at hc'
    obtain ⟨l, hl, hcl⟩ := hc'
    obtain ⟨s, hs, rfl⟩ := List.mem_map.mp hl
    exact strOk_iff.mp (h s hs).2 c hcl
def spText : Sp := fun vs H Q _ => ∃ b, vs = [.ref b] ∧ BagAt H b ∧ ∀ H' z, Keep b H H' → BagAt H' b → z.length ≤ 1000 → PyData.strOk z = true → Q (.str z) H'
end LF
namespace K1
open PySem PySem.Spec PyProof.Rows L2 LF
abbrev s__law_text : Stmt := topS 51
abbrev N__law_text : List Str := ["_law_bag_here", "_law_signs", "_law_text_here", "_law_k"]
theorem sc__law_text : FnScope ["_law_bag_here", "_law_signs", "_law_text_here", "_law_k"] ["_law_bag_here"] (defScope s__law_text) := ⟨rfl, rfl, rfl, by decide +kernel, rfl, by decide +kernel, by decide +kernel⟩
section
variable {P : Program} {w : World} {K : PySem.W.Frag} {mg : Str → Option Value} {base : Heap} {tk1 tk2 : Tok}
theorem ok_text {f f1 f2 : Addr} {fd fd1 fd2 : FuncData} (F : Fun K "_law_text" "_law_text" s__law_text f fd) (T : Txt K mg tk1 tk2) (d_take : DefAt P w K mg base "_law_take" 1 f1 fd1 ["_law_bag_here", "_law_many"] spTake)
    (d_pick : DefAt P w K mg base "_law_pick" 2 f2 fd2 ["_law_bag_here", "_law_some"] (spPick K)) : FnOk P w K mg base CX0 3 f fd ["_law_bag_here"] spText := by
  refine F.ok sc__law_text (fun vs H Q E h => ?_) (fun cdv A outer s H vs Q E hr h => ?_)
  · obtain ⟨b, rfl, _⟩ := h
    rfl
  refine ⟨_, (pss_cons (ps_set (i := 1) sc__law_text.nd rfl (Or.inr rfl) (pe_callD d_pick (hr.mono (by decide)) (pa_cons (pv 0) (pa_cons (pe_lst (pa_cons pe_str (pa_cons pe_str (pa_cons pe_str (pa_cons pe_str pa_nil))))) pa_nil))))
    (pss_cons (ps_set (i := 2) sc__law_text.nd rfl (Or.inl rfl) (pe_join pe_str (pe_lc (own := [("_law_k", 3)]) rfl sc__law_text.nd (pi_range1 (by rfl) T.n_range (pa_cons (pe_callD d_take (hr.mono (by decide)) (pa_cons (pv 0) (pa_cons pe_int pa_nil))) pa_nil)) (blkOk_by (N := N__law_text) (sc := defScope s__law_text) (by decide +kernel)) (fun _ _ _ _ _ => pg_name (i := 3) sc__law_text.nd rfl (Or.inl rfl)) (fun _ _ _ _ _ => pts_nil) (fun _ _ _ _ _ => (pe_callD d_pick (hr.mono (by decide)) (pa_cons (pv 0) (pa_cons (pv 1) pa_nil)))))))
    (pss_one (ps_ret (pe_callD d_pick (hr.mono (by decide)) (pa_cons (pv 0) (pa_cons (pe_lst (pa_cons (pv 2) (pa_cons (pe_op op_add_str (pe_op op_add_str (pv 2) pe_str) (pv 2)) (pa_cons (pe_op op_add_str pe_str (pv 2)) (pa_cons (pe_op op_add_str (pv 2) pe_str) (pa_cons (pe_op op_add_str pe_str (pv 2)) pa_nil)))))) pa_nil))))))), ?_⟩
  obtain ⟨b, rfl, hb, hq⟩ := h
  refine ⟨_, rfl, (by show 4 ≤ sizeLine; decide), fun p4 hp4 => ?_⟩
  refine ⟨b, _, rfl, hb.same (same_new hp4), Or.inl ⟨p4, _, rfl, hb.ne hp4, SqL.of upd_same, by decide, by decide, fun H1 v k1 b1 hv => ?_⟩⟩
  have hv' : ∃ z : Str, v = .str z ∧ 1 ≤ z.length ∧ z.length ≤ 30 ∧ PyData.strOk z = true := by
    simp only [List.mem_cons, List.not_mem_nil, or_false] at hv
    rcases hv with rfl | rfl | rfl | rfl <;> exact ⟨_, rfl, by decide +kernel, by decide +kernel, by decide +kernel⟩
  obtain ⟨signs, rfl, hs1, hs2, hs3⟩ := hv'
  have K1' : Keep b H H1 := (Same.keep (same_new hp4)).trans k1
  refine ⟨⟨_, rfl⟩, _, rfl, b, 14, rfl, b1, by omega, by omega, fun H2 r k2 b2 r0 r1 => ?_⟩
  refine ⟨r, rfl, by omega, by omega, fun D hD => ?_⟩
  refine lc_draw (lo := 0) (Good := fun y => ∃ s, y = .str s ∧ (s.length ≤ 1 ∧ PyData.strOk s = true)) b2 hD ?_ ?_ ?_
  · exact Nat.lt_of_lt_of_le (show r.toNat < 20 by omega) (by decide)
  · intro j H3 R hj k3 b3 hR
    refine ⟨_, rfl, _, rfl, ?_⟩
    exact ⟨b, _, rfl, b3, Or.inr ⟨signs, rfl, hs1, by omega, fun H' c k b4 hc => hR _ H' k b4 ⟨_, rfl, Nat.le_refl 1, strOk_iff.mpr fun d hd => by
      have hd2 : d ∈ [c] := hd
      rw [List.mem_singleton.mp hd2]
      exact strOk_iff.mp hs3 c hc⟩⟩⟩
  · intro H3 acc k3 b3 hD3 hlen hg
    obtain ⟨cs, rfl, hcs⟩ := all_str hg
    rw [List.length_map] at hlen
    obtain ⟨l1, o1⟩ := joinE hcs
    have h1 := sum_le (ss := cs) (n := 1) fun s hm => (hcs s hm).1
    refine ⟨_, D, cs, rfl, rfl, Or.inl (SqL.of hD3), ?_, ?_⟩
    · show (cs.map (·.length)).sum + cs.length * (("" : Str)).length ≤ 16777216
      have h2 : (("" : Str)).length = 0 := by decide +kernel
      rw [h2]; omega
    generalize hst : PySem.Txt.join "" cs = z at l1 o1
    have hz : z.length ≤ 14 := by omega
    have c1 : c_sl.length = 1 := by decide +kernel
    have c2 : (("ab" : Str)).length = 2 := by decide +kernel
    have c3 : (("/a" : Str)).length = 2 := by decide +kernel
    have a1 := len_app z c_sl
    have a2 := len_app (z ++ c_sl) z
    have a3 := len_app "ab" z
    have a4 := len_app z "/a"
    have a5 := len_app c_sl z
    have big : 1000 ≤ sizeLine := by decide
    refine ⟨_, rfl, _, rfl, ?_⟩
    refine ⟨_, rfl, _, _, rfl, rfl, by show z.length + c_sl.length ≤ sizeLine; omega, ?_⟩
    refine ⟨_, rfl, _, _, rfl, rfl, by show (z ++ c_sl).length + z.length ≤ sizeLine; omega, ?_⟩
    refine ⟨_, rfl, _, _, rfl, rfl, by show (("ab" : Str)).length + z.length ≤ sizeLine; omega, ?_⟩
    refine ⟨_, rfl, _, _, rfl, rfl, by show z.length + (("/a" : Str)).length ≤ sizeLine; omega, ?_⟩
    refine ⟨_, rfl, _, _, rfl, rfl, by show c_sl.length + z.length ≤ sizeLine; omega, ?_⟩
    refine ⟨(by show 5 ≤ sizeLine; decide), fun p5 hp5 => ?_⟩
    refine ⟨b, _, rfl, b3.same (same_new hp5), Or.inl ⟨p5, _, rfl, b3.ne hp5, SqL.of upd_same, by show 1 ≤ 5; decide, by show 5 < 1000000; decide, fun H4 v k4 b4 hv => ?_⟩⟩
    have KK : Keep b H H4 := ((K1'.trans k2).trans k3).trans ((Same.keep (same_new hp5)).trans k4)
    simp only [List.mem_cons, List.not_mem_nil, or_false] at hv
    have o_sl : PyData.strOk c_sl = true := by decide +kernel
    have o_ab : PyData.strOk "ab" = true := by decide +kernel
    have o_sa : PyData.strOk "/a" = true := by decide +kernel
    rcases hv with rfl | rfl | rfl | rfl | rfl
    · exact hq H4 _ KK b4 (by omega) o1
    · exact hq H4 _ KK b4 (by show ((z ++ c_sl) ++ z).length ≤ 1000; omega) (strOk_app (strOk_app o1 o_sl) o1)
    · exact hq H4 _ KK b4 (by omega) (strOk_app o_ab o1)
    · exact hq H4 _ KK b4 (by omega) (strOk_app o1 o_sa)
    · exact hq H4 _ KK b4 (by show (c_sl ++ z).length ≤ 1000; omega) (strOk_app o_sl o1)
end
end K1

set_option Elab.async false
set_option linter.all false
set_option maxRecDepth 100000
set_option maxHeartbeats 4000000
namespace K1
open PySem PySem.Spec PyProof.Rows L2 LF
def Odd (H : Hp) (v : V) : Prop := v = .non ∨ (∃ i, v = .int i) ∨ (∃ b, v = .bl b) ∨ (∃ a xs, v = .ref a ∧ H a = some (.lst xs)) ∨ (∃ a xs, v = .ref a ∧ H a = some (.tup xs))
theorem Odd.same {H H' : Hp} {v : V} (h : Odd H v) (s : Same H H') : Odd H' v := by
  rcases h with h | h | h | ⟨a, xs, h, e⟩ | ⟨a, xs, h, e⟩
  · exact Or.inl h
  · exact Or.inr (Or.inl h)
  · exact Or.inr (Or.inr (Or.inl h))
  · exact Or.inr (Or.inr (Or.inr (Or.inl ⟨a, xs, h, s _ _ e⟩)))
  · exact Or.inr (Or.inr (Or.inr (Or.inr ⟨a, xs, h, s _ _ e⟩)))
theorem Odd.ty {K : PySem.W.Frag} {H : Hp} {v : V} (h : Odd H v) : ∃ t, t ∈ notStr ∧ TyX K H v (.type t) := by
  rcases h with rfl | ⟨i, rfl⟩ | ⟨b, rfl⟩ | ⟨a, xs, rfl, e⟩ | ⟨a, xs, rfl, e⟩
  · exact ⟨"NoneType", by simp [notStr], .base .non⟩
  · exact ⟨"int", by simp [notStr], .base (.int i)⟩
  · exact ⟨"bool", by simp [notStr], .base (.bl b)⟩
  · exact ⟨"list", by simp [notStr], .base (.lst e)⟩
  · exact ⟨"tuple", by simp [notStr], .base (.tup e)⟩
def told (d : PyData) : PyData := .tuple [.str "BadPath", d]
/-- a value that the law draws -/
def Thing (K : PySem.W.Frag) (C : Addr) (H : Hp) (x : V) : Prop :=
  (∃ z : Str, x = .str z ∧ z.length ≤ 2000 ∧ PyData.strOk z = true) ∨ (∃ d, Dp K H x d ∧ Rok (told d) ∧ Odd H x) ∨
  (∃ a kvs, x = .ref a ∧ H a = some (.dK kvs) ∧ (∀ q ∈ kvs, isAtom q.2 = true) ∧ (told (dictD kvs)).showable = true ∧ (told (dictD kvs)).depth ≤ 60 ∧ (told (dictD kvs)).shown.length ≤ sizeLine) ∨
  ∃ p, x = .ref p ∧ Pk C H p
theorem Thing.same {K : PySem.W.Frag} {C : Addr} {H H' : Hp} {x : V} (h : Thing K C H x) (s : Same H H') : Thing K C H' x := by
  rcases h with h | ⟨d, h1, h2, h3⟩ | ⟨a, kvs, h1, h2, h3⟩ | ⟨p, h1, h2⟩
  · exact Or.inl h
  · exact Or.inr (Or.inl ⟨d, dp_same s _ _ h1, h2, h3.same s⟩)
  · exact Or.inr (Or.inr (Or.inl ⟨a, kvs, h1, s _ _ h2, h3⟩))
  · exact Or.inr (Or.inr (Or.inr ⟨p, h1, h2.same s⟩))
def spOther (K : PySem.W.Frag) (C : Addr) : Sp := fun vs H Q _ => ∃ b, vs = [.ref b] ∧ BagAt H b ∧ ∀ H' v, Keep b H H' → BagAt H' b → Thing K C H' v → Q v H'
abbrev s__law_others : Stmt := topS 52
abbrev N__law_others : List Str := ["_law_bag_here", "_law_letter", "_law_words", "_law_longs", "_law_rest"]
theorem sc__law_others : FnScope ["_law_bag_here", "_law_letter", "_law_words", "_law_longs", "_law_rest"] ["_law_bag_here"] (defScope s__law_others) := ⟨rfl, rfl, rfl, by decide +kernel, rfl, by decide +kernel, by decide +kernel⟩
theorem rep_flat (l : Str) : ∀ n : Nat, (List.replicate n [V.str l]).flatten = (List.replicate n l).map V.str
  | 0 => rfl
  | n + 1 => by rw [List.replicate_succ, List.flatten_cons, rep_flat l n, List.replicate_succ]; rfl
def lets : List Str := ["a", "z", "m"]
theorem lets_facts : ∀ l ∈ lets, l.length = 1 ∧ isNm l = true ∧ (PySem.Txt.upper l).length ≤ 10 ∧ PyData.strOk (PySem.Txt.upper l) = true ∧ PyData.strOk l = true := by decide +kernel
theorem lets_rok : ∀ l ∈ lets, Rok (told (.list [.str l])) ∧ Rok (told (.tuple [.str l])) ∧
    ((told (dictD [(.inr l, .non)])).showable = true ∧ (told (dictD [(.inr l, .non)])).depth ≤ 60 ∧ (told (dictD [(.inr l, .non)])).shown.length ≤ 1000) := by
  intro l hl
  simp only [lets, List.mem_cons, List.not_mem_nil, or_false] at hl
  rcases hl with rfl | rfl | rfl <;>
    exact ⟨Rok.of (by decide +kernel) (by decide +kernel) (by decide +kernel) (by decide +kernel) (by decide +kernel), Rok.of (by decide +kernel) (by decide +kernel) (by decide +kernel) (by decide +kernel) (by decide +kernel), by decide +kernel, by decide +kernel, by decide +kernel⟩
theorem flat_rok : Rok (told .none) ∧ Rok (told (.bool true)) ∧ Rok (told (.bool false)) ∧ Rok (told (.int 0)) ∧ Rok (told (.int 1)) ∧ Rok (told (.list [])) ∧ Rok (told (.tuple [])) ∧
    ((told (dictD [])).showable = true ∧ (told (dictD [])).depth ≤ 60 ∧ (told (dictD [])).shown.length ≤ 1000) := by
  refine ⟨?_, ?_, ?_, ?_, ?_, ?_, ?_, by decide +kernel, by decide +kernel, by decide +kernel⟩ <;>
    exact Rok.of (by decide +kernel) (by decide +kernel) (by decide +kernel) (by decide +kernel) (by decide +kernel)
end K1

set_option Elab.async false
set_option linter.all false
set_option maxRecDepth 100000
set_option maxHeartbeats 4000000
namespace K1
open PySem PySem.Spec PyProof.Rows L2 LF
/-- a call of Package() -/
structure PkMake (P : Program) (w : World) (K : PySem.W.Frag) (mg : Str → Option Value) (base : Heap) (C f : Addr) (fd : FuncData) (ds : List Value) : Prop where
  mak : Mk K C f
  F : FnOk P w K mg base CX0 7 f fd ["self", "entries"] (spInit0 C)
  b : Binds K fd ["self", "entries"] ds
  d : Vals [.non] ds
  g : mg "Package" = some (.ref C)
section
variable {P : Program} {w : World} {K : PySem.W.Frag} {mg : Str → Option Value} {base : Heap} {tk1 tk2 : Tok}
theorem ok_others {f f1 f2 fI C : Addr} {fd fd1 fd2 fdI : FuncData} {ds : List Value} (F : Fun K "_law_others" "_law_others" s__law_others f fd) (T : Txt K mg tk1 tk2) (d_take : DefAt P w K mg base "_law_take" 1 f1 fd1 ["_law_bag_here", "_law_many"] spTake)
    (d_pick : DefAt P w K mg base "_law_pick" 2 f2 fd2 ["_law_bag_here", "_law_some"] (spPick K)) (M : PkMake P w K mg base C fI fdI ds) : FnOk P w K mg base CX0 9 f fd ["_law_bag_here"] (spOther K C) := by
  refine F.ok sc__law_others (fun vs H Q E h => ?_) (fun cdv A outer s H vs Q E hr h => ?_)
  · obtain ⟨b, rfl, _⟩ := h
    rfl
  have hu := hr.units
  refine ⟨_, (pss_cons (ps_set (i := 1) sc__law_others.nd rfl (Or.inl rfl) (pe_callD d_pick (hr.mono (by decide)) (pa_cons (pv 0) (pa_cons (pe_lst (pa_cons pe_str (pa_cons pe_str (pa_cons pe_str pa_nil)))) pa_nil))))
    (pss_cons (ps_set (i := 2) sc__law_others.nd rfl (Or.inl rfl) (pe_lst (pa_cons (pe_op op_mulS (pv 1) (pe_op op_add pe_int (pe_callD d_take (hr.mono (by decide)) (pa_cons (pv 0) (pa_cons pe_int pa_nil))))) (pa_cons (pe_upper (pv 1)) (pa_cons (pe_op op_add_str (pv 1) pe_str) (pa_cons pe_str (pa_cons pe_str (pa_cons pe_str (pa_cons (pe_op op_add_str (pv 1) pe_str) pa_nil)))))))))
    (pss_cons (ps_set (i := 3) sc__law_others.nd rfl (Or.inl rfl) (pe_lst (pa_cons (pe_join pe_str (pe_op op_rep (pe_lst (pa_cons (pv 1) pa_nil)) (pe_op op_add pe_int (pe_callD d_take (hr.mono (by decide)) (pa_cons (pv 0) (pa_cons pe_int pa_nil)))))) (pa_cons (pe_join pe_str (pe_op op_rep (pe_lst (pa_cons (pe_op op_mulS (pv 1) pe_int) pa_nil)) pe_int)) pa_nil))))
    (pss_cons (ps_set (i := 4) sc__law_others.nd rfl (Or.inl rfl) (pe_lst (pa_cons pe_non (pa_cons pe_bl (pa_cons pe_bl (pa_cons pe_int (pa_cons pe_int (pa_cons (pe_lst pa_nil) (pa_cons (pe_lst (pa_cons (pv 1) pa_nil)) (pa_cons (pe_tup (pa_cons (pv 1) pa_nil)) (pa_cons pe_dnewK (pa_cons (pe_disp (pps_cons (pv 1) pe_non pps_nil) rfl rfl (by simp) (by decide)) (pa_cons (pe_make0 M.mak M.F hr rfl M.g M.b M.d pass0) (pa_cons (pe_tup pa_nil) pa_nil))))))))))))))
    (pss_one (ps_ret (pe_callD d_pick (hr.mono (by decide)) (pa_cons (pv 0) (pa_cons (pe_op op_cat (pe_op op_cat (pv 2) (pv 3)) (pv 4)) pa_nil))))))))), ?_⟩
  obtain ⟨b, rfl, hb, hq⟩ := h
  refine ⟨_, rfl, (by show 3 ≤ sizeLine; decide), fun p3 hp3 => ?_⟩
  refine ⟨b, _, rfl, hb.same (same_new hp3), Or.inl ⟨p3, _, rfl, hb.ne hp3, SqL.of upd_same, by decide, by decide, fun H1 v k1 b1 hv => ?_⟩⟩
  have hv' : ∃ l : Str, v = .str l ∧ l ∈ lets := by
    simp only [List.mem_cons, List.not_mem_nil, or_false] at hv
    rcases hv with rfl | rfl | rfl <;> exact ⟨_, rfl, by simp [lets]⟩
  obtain ⟨l, rfl, hl⟩ := hv'
  obtain ⟨l1, lnm, lup, loku, lok⟩ := lets_facts l hl
  have K1' : Keep b H H1 := (Same.keep (same_new hp3)).trans k1
  have big : 3000 ≤ sizeLine := by decide
  have c1 : ((("\n" : String) : Str)).length = 1 := by decide +kernel
  have c2 : c_sl.length = 1 := by decide +kernel
  -- words
  refine ⟨_, rfl, _, rfl, b, 9, rfl, b1, by omega, by omega, fun H2 r2 k2 b2 r20 r21 => ?_⟩
  refine ⟨_, _, rfl, rfl, l, _, rfl, rfl, by show (1 : Int) ≤ 1 + r2; omega, by show (1 : Int) + r2 ≤ 1000; omega, by omega, fun w0 hw0 hc0 => ?_⟩
  refine ⟨_, rfl, ⟨_, rfl⟩, l, rfl, rfl, by omega, ?_⟩
  refine ⟨_, rfl, _, _, rfl, rfl, by show l.length + ((("\n" : String) : Str)).length ≤ sizeLine; omega, ?_⟩
  refine ⟨_, rfl, _, _, rfl, rfl, by show l.length + c_sl.length ≤ sizeLine; omega, ?_⟩
  refine ⟨(by show 7 ≤ sizeLine; decide), fun pw hpw => ?_⟩
  have nw : pw ≠ b := b2.ne hpw
  have b3 := b2.same (same_new (o := .lst [.str w0, .str (PySem.Txt.upper l), .str (l ++ "\n"), .str "\n", .str "", .str "/", .str (l ++ "/")]) hpw)
  have K3 : Keep b H (upd H2 pw (.lst [.str w0, .str (PySem.Txt.upper l), .str (l ++ "\n"), .str "\n", .str "", .str "/", .str (l ++ "/")])) := (K1'.trans k2).trans (Same.keep (same_new hpw))
  have hw3 : (upd H2 pw (.lst [.str w0, .str (PySem.Txt.upper l), .str (l ++ "\n"), .str "\n", .str "", .str "/", .str (l ++ "/")])) pw = some (.lst [.str w0, .str (PySem.Txt.upper l), .str (l ++ "\n"), .str "\n", .str "", .str "/", .str (l ++ "/")]) := upd_same
  generalize (upd H2 pw (.lst [.str w0, .str (PySem.Txt.upper l), .str (l ++ "\n"), .str "\n", .str "", .str "/", .str (l ++ "/")])) = H3 at b3 K3 hw3
  -- longs
  refine ⟨⟨_, rfl⟩, _, rfl, (by show 1 ≤ sizeLine; decide), fun q1 hq1 => ?_⟩
  refine ⟨_, rfl, b, 4, rfl, b3.same (same_new hq1), by omega, by omega, fun H4 r4 k4 b4 r40 r41 => ?_⟩
  have nq1 : q1 ≠ b := b3.ne hq1
  refine ⟨_, _, rfl, rfl, q1, _, _, rfl, rfl, k4 _ _ nq1 upd_same, by show -(2 ^ 63 : Int) ≤ 199 + r4; omega, by show 199 + r4 < (2 ^ 63 : Int); omega, by show 1 * (199 + r4).toNat ≤ sizeLine; omega, fun q2 hq2 => ?_⟩
  rw [rep_flat]
  generalize hn : (199 + r4).toNat = n
  have hn2 : n ≤ 202 := by omega
  have hnm : ∀ s ∈ List.replicate n l, isNm s = true := fun s hs => by rw [(List.mem_replicate.mp hs).2]; exact lnm
  have s1 := sum_le (ss := List.replicate n l) (n := 1) fun s hs => by rw [(List.mem_replicate.mp hs).2]; omega
  have s2 := join_len_le hnm
  rw [List.length_replicate] at s1 s2
  refine ⟨_, q2, List.replicate n l, rfl, rfl, Or.inl (SqL.of upd_same), ?_, ?_⟩
  · show ((List.replicate n l).map (·.length)).sum + (List.replicate n l).length * c_sl.length ≤ 16777216
    rw [List.length_replicate, c2]; omega
  have z1ok := strOk_join hnm
  have s2' : (PySem.Txt.join c_sl (List.replicate n l)).length ≤ 2000 := by omega
  have b5 := b4.same (same_new (o := .lst ((List.replicate n l).map V.str)) hq2)
  have K5 : Keep b H (upd H4 q2 (.lst ((List.replicate n l).map V.str))) := ((K3.trans (Same.keep (same_new hq1))).trans k4).trans (Same.keep (same_new hq2))
  have hw5 : (upd H4 q2 (.lst ((List.replicate n l).map V.str))) pw = some (.lst [.str w0, .str (PySem.Txt.upper l), .str (l ++ "\n"), .str "\n", .str "", .str "/", .str (l ++ "/")]) := same_new hq2 _ _ (k4 _ _ nw (same_new hq1 _ _ hw3))
  generalize (upd H4 q2 (.lst ((List.replicate n l).map V.str))) = H5 at b5 K5 hw5
  -- the second
  refine ⟨⟨_, rfl⟩, _, rfl, _, _, rfl, rfl, by decide, by decide, by omega, fun l8 hl8 hc8 => ?_⟩
  refine ⟨(by show 1 ≤ sizeLine; decide), fun q3 hq3 => ?_⟩
  refine ⟨q3, _, _, rfl, rfl, upd_same, by decide, by decide, by show 1 * 200 ≤ sizeLine; decide, fun q4 hq4 => ?_⟩
  rw [rep_flat]
  have e200 : Int.toNat 200 = 200 := rfl
  have e8 : Int.toNat 8 = 8 := rfl
  rw [e200]
  rw [l1, e8] at hl8
  have l8nm : isNm l8 = true := isNm_iff.mpr ⟨by omega, fun c hc => (isNm_iff.mp lnm).2 c (hc8 c hc)⟩
  have hnm2 : ∀ s ∈ List.replicate 200 l8, isNm s = true := fun s hs => by rw [(List.mem_replicate.mp hs).2]; exact l8nm
  have t1 := sum_le (ss := List.replicate 200 l8) (n := 8) fun s hs => by rw [(List.mem_replicate.mp hs).2]; omega
  have t2 := join_len_le hnm2
  rw [List.length_replicate] at t1 t2
  refine ⟨_, q4, List.replicate 200 l8, rfl, rfl, Or.inl (SqL.of upd_same), ?_, ?_⟩
  · show ((List.replicate 200 l8).map (·.length)).sum + (List.replicate 200 l8).length * c_sl.length ≤ 16777216
    rw [List.length_replicate, c2]; omega
  have z2ok := strOk_join hnm2
  refine ⟨(by show 2 ≤ sizeLine; decide), fun pl hpl => ?_⟩
  have S6 : Same H5 (upd (upd (upd H5 q3 (.lst [.str l8])) q4 (.lst ((List.replicate 200 l8).map V.str))) pl (.lst [.str (PySem.Txt.join c_sl (List.replicate n l)), .str (PySem.Txt.join c_sl (List.replicate 200 l8))])) := ((same_new hq3).trans (same_new hq4)).trans (same_new hpl)
  have hl6 : (upd (upd (upd H5 q3 (.lst [.str l8])) q4 (.lst ((List.replicate 200 l8).map V.str))) pl (.lst [.str (PySem.Txt.join c_sl (List.replicate n l)), .str (PySem.Txt.join c_sl (List.replicate 200 l8))])) pl = some (.lst [.str (PySem.Txt.join c_sl (List.replicate n l)), .str (PySem.Txt.join c_sl (List.replicate 200 l8))]) := upd_same
  have nl : pl ≠ b := (b5.same ((same_new hq3).trans (same_new hq4))).ne hpl
  generalize hG6 : (upd (upd (upd H5 q3 (.lst [.str l8])) q4 (.lst ((List.replicate 200 l8).map V.str))) pl (.lst [.str (PySem.Txt.join c_sl (List.replicate n l)), .str (PySem.Txt.join c_sl (List.replicate 200 l8))])) = H6 at S6 hl6
  show tSeq _ _ _ _ (upd (upd (upd H5 q3 (.lst [.str l8])) q4 (.lst ((List.replicate 200 l8).map V.str))) pl (.lst [.str (PySem.Txt.join c_sl (List.replicate n l)), .str (PySem.Txt.join c_sl (List.replicate 200 l8))]))
  rw [hG6]
  have b6 := b5.same S6
  have hw6 := S6 _ _ hw5
  have K6 := K5.trans (Same.keep S6)
  -- rest
  refine ⟨Nat.zero_le _, fun e1 he1 => ⟨_, rfl, (by show 1 ≤ sizeLine; decide), fun e2 he2 => ⟨_, rfl, (by show 1 ≤ sizeLine; decide), fun e3 he3 => ?_⟩⟩⟩
  have f1 : (upd (upd (upd H6 e1 (.lst [])) e2 (.lst [.str l])) e3 (.tup [.str l])) e1 = some (.lst []) := same_new he3 _ _ (same_new he2 _ _ upd_same)
  have f2 : (upd (upd (upd H6 e1 (.lst [])) e2 (.lst [.str l])) e3 (.tup [.str l])) e2 = some (.lst [.str l]) := same_new he3 _ _ upd_same
  have f3 : (upd (upd (upd H6 e1 (.lst [])) e2 (.lst [.str l])) e3 (.tup [.str l])) e3 = some (.tup [.str l]) := upd_same
  have S7 : Same H6 (upd (upd (upd H6 e1 (.lst [])) e2 (.lst [.str l])) e3 (.tup [.str l])) := ((same_new he1).trans (same_new he2)).trans (same_new he3)
  have m1 : e1 ≠ b := b6.ne he1
  have m2 : e2 ≠ b := (b6.same (same_new he1)).ne he2
  have m3 : e3 ≠ b := (b6.same ((same_new he1).trans (same_new he2))).ne he3
  generalize hG7 : (upd (upd (upd H6 e1 (.lst [])) e2 (.lst [.str l])) e3 (.tup [.str l])) = H7 at f1 f2 f3 S7
  intro d1 hd1 d2 hd2
  refine ⟨_, rfl, upd_same, [(.inr l, .non)], rfl, by show 1 ≤ 15; decide, ?_⟩
  have ed : (mergeK ([] : List (Key × V)) [(.inr l, .non)]) = [(.inr l, .non)] := rfl
  rw [ed, upd_upd]
  intro pk dx hpk hdx ndx
  have g1 : (upd (upd H7 d1 (.dK [])) d2 (.dK [(.inr l, .non)])) d1 = some (.dK []) := same_new hd2 _ _ upd_same
  have g2 : (upd (upd H7 d1 (.dK [])) d2 (.dK [(.inr l, .non)])) d2 = some (.dK [(.inr l, .non)]) := upd_same
  have S8 : Same H7 (upd (upd H7 d1 (.dK [])) d2 (.dK [(.inr l, .non)])) := (same_new hd1).trans (same_new hd2)
  have n1 : d1 ≠ b := (b6.same S7).ne hd1
  have n2 : d2 ≠ b := (b6.same (S7.trans (same_new (o := .dK []) hd1))).ne hd2
  generalize (upd (upd H7 d1 (.dK [])) d2 (.dK [(.inr l, .non)])) = H8 at g1 g2 S8 hpk hdx
  refine ⟨pk, dx, rfl, upd_same, fun H9 kp hpk9 => ⟨rfl, ?_⟩⟩
  have S9 : Same H8 H9 := fun a o e => by
    have na : a ≠ pk := ne_of_none e hpk
    have nd : a ≠ dx := ne_of_none e hdx
    refine kp a o na ?_
    rw [upd_ne na, upd_ne nd]
    exact e
  refine ⟨Nat.zero_le _, fun e4 he4 => ⟨by show 12 ≤ sizeLine; decide, fun pr hpr => ?_⟩⟩
  have b8 := b6.same (S7.trans S8)
  have b9 := b8.same S9
  have S10 : Same H6 (upd (upd H9 e4 (.tup [])) pr (.lst [.non, .bl true, .bl false, .int 0, .int 1, .ref e1, .ref e2, .ref e3, .ref d1, .ref d2, .ref pk, .ref e4])) := (((S7.trans S8).trans S9).trans (same_new he4)).trans (same_new hpr)
  have S11 : Same H9 (upd (upd H9 e4 (.tup [])) pr (.lst [.non, .bl true, .bl false, .int 0, .int 1, .ref e1, .ref e2, .ref e3, .ref d1, .ref d2, .ref pk, .ref e4])) := (same_new he4).trans (same_new hpr)
  have f4 : (upd (upd H9 e4 (.tup [])) pr (.lst [.non, .bl true, .bl false, .int 0, .int 1, .ref e1, .ref e2, .ref e3, .ref d1, .ref d2, .ref pk, .ref e4])) e4 = some (.tup []) := same_new hpr _ _ upd_same
  have f5 : (upd (upd H9 e4 (.tup [])) pr (.lst [.non, .bl true, .bl false, .int 0, .int 1, .ref e1, .ref e2, .ref e3, .ref d1, .ref d2, .ref pk, .ref e4])) pr = some (.lst [.non, .bl true, .bl false, .int 0, .int 1, .ref e1, .ref e2, .ref e3, .ref d1, .ref d2, .ref pk, .ref e4]) := upd_same
  have m4 : e4 ≠ b := b9.ne he4
  generalize (upd (upd H9 e4 (.tup [])) pr (.lst [.non, .bl true, .bl false, .int 0, .int 1, .ref e1, .ref e2, .ref e3, .ref d1, .ref d2, .ref pk, .ref e4])) = G at S10 S11 f4 f5
  have bG := b9.same S11
  -- the draw
  refine ⟨_, rfl, _, rfl, _, rfl, pw, pl, _, _, rfl, rfl, S10 _ _ hw6, S10 _ _ hl6, by show 9 ≤ sizeLine; decide, fun c1 hc1 => ?_⟩
  refine ⟨_, rfl, c1, pr, _, _, rfl, rfl, upd_same, same_new hc1 _ _ f5, by show 21 ≤ sizeLine; decide, fun c2 hc2 => ?_⟩
  have bc := (bG.same (same_new (o := .lst ([.str w0, .str (PySem.Txt.upper l), .str (l ++ "\n"), .str "\n", .str "", .str "/", .str (l ++ "/")] ++ [.str (PySem.Txt.join c_sl (List.replicate n l)), .str (PySem.Txt.join c_sl (List.replicate 200 l8))])) hc1)).same (same_new (o := .lst (([.str w0, .str (PySem.Txt.upper l), .str (l ++ "\n"), .str "\n", .str "", .str "/", .str (l ++ "/")] ++ [.str (PySem.Txt.join c_sl (List.replicate n l)), .str (PySem.Txt.join c_sl (List.replicate 200 l8))]) ++ [.non, .bl true, .bl false, .int 0, .int 1, .ref e1, .ref e2, .ref e3, .ref d1, .ref d2, .ref pk, .ref e4])) hc2)
  refine ⟨b, _, rfl, bc, Or.inl ⟨c2, _, rfl, (bG.same (same_new hc1)).ne hc2, SqL.of upd_same, by show 1 ≤ 21; decide, by show 21 < 1000000; decide, fun H' v kf bf hv => ?_⟩⟩
  have KG : Keep b G H' := ((Same.keep (same_new hc1)).trans (Same.keep (same_new hc2))).trans kf
  refine hq H' v ((K6.trans (Same.keep S10)).trans KG) bf ?_
  have str : ∀ z : Str, z.length ≤ 2000 → PyData.strOk z = true → Thing K C H' (.str z) := fun z h1 h2 => Or.inl ⟨z, rfl, h1, h2⟩
  obtain ⟨lr1, lr2, ls1, ls2, ls3⟩ := lets_rok l hl
  obtain ⟨q1', q2', q3', q4', q5', q6', q7', qs1, qs2, qs3⟩ := flat_rok
  have big2 : 1000 ≤ sizeLine := by decide
  have F1 : H' e1 = some (.lst []) := KG _ _ m1 (S11 _ _ (S9 _ _ (S8 _ _ f1)))
  have F2 : H' e2 = some (.lst [.str l]) := KG _ _ m2 (S11 _ _ (S9 _ _ (S8 _ _ f2)))
  have F3 : H' e3 = some (.tup [.str l]) := KG _ _ m3 (S11 _ _ (S9 _ _ (S8 _ _ f3)))
  have F4 : H' e4 = some (.tup []) := KG _ _ m4 f4
  have D1 : H' d1 = some (.dK []) := KG _ _ n1 (S11 _ _ (S9 _ _ g1))
  have D2 : H' d2 = some (.dK [(.inr l, .non)]) := KG _ _ n2 (S11 _ _ (S9 _ _ g2))
  have npk : pk ≠ b := b8.ne hpk
  have PK : Pk C H' pk := by
    obtain ⟨dp, dd, ⟨xx_x1, x1, zz_x1⟩, x2⟩ := hpk9
    have nd : dd ≠ b := by
      obtain ⟨d', x', n', eb, _⟩ := b9
      exact ne_of x2 eb (by intro z; cases z)
    exact ⟨dp, dd, ⟨_, KG _ _ npk (S11 _ _ x1), True.intro⟩, KG _ _ nd (S11 _ _ x2)⟩
  rcases List.mem_append.mp hv with hv | hv
  · rcases List.mem_append.mp hv with hv | hv
    · simp only [List.mem_cons, List.not_mem_nil, or_false] at hv
      rcases hv with rfl | rfl | rfl | rfl | rfl | rfl | rfl
      · exact str _ (by rw [hw0, l1]; omega) (strOk_sub lok hc0)
      · exact str _ (by omega) loku
      · exact str _ (by rw [len_app, l1]; omega) (strOk_app lok (by decide +kernel))
      · exact str _ (by decide +kernel) (by decide +kernel)
      · exact str _ (by decide +kernel) (by decide +kernel)
      · exact str _ (by decide +kernel) (by decide +kernel)
      · exact str _ (by show (l ++ c_sl).length ≤ 2000; rw [len_app, l1]; omega) (strOk_app lok (by decide +kernel))
    · simp only [List.mem_cons, List.not_mem_nil, or_false] at hv
      rcases hv with rfl | rfl
      · exact str _ s2' z1ok
      · exact str _ (by omega) z2ok
  · simp only [List.mem_cons, List.not_mem_nil, or_false] at hv
    rcases hv with rfl | rfl | rfl | rfl | rfl | rfl | rfl | rfl | rfl | rfl | rfl | rfl
    · exact Or.inr (Or.inl ⟨_, .non, q1', Or.inl rfl⟩)
    · exact Or.inr (Or.inl ⟨_, .bl true, q2', Or.inr (Or.inr (Or.inl ⟨_, rfl⟩))⟩)
    · exact Or.inr (Or.inl ⟨_, .bl false, q3', Or.inr (Or.inr (Or.inl ⟨_, rfl⟩))⟩)
    · exact Or.inr (Or.inl ⟨_, .int 0, q4', Or.inr (Or.inl ⟨_, rfl⟩)⟩)
    · exact Or.inr (Or.inl ⟨_, .int 1, q5', Or.inr (Or.inl ⟨_, rfl⟩)⟩)
    · exact Or.inr (Or.inl ⟨_, .lst (SqL.of F1) .nil, q6', Or.inr (Or.inr (Or.inr (Or.inl ⟨_, _, rfl, F1⟩)))⟩)
    · exact Or.inr (Or.inl ⟨_, .lst (SqL.of F2) (.cons (.str l) .nil), lr1, Or.inr (Or.inr (Or.inr (Or.inl ⟨_, _, rfl, F2⟩)))⟩)
    · exact Or.inr (Or.inl ⟨_, .tup (SqT.of F3) (.cons (.str l) .nil), lr2, Or.inr (Or.inr (Or.inr (Or.inr ⟨_, _, rfl, F3⟩)))⟩)
    · exact Or.inr (Or.inr (Or.inl ⟨d1, _, rfl, D1, fun q hq => (nomatch hq), qs1, qs2, Nat.le_trans qs3 big2⟩))
    · exact Or.inr (Or.inr (Or.inl ⟨d2, _, rfl, D2, fun q hq => by rw [List.mem_singleton.mp hq]; rfl, ls1, ls2, Nat.le_trans ls3 big2⟩))
    · exact Or.inr (Or.inr (Or.inr ⟨pk, rfl, PK⟩))
    · exact Or.inr (Or.inl ⟨_, .tup (SqT.of F4) .nil, q7', Or.inr (Or.inr (Or.inr (Or.inr ⟨_, _, rfl, F4⟩)))⟩)
end
end K1

set_option Elab.async false
set_option linter.all false
set_option maxRecDepth 100000
set_option maxHeartbeats 4000000
namespace K1
open PySem PySem.Spec PyProof.Rows L2 LF
abbrev s__law_told : Stmt := topS 53
theorem sc__law_told : FnScope ["_law_thing", "e", "_law_own"] ["_law_thing"] (defScope s__law_told) := ⟨rfl, rfl, rfl, by decide +kernel, rfl, by decide +kernel, by decide +kernel⟩
structure ErrTxt (K : PySem.W.Frag) (mg : Str → Option Value) (CP fP CN CT : Addr) : Prop where
  low : PySem.BadPathX.PathTxt K mg CP fP
  exC : ExcC K CP
  g_BadName : mg "BadName" = some (.ref CN)
  g_BadText : mg "BadText" = some (.ref CT)
  kVE : PySem.W.kitOne K (.ref CP) (.type "ValueError") = some true
  kPE : PySem.W.kitAny K (.ref CP) [.ref CN, .ref CT] = some false
def spTold (K : PySem.W.Frag) : Sp := fun vs H Q _ => ∃ (x : V) (b : Bool), vs = [x] ∧ isOk K H x isPt b ∧
  (∀ z, x = .str z → b = true → ∀ H' p q, Same H H' → H' q = some (.tup ((parts z).map V.str)) → H' p = some (.lst [.ref q]) → Q (.ref p) H') ∧
  (b = false → ∀ H' p, Same H H' → H' p = some (.tup [.str "BadPath", x]) → Q (.ref p) H')
section
variable {P : Program} {w : World} {K : PySem.W.Frag} {mg : Str → Option Value} {base : Heap} {tk1 tk2 : Tok}
theorem ok_told {f f1 CP fP CN CT : Addr} {fd fd1 : FuncData} (F : Fun K "_law_told" "_law_told" s__law_told f fd) (T : Txt K mg tk1 tk2) (R : ErrTxt K mg CP fP CN CT)
    (FN : FnOk P w K mg base (L2.CX P w) 5 f1 fd1 ["path"] (spNames K CP)) (gN : mg "names_of" = some (.ref f1)) (kN : PySem.W.keepIn K (.ref f1) = true) (bN : Binds K fd1 ["path"] []) : FnOk P w K mg base CX0 6 f fd ["_law_thing"] (spTold K) := by
  refine F.ok sc__law_told (fun vs H Q E h => ?_) (fun cdv A outer s H vs Q E hr h => ?_)
  · obtain ⟨x, b, rfl, _⟩ := h
    rfl
  refine ⟨_, pss_one (ps_try_as (i := 1) (Wout := fun _ _ _ _ => False) rfl rfl sc__law_told.nd rfl rfl ⟨rfl, by decide, Or.inl R.low.gC⟩ takes0
    (fun W pn xe tk _ => pss_one (ps_ret (pe_lst (pa_cons (pe_callS FN (hr.mono (by decide)) rfl gN kN bN (fun σ => passAt tk σ) (by exact (pa_cons (pv 0) pa_nil))) pa_nil))))
    (fun a oe cls d pn hz hf =>
      pss_cons (ps_set (i := 2) sc__law_told.nd rfl (Or.inl rfl) (pe_and (pe_callB (call_isErr R.exC hz hf) (by rfl) T.n_isinstance (by decide +kernel) (pa_cons (pv 1) (pa_cons (pe_bltn (v := .ty "ValueError") (by rfl) T.n_ValueError (by decide +kernel) rfl) pa_nil)))
          (pe_one (pe_not (pe_callB (call_isErr R.exC hz hf) (by rfl) T.n_isinstance (by decide +kernel) (pa_cons (pv 1) (pa_cons (pe_tup (pa_cons (pe_glob (v := .ref CN) rfl R.g_BadName rfl) (pa_cons (pe_glob (v := .ref CT) rfl R.g_BadText rfl) pa_nil))) pa_nil)))))))
      (pss_one (ps_ret (pe_ifExp (pt_val (pv 2)) (pe_tup (pa_cons pe_str (pa_cons (pe_pathOf R.low hz hf (pv 1)) pa_nil))) (pe_tup (pa_cons pe_str pa_nil))))))), ?_⟩
  obtain ⟨x, b, rfl, hx, hq, he⟩ := h
  refine ⟨_, rfl, x, b, rfl, hx, fun z hz hb H' q sm hq' => ?_, fun hb H' d sm hd => ?_⟩
  · refine ⟨by show 1 ≤ sizeLine; decide, fun p hp => hq z hz hb _ p q (sm.trans (same_new hp)) (same_new hp _ _ hq') upd_same⟩
  · refine ⟨true, R.low.te, fun _ a0 ha0 => ?_, fun q => Bool.noConfusion q⟩
    refine ⟨_, rfl, rfl, fun e' he' => ⟨_, Option.some.inj he' ▸ hd⟩, Or.inl ⟨.ty "ValueError", .type "ValueError", true, rfl, fun u r => r, R.kVE, _, rfl, ?_⟩⟩
    refine iteT ?_
    refine ⟨_, rfl, (by show 2 ≤ sizeLine; decide), fun tp htp => ?_⟩
    have ndt : d ≠ tp := ne_of_none hd htp
    refine ⟨rfl, fun e' he' => ⟨_, Option.some.inj he' ▸ (upd_ne ndt).trans hd⟩, Or.inr ⟨tp, [.ref CN, .ref CT], [.ref CN, .ref CT], false, rfl, upd_same, .cons (.own CN) (.cons (.own CT) .nil), R.kPE, _, rfl, ?_⟩⟩
    refine ⟨_, rfl, _, rfl, ?_⟩
    refine iteT ?_
    refine ⟨_, rfl, rfl, rfl, d, x, rfl, (upd_ne ndt).trans hd, (by show 2 ≤ sizeLine; decide), fun q hq1 => ?_⟩
    exact he hb _ q ((sm.trans (same_new htp)).trans (same_new hq1)) upd_same
end
end K1

set_option Elab.async false
set_option linter.all false
set_option maxRecDepth 100000
set_option maxHeartbeats 4000000
namespace K1
open PySem PySem.Spec PyProof.Rows L2 LF
/-- the class of packages, asked for its type -/
structure PkIs (K : PySem.W.Frag) (C : Addr) : Prop where
  cl : Cls K C
  ha : PySem.W.findIn K (.ref C) "__class__" = some (some (.builtin "object.__class__"))
  hn : PySem.W.specialIn K (.builtin "object.__class__") "__get__" = some (some (.builtin "getset_descriptor.__get__"))
  ht : PySem.W.takesIn K (.builtin "object.__class__") = some true
  hm : PySem.W.mroIn K C (.type "object") = some true
  kS : PySem.W.kitOne K (.ref C) (.type "str") = some false
def askV (g : Str → Bool) : V → Bool
  | .str z => g z
  | _ => false
theorem thing_ok {K : PySem.W.Frag} {C : Addr} {H : Hp} {x : V} (I : PkIs K C) (h : Thing K C H x) (g : Str → Bool) : isOkS K H x g (askV g x) := by
  rcases h with ⟨z, rfl, h1, h2⟩ | ⟨d, h1, h2, h3⟩ | ⟨a, kvs, rfl, h2, h3⟩ | ⟨p, rfl, dx, d, ⟨xx_h1, h1, zz_h1⟩, h2⟩
  · exact Or.inl ⟨z, rfl, by omega, h2, rfl⟩
  · obtain ⟨t, ht, ty⟩ := h3.ty (K := K)
    refine Or.inr ⟨⟨_, ty, kit_no ht⟩, ?_⟩
    rcases h3 with rfl | ⟨i, rfl⟩ | ⟨b, rfl⟩ | ⟨a, xs, rfl, e⟩ | ⟨a, xs, rfl, e⟩ <;> rfl
  · exact Or.inr ⟨⟨_, .base (.dK h2), kit_no (by simp [notStr])⟩, rfl⟩
  · exact Or.inr ⟨⟨_, .base (.ins h1 I.cl I.ha I.hn I.ht I.hm), I.kS⟩, rfl⟩
theorem name_of {K : PySem.W.Frag} {H : Hp} {x : V} {b : Bool} {Q : VK} {E : XK} (h : isOk K H x isNm b) (hq : ∀ H', Same H H' → Q (.bl b) H') : spName K [x] H Q E := by
  refine ⟨x, rfl, ?_⟩
  rcases h with ⟨z, rfl, h1, rfl⟩ | ⟨⟨t, ty, ht⟩, rfl⟩
  · exact Or.inl ⟨z, rfl, h1, hq⟩
  · exact Or.inr ⟨t, ty, ht, hq⟩
def rReprA (K : PySem.W.Frag) (C : Addr) : List V → Hp → VK → Prop := fun xs H Q => rRepr K xs H Q ∨ rReprTD K xs H Q ∨ rReprTO K C (spRepr0 C) pkText xs H Q
/-- __repr__ of the class -/
structure ReprAt (P : Program) (w : World) (K : PySem.W.Frag) (mg : Str → Option Value) (base : Heap) (C f : Addr) (fd : FuncData) : Prop where
  F : FnOk P w K mg base CX0 5 f fd ["self"] (spRepr0 C)
  b : Binds K fd ["self"] []
  s : PySem.W.findIn K (.ref C) "__repr__" = some (some (.ref f))
  f : PySem.W.isFn K (.ref f) = true
theorem call_reprA {X : Cx} {C f : Addr} {fd : FuncData} (gd : X.A.guards = some []) (hr : Room 8 X.A) (R : ReprAt X.prog X.w X.K X.mg X.base C f fd) : CallR X (.builtin "repr") (rReprA X.K C) := by
  intro pins s σ H xs us Q I r h
  rcases h with h | h | h
  · exact call_reprD gd hr.units pins s σ H xs us Q I r h
  · exact call_reprTD gd hr.units pins s σ H xs us Q I r h
  · exact call_reprTO gd R.F hr R.b R.s R.f (by decide +kernel) pins s σ H xs us Q I r h
def toldText (K : PySem.W.Frag) (C : Addr) (H : Hp) (x : V) (m : Str) : Prop := ∀ H' a, Same H H' → H' a = some (.tup [.str "BadPath", x]) → ∀ Q : VK, (∀ H2, Same H' H2 → Q (.str m) H2) → rReprA K C [.ref a] H' Q
theorem thing_told {K : PySem.W.Frag} {C : Addr} {H : Hp} {x : V} (h : Thing K C H x) : ∃ m, toldText K C H x m := by
  have h0 := h
  rcases h with ⟨z, rfl, h1, h2⟩ | ⟨d, h1, h2, h3⟩ | ⟨a, kvs, rfl, h2, h3, h4, h5, h6⟩ | ⟨p, rfl, hp⟩
  · have rk : Rok (told (.str z)) := rok_tuple (l := ["BadPath", z]) (n := 2000) (fun s hs => by
      rcases List.mem_cons.mp hs with rfl | hs
      · decide +kernel
      · rw [List.mem_singleton.mp hs]; exact h2) (fun s hs => by
      rcases List.mem_cons.mp hs with rfl | hs
      · decide +kernel
      · rw [List.mem_singleton.mp hs]; exact h1) (by show 2001 * 2 ≤ 1000000; decide)
    exact ⟨(told (.str z)).shown, fun H' a sm ha Q hq => Or.inl ⟨_, told (.str z), rfl, .tup (SqT.of ha) (.cons (.str _) (.cons (.str z) .nil)), rk.sh, rk.nd, rk.dp, rk.ln, hq H' (Same.refl H')⟩⟩
  · exact ⟨(told d).shown, fun H' a sm ha Q hq => Or.inl ⟨_, told d, rfl, .tup (SqT.of ha) (.cons (.str _) (.cons (dp_same sm _ _ h1) .nil)), h2.sh, h2.nd, h2.dp, h2.ln, hq H' (Same.refl H')⟩⟩
  · exact ⟨(told (dictD kvs)).shown, fun H' a' sm ha Q hq => Or.inr (Or.inl ⟨a', a, "BadPath", kvs, rfl, SqT.of ha, sm _ _ h2, h3, h4, h5, h6, hq H' (Same.refl H')⟩)⟩
  · refine ⟨tupleText [reprText "BadPath", pkText], fun H' a sm ha Q hq => Or.inr (Or.inr ?_)⟩
    obtain ⟨dx, d, ⟨xx_g1, g1, zz_g1⟩, g2⟩ := id (hp.same sm)
    exact ⟨a, p, dx, "BadPath", _, rfl, SqT.of ha, g1, by decide +kernel, fun Q1 h1 => ⟨p, rfl, hp.same sm, h1⟩, hq⟩
abbrev s__law_right : Stmt := topS 54
abbrev N__law_right : List Str := ["_law_thing", "_law_part"]
theorem sc__law_right : FnScope ["_law_thing", "_law_part"] ["_law_thing"] (defScope s__law_right) := ⟨rfl, rfl, rfl, by decide +kernel, rfl, by decide +kernel, by decide +kernel⟩
def spRight (K : PySem.W.Frag) (C : Addr) : Sp := fun vs H Q _ => ∃ x, vs = [x] ∧ Thing K C H x ∧ ∀ H', Same H H' → Q (.bl true) H'
theorem rok_bools (b c : Bool) : Rok (.list [.bool b, .bool c]) := by
  cases b <;> cases c <;> exact Rok.of (by decide +kernel) (by decide +kernel) (by decide +kernel) (by decide +kernel) (by decide +kernel)
theorem bits_parts {z : Str} (h : isPt z = true) : bits z = parts z := by
  unfold bits parts
  by_cases hz : z = ""
  · subst hz; decide +kernel
  · rw [if_neg hz, List.filter_eq_self]
    intro p hp
    unfold isPt at h
    rw [decide_eq_false hz, Bool.false_or, List.all_eq_true] at h
    have h1 := (isNm_len (h p hp)).1
    have : p ≠ "" := fun e => by rw [e] at h1; exact absurd h1 (by decide +kernel)
    simp [this]
theorem parts_facts {z : Str} (h : isPt z = true) : ∀ s ∈ parts z, isNm s = true := by
  unfold parts
  by_cases hz : z = ""
  · rw [if_pos hz]; exact fun s hs => (nomatch hs)
  · rw [if_neg hz]
    unfold isPt at h
    rw [decide_eq_false hz, Bool.false_or, List.all_eq_true] at h
    exact h
theorem isNm_ok {z : Str} (h : isNm z = true) : PyData.strOk z = true := strOk_low (isNm_iff.mp h).2
theorem filt_bits (z : Str) : (((PySem.Txt.split z c_sl).map V.str).filter fun v => !decide (v = V.str "")).map (fun v => v) = (bits z).map V.str := by
  unfold bits
  rw [List.map_id', List.filter_map]
  congr 1
  congr 1
  funext s
  show (!decide (V.str s = V.str "")) = _
  rw [str_dec]
end K1

set_option Elab.async false
set_option linter.all false
set_option maxRecDepth 100000
set_option maxHeartbeats 4000000
namespace LF
open PySem PySem.Spec PyProof.Rows L2
structure DefG (P : Program) (w : World) (K : PySem.W.Frag) (mg : Str → Option Value) (base : Heap) (x : Str) (k : Nat) (f : Addr) (fd : FuncData) (ps : List Str) (sp : Sp) : Prop where
  F : FnG P w K mg base CX0 k f fd ps sp
  g : mg x = some (.ref f)
  kp : PySem.W.keepIn K (.ref f) = true
  b : Binds K fd ps []
theorem pe_callDG {X : Cx} {x : Str} {k : Nat} {f : Addr} {fd : FuncData} {ps : List Str} {sp : Sp} {p pos : Pos} {e : Expr} {es : List Expr} {t : TA}
    (D : DefG X.prog X.w X.K X.mg X.base x k f fd ps sp) (gd : X.A.guards = some []) (hr : Room k X.A) (ha : PA X (e :: es) t) (hg : Gl X x := by rfl)
    (hdb : (x == ("__debug__" : Str)) = false := by decide)
    (he : starEach (e :: es) X.env = (false, eval e X.env) :: starEach es X.env := by rfl) (hpl : (backTo pos (starEach es X.env)).any (·.1) = false := by rfl) :
    PE X (.Call (.Name x p) (e :: es) [] pos) (fun σ H Q => t σ H fun vs H1 => sp vs H1 Q E0) := pe_callG D.F gd hr hg D.g D.kp D.b pass0 ha hdb he hpl
theorem seq_keep_new {K : PySem.W.Frag} {H H' : Hp} {a b : Addr} {xs : List V} (h : SqL K H a xs) (hb : H b = none) (k : Keep b H H') : SqL K H' a xs := by
  rcases h with (h | ⟨o, h⟩) | h
  · exact Or.inl (Or.inl (k _ _ (ne_of_none h hb) h))
  · exact Or.inl (Or.inr ⟨o, k _ _ (ne_of_none h hb) h⟩)
  · exact Or.inr h
def spLaw (K : PySem.W.Frag) : Sp := fun vs H Q _ => ∃ (a : Addr) (ns : List Int), vs = [.ref a] ∧ SqL K H a (ns.map V.int) ∧ ns.length ≤ 63 ∧ ∀ H', Q (.bl true) H'
end LF
namespace K1
open PySem PySem.Spec PyProof.Rows L2 LF
theorem rok_lt {l : List Str} (h : ∀ s ∈ l, isNm s = true) (hl : l.length ≤ 10000) : Rok (.list [.tuple (l.map .str)]) := by
  have h1 : ∀ s ∈ l, PyData.strOk s = true := fun s hs => isNm_ok (h s hs)
  have hw := weight_strs (n := 8) (l := l) fun s hs => (isNm_len (h s hs)).2
  refine Rok.of ?_ ?_ ?_ ?_ ?_
  · simp [PyData.canLay0, PyData.canLayAll0, canLay_strs h1]
  · simp [PyData.depth, PyData.depthAll, depth_strs]
  · simp only [PyData.weight, PyData.weightAll]
    have : (2 : Nat) ^ 20 = 1048576 := by decide
    omega
  · simp [PyData.intsShort, PyData.intsShortAll, ints_strs]
  · simp [PyData.showable, PyData.showableAll, show_strs]
theorem thing_pt {K : PySem.W.Frag} {C : Addr} {H : Hp} {x : V} (h : Thing K C H x) (hb : askV isPt x = true) : ∃ z, x = .str z ∧ isPt z = true ∧ z.length ≤ 2000 := by
  rcases h with ⟨z, rfl, h1, h2⟩ | ⟨d, h1, h2, h3⟩ | ⟨a, kvs, rfl, h2, h3⟩ | ⟨p, rfl, hp⟩
  · exact ⟨z, rfl, hb, h1⟩
  · rcases h3 with rfl | ⟨i, rfl⟩ | ⟨b, rfl⟩ | ⟨a, xs, rfl, e⟩ | ⟨a, xs, rfl, e⟩ <;> exact nomatch hb
  · exact nomatch hb
  · exact nomatch hb
section
variable {P : Program} {w : World} {K : PySem.W.Frag} {mg : Str → Option Value} {base : Heap} {tk1 tk2 : Tok}
theorem ok_right {f f1 f2 f3 f4 f5 f6 C : Addr} {fd fd1 fd2 fd3 fd4 fd5 fd6 : FuncData} (F : Fun K "_law_right" "_law_right" s__law_right f fd) (T : Txt K mg tk1 tk2) (I : PkIs K C) (R : ReprAt P w K mg base C f6 fd6)
    (d_is_name : DefAt P w K mg base "is_name" 1 f1 fd1 ["thing"] (spName K)) (d_is_path : DefAt P w K mg base "is_path" 2 f2 fd2 ["thing"] (spPath K))
    (d_lname : DefAt P w K mg base "_law_is_name" 1 f3 fd3 ["_law_thing"] (spAsk K isNm)) (d_lpath : DefAt P w K mg base "_law_is_path" 2 f4 fd4 ["_law_thing"] (spAsk K isPt))
    (d_told : DefAt P w K mg base "_law_told" 6 f5 fd5 ["_law_thing"] (spTold K)) : FnG P w K mg base CX0 9 f fd ["_law_thing"] (spRight K C) := by
  refine fnG_of F sc__law_right (fun vs H Q E h => ?_) (fun cdv A outer s H vs Q E gd hr h => ?_)
  · obtain ⟨x, rfl, _⟩ := h
    rfl
  have hu := hr.units
  refine ⟨_, (pss_cons (ps_if (pt_cmpR op_ne (pe_callB (call_reprA gd hr R) (by rfl) T.n_repr (by decide +kernel) (pa_cons (pe_lst (pa_cons (pe_callD d_is_name (hr.mono (by decide)) (pa_cons (pv 0) pa_nil)) (pa_cons (pe_callD d_is_path (hr.mono (by decide)) (pa_cons (pv 0) pa_nil)) pa_nil))) pa_nil)) (pe_callB (call_reprA gd hr R) (by rfl) T.n_repr (by decide +kernel) (pa_cons (pe_lst (pa_cons (pe_callD d_lname (hr.mono (by decide)) (pa_cons (pv 0) pa_nil)) (pa_cons (pe_callD d_lpath (hr.mono (by decide)) (pa_cons (pv 0) pa_nil)) pa_nil))) pa_nil)) (nomark _)) (pss_one (ps_ret pe_bl)) pss_nil)
    (pss_cons (ps_if (pt_not (pt_val (pe_callD d_lpath (hr.mono (by decide)) (pa_cons (pv 0) pa_nil)))) (pss_one (ps_ret (pe_cmpR op_eq (pe_callB (call_reprA gd hr R) (by rfl) T.n_repr (by decide +kernel) (pa_cons (pe_callD d_told (hr.mono (by decide)) (pa_cons (pv 0) pa_nil)) pa_nil)) (pe_callB (call_reprA gd hr R) (by rfl) T.n_repr (by decide +kernel) (pa_cons (pe_tup (pa_cons pe_str (pa_cons (pv 0) pa_nil))) pa_nil)) (nomark _)))) pss_nil)
    (pss_one (ps_ret (pe_cmpR op_eq (pe_callB (call_reprA gd hr R) (by rfl) T.n_repr (by decide +kernel) (pa_cons (pe_callD d_told (hr.mono (by decide)) (pa_cons (pv 0) pa_nil)) pa_nil)) (pe_callB (call_reprA gd hr R) (by rfl) T.n_repr (by decide +kernel) (pa_cons (pe_lst (pa_cons (pe_callTy call_tuple_of (by rfl) T.n_tuple (by decide +kernel) (pa_cons (pe_lc (own := [("_law_part", 1)]) rfl sc__law_right.nd (pi_list (pe_split (pv 0) pe_str)) (blkOk_by (N := N__law_right) (sc := defScope s__law_right) (by decide +kernel)) (fun _ _ _ _ _ => pg_name (i := 1) sc__law_right.nd rfl (Or.inl rfl)) (fun _ _ _ _ _ => (pts_one (pt_cmpR op_ne (pv 1) pe_str (nomark _)))) (fun _ _ _ _ _ => (pv 1))) pa_nil)) pa_nil)) pa_nil)) (nomark _)))))), ?_⟩
  obtain ⟨x, rfl, hx, hq⟩ := h
  have ro : ∀ (H1 : Hp) (a : Addr) (b c : Bool), H1 a = some (.lst [.bl b, .bl c]) → ∀ Q : VK, Q (.str (PyData.list [.bool b, .bool c]).shown) H1 → rReprA K C [.ref a] H1 Q := fun H1 a b c ha Q q =>
    Or.inl ⟨_, .list [.bool b, .bool c], rfl, .lst (SqL.of ha) (.cons (.bl b) (.cons (.bl c) .nil)), (rok_bools b c).sh, (rok_bools b c).nd, (rok_bools b c).dp, (rok_bools b c).ln, q⟩
  refine ⟨_, rfl, ?_⟩
  dsimp only [tNil, List.append_nil, List.nil_append, List.cons_append]
  refine name_of (thing_ok I hx isNm).ok fun H1 s1 => ?_
  refine ⟨_, rfl, x, _, rfl, (thing_ok I (hx.same s1) isPt).ok, fun H2 s2 => ⟨by show 2 ≤ sizeLine; decide, fun p hp => ro _ p _ _ upd_same _ ?_⟩⟩
  have S2 := (s1.trans s2).trans (same_new (o := .lst [.bl (askV isNm x), .bl (askV isPt x)]) hp)
  refine ⟨_, rfl, x, _, rfl, thing_ok I (hx.same S2) isNm, fun H3 s3 => ?_⟩
  refine ⟨_, rfl, x, _, rfl, thing_ok I (hx.same (S2.trans s3)) isPt, fun H4 s4 => ⟨by show 2 ≤ sizeLine; decide, fun p2 hp2 => ro _ p2 _ _ upd_same _ ?_⟩⟩
  have S4 := ((S2.trans s3).trans s4).trans (same_new (o := .lst [.bl (askV isNm x), .bl (askV isPt x)]) hp2)
  generalize (upd H4 p2 (.lst [.bl (askV isNm x), .bl (askV isPt x)])) = H5 at S4
  refine ⟨rfl, _, rfl, ?_⟩
  refine ifN (fun _ => ?_) (fun h => absurd rfl h)
  have hx5 := hx.same S4
  refine ⟨_, rfl, x, _, rfl, thing_ok I hx5 isPt, fun H6 s6 => ⟨_, rfl, ?_⟩⟩
  have S6 := S4.trans s6
  have hx6 := hx.same S6
  cases hb : askV isPt x with
  | false =>
    refine iteT ?_
    obtain ⟨m, hm⟩ := thing_told hx6
    refine ⟨_, rfl, x, false, rfl, by rw [← hb]; exact (thing_ok I hx6 isPt).ok, fun z _ e => (nomatch e), fun _ H7 p7 s7 hp7 => ?_⟩
    refine hm H7 p7 s7 hp7 _ fun H8 s8 => ?_
    refine ⟨_, rfl, by show 2 ≤ sizeLine; decide, fun p9 hp9 => ?_⟩
    refine hm _ p9 ((s7.trans s8).trans (same_new hp9)) upd_same _ fun H10 s10 => ?_
    refine ⟨rfl, ?_⟩
    rw [decide_eq_true rfl]
    exact hq H10 ((((S6.trans s7).trans s8).trans (same_new hp9)).trans s10)
  | true =>
    refine iteF ?_
    obtain ⟨z, rfl, hpt, hz⟩ := thing_pt hx6 hb
    have hbig := sizeLine_big
    have hpl := parts_len z (by omega)
    have hpl2 : (parts z).length ≤ 2002 := by
      unfold parts
      split
      · exact Nat.zero_le _
      · exact Nat.le_trans (split_le z c_sl) (by omega)
    have rk := rok_lt (parts_facts hpt) (by omega)
    refine ⟨_, rfl, .str z, true, rfl, by rw [← hb]; exact (thing_ok I hx6 isPt).ok, fun y ey _ H7 p7 q7 s7 hq7 hp7 => ?_, fun e => (nomatch e)⟩
    obtain rfl : z = y := V.str.inj ey
    refine Or.inl ⟨_, .list [.tuple ((parts z).map .str)], rfl, .lst (SqL.of hp7) (.cons (.tup (SqT.of hq7) (dp_strs _)) .nil), rk.sh, rk.nd, rk.dp, rk.ln, ?_⟩
    refine ⟨_, rfl, ⟨_, rfl⟩, z, c_sl, rfl, rfl, sl_ne, by omega, fun p hp => ⟨p, rfl, ⟨_, SqL.of upd_same⟩, fun D hD => ?_⟩⟩
    refine lc_filt (xs := (PySem.Txt.split z c_sl).map V.str) (fun v => !decide (v = V.str "")) (fun v => v) hD (SqL.of upd_same) ?_ ?_ ?_ ?_
    · rw [List.length_map]
      have := split_le z c_sl
      omega
    · intro v H1 R hv sm hR
      obtain ⟨z, _, rfl⟩ := List.mem_map.mp hv
      exact ⟨_, rfl, rfl, _, rfl, hR H1 (Same.refl H1)⟩
    · intro v H1 R hv _ sm hR
      exact ⟨_, rfl, hR H1 (Same.refl H1)⟩
    intro H8 s8 hD8
    rw [filt_bits, bits_parts hpt] at hD8
    refine ⟨D, _, rfl, Or.inl ⟨SqL.of hD8, fun l hl => ⟨by show 1 ≤ sizeLine; decide, fun pp hpp => ?_⟩⟩⟩
    refine Or.inl ⟨_, .list [.tuple ((parts z).map .str)], rfl, .lst (SqL.of upd_same) (.cons (.tup (SqT.of (same_new hpp _ _ upd_same)) (dp_strs _)) .nil), rk.sh, rk.nd, rk.dp, rk.ln, rfl, ?_⟩
    rw [decide_eq_true rfl]
    exact hq _ (((((S6.trans s7).trans (same_new hp)).trans s8).trans (same_new hl)).trans (same_new hpp))
end
end K1

set_option Elab.async false
set_option linter.all false
set_option maxRecDepth 100000
set_option maxHeartbeats 4000000
namespace K1
open PySem PySem.Spec PyProof.Rows L2 LF
abbrev s_law : Stmt := topS 55
theorem sc_law : FnScope ["_law_script", "_law_at", "_law_bag_here", "_law_turn"] ["_law_script"] (defScope s_law) := ⟨rfl, rfl, rfl, by decide +kernel, rfl, by decide +kernel, by decide +kernel⟩
section
variable {P : Program} {w : World} {K : PySem.W.Frag} {mg : Str → Option Value} {base : Heap} {tk1 tk2 : Tok}
theorem ok_law {f f1 f2 f3 f4 C : Addr} {fd fd1 fd2 fd3 fd4 : FuncData} (F : Fun K "law" "law" s_law f fd) (T : Txt K mg tk1 tk2)
    (d_bag : DefAt P w K mg base "_law_bag" 1 f1 fd1 ["_law_script", "_law_at"] (spBag K)) (d_text : DefAt P w K mg base "_law_text" 3 f2 fd2 ["_law_bag_here"] spText)
    (d_others : DefAt P w K mg base "_law_others" 9 f3 fd3 ["_law_bag_here"] (spOther K C)) (d_right : DefG P w K mg base "_law_right" 9 f4 fd4 ["_law_thing"] (spRight K C)) :
    FnG P w K mg base CX0 10 f fd ["_law_script"] (spLaw K) := by
  refine fnG_of F sc_law (fun vs H Q E h => ?_) (fun cdv A outer s H vs Q E gd hr h => ?_)
  · obtain ⟨a, ns, rfl, _⟩ := h
    rfl
  refine ⟨_, (pss_cons (ps_for (passes_of rfl) rfl (pi_range1 (by rfl) T.n_range (pa_cons (pe_callB (call_max2 rfl) (by rfl) T.n_max (by decide +kernel) (pa_cons pe_int (pa_cons (pe_callB (call_min2 rfl) (by rfl) T.n_min (by decide +kernel) (pa_cons pe_int (pa_cons (pe_callB call_len_seq (by rfl) T.n_len (by decide +kernel) (pa_cons (pv 0) pa_nil)) pa_nil))) pa_nil))) pa_nil)) (pg_name (i := 1) sc_law.nd rfl (Or.inl rfl)) (pss_cons (ps_set (i := 2) sc_law.nd rfl (Or.inl rfl) (pe_callD d_bag (hr.mono (by decide)) (pa_cons (pv 0) (pa_cons (pv 1) pa_nil))))
    (pss_one (ps_for (passes_of rfl) rfl (pi_range1 (by rfl) T.n_range (pa_cons pe_int pa_nil)) (pg_name (i := 3) sc_law.nd rfl (Or.inl rfl)) (pss_one (ps_if (PW.pt (pw_or (pt_not (pt_val (pe_callDG d_right gd (hr.mono (by decide)) (pa_cons (pe_callD d_text (hr.mono (by decide)) (pa_cons (pv 2) pa_nil)) pa_nil)))) (pw_or1 (pt_not (pt_val (pe_callDG d_right gd (hr.mono (by decide)) (pa_cons (pe_callD d_others (hr.mono (by decide)) (pa_cons (pv 2) pa_nil)) pa_nil))))))) (pss_one (ps_ret pe_bl)) pss_nil))))))
    (pss_one (ps_ret pe_bl))), ?_⟩
  obtain ⟨a, ns, rfl, hS, hlen, hq⟩ := h
  refine ⟨_, rfl, a, _, rfl, Or.inl hS, _, _, rfl, _, _, rfl, ?_⟩
  rw [List.length_map]
  have hm : ∃ m : Int, (if (if (ns.length : Int) < 5 then (ns.length : Int) else 5) > 2 then (if (ns.length : Int) < 5 then (ns.length : Int) else 5) else 2) = m ∧ 0 ≤ m ∧ m ≤ 5 := by
    refine ⟨_, rfl, ?_⟩
    split <;> split <;> omega
  obtain ⟨m, em, m0, m5⟩ := hm
  refine ⟨m, by rw [← em], by omega, by omega, for_range (lo := 0) (fun i σ H' => ∃ v1 v2 v3, σ = [some (.ref a), v1, v2, v3] ∧ SqL K H' a (ns.map V.int)) ⟨_, _, _, rfl, hS⟩ ?_ ?_⟩
  · rintro i σ H1 hi ⟨v1, v2, v3, rfl, hS1⟩
    refine ⟨_, rfl, _, rfl, a, _, ns, rfl, hS1, by omega, fun H2 b s2 hbn hb => ?_⟩
    refine ⟨12, rfl, by decide, by decide, for_range (lo := 0) (fun j σ H' => ∃ v, σ = [some (.ref a), some (.int (0 + (i : Int))), some (.ref b), v] ∧ Keep b H2 H' ∧ BagAt H' b) ⟨_, rfl, Keep.refl b H2, hb⟩ ?_ ?_⟩
    · rintro j σ H6 hj ⟨v, rfl, k6, b7⟩
      refine ⟨_, rfl, b, rfl, b7, fun H7 z k7 b8 hz hok => ?_⟩
      refine ⟨_, rfl, Or.inl ⟨z, rfl, by omega, hok⟩, fun H8 s8 => ⟨_, rfl, iteF ?_⟩⟩
      refine ⟨_, rfl, b, rfl, b8.same s8, fun H9 x k9 b10 hx => ?_⟩
      refine ⟨_, rfl, hx, fun H10 s10 => ⟨_, rfl, iteF ?_⟩⟩
      exact ⟨_, rfl, ((((k6.trans k7).trans (Same.keep s8)).trans k9).trans (Same.keep s10)), b10.same s10⟩
    · rintro σ H6 ⟨v, rfl, k6, b7⟩
      refine ⟨_, _, _, rfl, ?_⟩
      exact seq_keep_new hS1 hbn ((Same.keep s2).trans k6)
  · rintro σ H1 ⟨v1, v2, v3, rfl, _⟩
    exact hq H1
end
end K1

set_option Elab.async false
set_option linter.all false
set_option maxRecDepth 100000
set_option maxHeartbeats 4000000
namespace LF
open PySem PySem.Spec PyProof.Rows L2
/-- the heap at the law's entry: what a promise that is asked where no repr is under way gives -/
theorem lawG_call {P : Program} {w : World} {K : PySem.W.Frag} {mg mb : Str → Option Value} {k : Nat} {fa a : Addr} {fd : FuncData} {x : Str} {sp : Sp} {s1 : Shared} {us : List Value} {ns : List Int}
    (KX : K.In s1.heap) (hns : s1.heap.Ns mainGlobals mg) (hbn : s1.heap.Ns builtinsNs mb) (hbb : ∀ y : Str, y ≠ "__name__" → mb y = bootBuiltins y) (hlim : s1.heap.NoLimit) (hgens : s1.gens = #[])
    (ha : s1.heap.get? a = some { cls := .type "list", data := .seq us.toArray }) (hi : IntsAre us ns) (hl : ns.length ≤ sizeLine) (hr : Room k callerA)
    (F : ∀ base : Heap, K.In base → base.Ns mainGlobals mg → FnG P w K mg base CX0 k fa fd [x] sp)
    (hbind : ∀ (s : Shared) (u : Value), BindsTo s fd ⟨[u], []⟩ [(x, u)])
    (hsp : ∀ H : Hp, SqL K H a (ns.map V.int) → sp [.ref a] H (fun v _ => v = .bl true) (fun _ _ _ => False)) :
    codeAny (model P w) callerA (.call (.ref fa) ⟨[.ref a], []⟩)
      (fun r s' => r = .ok (.ret (.bool true)) ∧ OldK s1.heap s'.heap ∧ s'.os = s1.os ∧ AllBare s'.gens) s1 := by
  have hlv := hi.length
  -- from any abstract heap that tracks at most the script
  have main : ∀ H : Hp, (∀ b, H b = none ∨ ∃ o xs, H b = some (.frz o (.lst xs))) → SqL K H a (ns.map V.int) → HOk P w H s1.heap → (∀ b, H b ≠ none → b = a) → (H a ≠ none → K.lookup a = none) →
      codeAny (model P w) callerA (.call (.ref fa) ⟨[.ref a], []⟩)
        (fun r s' => r = .ok (.ret (.bool true)) ∧ OldK s1.heap s'.heap ∧ s'.os = s1.os ∧ AllBare s'.gens) s1 := by
    intro H only hS hok onlyA notK
    have dictFree : ∀ {b : Addr} {o : Obj} {es : Array DictEntry} {ep : Nat}, s1.heap.get? b = some o → o.data = .dict es ep → H b = none := by
      intro b o es ep e d
      cases q : H b with
      | none => rfl
      | some u =>
        have hb := onlyA b (by rw [q]; simp)
        rw [hb, ha] at e
        have e' := Option.some.inj e
        rw [← e'] at d
        cases d
    have nsH : ∀ {b : Addr} {m : Str → Option Value}, s1.heap.Ns b m → (hidT s1.heap H).Ns b m := by
      rintro b m ⟨o, es, ep, e, d, rest⟩
      exact ⟨o, es, ep, hidT_get e (dictFree e d), d, rest⟩
    have KH : K.In (hidT s1.heap H) := by
      intro b o e
      refine hidT_get (KX b o e) ?_
      cases q : H b with
      | none => rfl
      | some u =>
        have hb := onlyA b (by rw [q]; simp)
        subst hb
        have := notK (by rw [q]; simp)
        rw [this] at e
        cases e
    have lim2 : (hidT s1.heap H).NoLimit := by
      obtain ⟨mc, h1, h2⟩ := hlim
      exact ⟨mc, nsH h1, h2⟩
    have hM : Mod K mg (hidT s1.heap H) := ⟨KH, nsH hns, ⟨mb, nsH hbn, hbb⟩, lim2⟩
    have nof : ∀ b : Addr, b ∈ frs ([] : List Env) → False := fun b hb => nomatch (show b ∈ ([] : List Addr) from hb)
    have e0 : Env0 P w K mg (hidT s1.heap H) callerA [] s1 H :=
      ⟨rfl, hM, fun b o e => of_hidT e, Nat.le_of_eq (hidT_size _ _), trivial, fun b hb => (nof b hb).elim, hok, .of_eq hgens⟩
    have run := (F _ KH (nsH hns)).go callerA [] s1 H ⟨[.ref a], []⟩ [.ref a] [.ref a] _ _ rfl hr e0 (hbind s1 (.ref a)) (.cons rfl .nil) (hsp H hS)
    refine codeAny_mono run ?_
    intro r s' h
    cases r with
    | error e => exact h.elim
    | ok fl =>
      cases fl with
      | next => exact h.elim
      | brk => exact h.elim
      | cont => exact h.elim
      | ret u =>
        obtain ⟨v, H', hos, hbare, un, hok', hv, hq⟩ := h
        have hq' : v = V.bl true := hq
        subst hq'
        have hu : u = Value.bool true := hv
        subst hu
        refine ⟨rfl, OldK.of_keep ?_, hos, hbare⟩
        intro b o e
        rcases only b with q | ⟨ob, xs, q⟩
        · exact un.keep b o e q (fun z => nof b z) (fun z => nomatch z)
        · have g1 := (hok b _ q).1
          have g2 := (hok' b _ (un.frzs b ob _ q)).1
          rw [e] at g1
          rw [Option.some.inj g1]
          exact g2
  have rv := vals_ints hi
  cases hk : K.lookup a with
  | some o =>
    have e := KX a o hk
    rw [ha] at e
    have e' := Option.some.inj e
    subst e'
    refine main (fun _ => none) (fun _ => Or.inl rfl) (Or.inr ⟨_, us.toArray, _, hk, rfl, rfl, rfl, ?_, ?_⟩) (fun b u z => nomatch (show (none : Option HO) = some u from z)) (fun b z => absurd rfl z) (fun z => absurd rfl z)
    · rw [List.size_toArray, hlv]; exact hl
    · simpa using rv
  | none =>
    let O : Obj := { cls := .type "list", data := .seq us.toArray }
    have at1 : ∀ b : Addr, b = a → (fun c : Addr => if c = a then some (HO.frz O (.lst (ns.map V.int))) else none) b = some (HO.frz O (.lst (ns.map V.int))) := fun b hb => if_pos hb
    have at0 : ∀ b : Addr, b ≠ a → (fun c : Addr => if c = a then some (HO.frz O (.lst (ns.map V.int))) else none) b = none := fun b hb => if_neg hb
    refine main (fun c => if c = a then some (HO.frz O (.lst (ns.map V.int))) else none) ?_ (Or.inl (Or.inr ⟨O, at1 a rfl⟩)) ?_ ?_ (fun _ => hk)
    · intro b
      by_cases hb : b = a
      · exact Or.inr ⟨O, _, at1 b hb⟩
      · exact Or.inl (at0 b hb)
    · intro b u z
      by_cases hb : b = a
      · have z' := (at1 b hb).symm.trans z
        have z2 := Option.some.inj z'
        subst z2
        subst hb
        exact ⟨ha, by rw [List.length_map]; exact hl, us, _, rv, ha⟩
      · have z' := (at0 b hb).symm.trans z
        cases z'
    · intro b z
      by_cases hb : b = a
      · exact hb
      · exact absurd (at0 b hb) z
theorem walkG {l : PySem.W.OpenLaw} {n k : Nat} {q : Program} {loose : List Str} {XP : (Str → Option Value) → Heap → Prop} {YP : World → Heap → Prop} {d : DefRec} {K : Params → PySem.W.Frag} {sp : PySem.W.Frag → Sp} {x : Str}
    (hn : l.most = some n) (hn2 : n ≤ sizeLine) (hdf : d.params.defaults = []) (hr : Room k callerA) (hY : ∀ (w : World) (h : Heap), YP w h → (K w.params).In h)
    (F : ∀ (w : World) (mg : Str → Option Value) (fa : Addr) (h : Heap), (K w.params).In h → h.Ns mainGlobals mg → mg d.name = some (.ref fa) →
      ∃ fd : FuncData, (∀ (s : Shared) (u : Value), BindsTo s fd ⟨[u], []⟩ [(x, u)]) ∧
        ∀ base : Heap, (K w.params).In base → base.Ns mainGlobals mg → FnG l.prog w (K w.params) mg base CX0 k fa fd [x] (sp (K w.params)))
    (hsp : ∀ (K : PySem.W.Frag) (H : Hp) (a : Addr) (ns : List Int), ns.length ≤ n → SqL K H a (ns.map V.int) → sp K [.ref a] H (fun v _ => v = .bl true) (fun _ _ _ => False)) :
    PySem.W.WalkO q loose XP YP l.row.toRowW d [] (fun f vs => PySem.call f vs) := by
  refine Att.attach_call hn hdf ?_
  intro w s₀ s₁ mg mb fa o pm cd doc a us ns G Y ho hd hcd hmg hobj hints hlen hgens
  have KX := hY w _ Y
  obtain ⟨fd, hb, hF⟩ := F w mg fa _ KX G.T.g hmg
  exact lawG_call KX G.T.g G.T.b G.T.builtins G.T.nolimit hgens hobj hints (Nat.le_trans hlen hn2) hr hF hb (fun H hS => hsp _ H a ns hlen hS)
end LF

set_option Elab.async false
set_option linter.all false
set_option maxRecDepth 100000
set_option maxHeartbeats 4000000
namespace K1
open PySem PySem.Spec PyProof.Rows L2 LF
theorem exm_self {K : PySem.W.Frag} {S : Addr} (h1 : PySem.W.subIn K (.ref S) (.type "BaseException") = some true) (h2 : PySem.W.isClsIn K S = true) (h3 : PySem.W.typeIn K (.ref S) = some (.type "type")) (h4 : PySem.W.subIn K (.ref S) (.ref S) = some true) :
    PySem.W.exmOne K (.ref S) (.ref S) = some true := by
  have e1 : (PySem.W.subIn K (.ref S) (.type "BaseException") == some true) = true := by rw [h1] <;> rfl
  have e2 : ((PySem.W.clsIn K S).isSome && PySem.W.typeIn K (.ref S) == some (.type "type")) = true := by
    have h2' : (PySem.W.clsIn K S).isSome = true := h2
    rw [h2', h3] <;> rfl
  show (if (PySem.W.subIn K (.ref S) (.type "BaseException") == some true) = true then (if ((PySem.W.clsIn K S).isSome && PySem.W.typeIn K (.ref S) == some (.type "type")) = true then PySem.W.subIn K (.ref S) (.ref S) else none) else none) = some true
  rw [if_pos e1, if_pos e2]
  exact h4
theorem all_mk {P : Program} {w : World} {K : PySem.W.Frag} {h : Heap} {mg : Str → Option Value} {fa CN CP CT CK fI TD f0 f1 f2 f3 f4 f5 f6 f7 f8 f9 f10 f11 f12 f13 f14 f15 f16 f17 f18 f19 g1 g2 g3 g4 g5 p2 p3 p4 : Addr} (X : K.In h) (G : h.Ns mainGlobals mg) (hfa : mg "law" = some (.ref fa))
    {nm q : Str} {N : Addr} {bs : List Value} {sn : List Str} {sub : List Value} {ab : Bool} {col : Option Bool} {dd : Option Addr} {m0 m1 m2 m3 m5 : Option Value} {tk2 tkL : Tok} {nT : Nat} {r2 r3 r4 : List Value}
    {od0 an0 od1 an1 od2 an2 od3 an3 od4 an4 od5 an5 od6 an6 od7 an7 od8 an8 od9 an9 od10 an10 od11 an11 od12 an12 od13 an13 od14 an14 od15 an15 od16 an16 od17 an17 od18 an18 od19 an19 odp1 anp1 odp2 anp2 odp3 anp3 odp4 anp4 odp5 anp5 odI anI odT : Option Addr} {sl0 sl1 sl2 sl3 sl4 sl5 sl6 sl7 sl8 sl9 sl10 sl11 sl12 sl13 sl14 sl15 sl16 sl17 sl18 sl19 slp1 slp2 slp3 slp4 slp5 slI slT : Array (Option Value)} {oc0 dc0 pm0 cd0 ct0 oc1 kV1 dc1 pm1 cd1 ct1 oc2 kV2 dc2 pm2 cd2 ct2 oc3 kV3 dc3 pm3 cd3 ct3 oc4 kV4 dc4 pm4 cd4 ct4 oc5 kV5 dc5 pm5 cd5 ct5 oc6 kV6 dc6 pm6 cd6 ct6 oc7 kV7 dc7 pm7 cd7 ct7 oc8 kV8 dc8 pm8 cd8 ct8 oc9 kV9 dc9 pm9 cd9 ct9 oc10 kV10 dc10 pm10 cd10 ct10 oc11 kV11 dc11 pm11 cd11 ct11 oc12 kV12 dc12 pm12 cd12 ct12 oc13 kV13 dc13 pm13 cd13 ct13 oc14 kV14 dc14 pm14 cd14 ct14 oc15 kV15 dc15 pm15 cd15 ct15 oc16 kV16 dc16 pm16 cd16 ct16 oc17 kV17 dc17 pm17 cd17 ct17 oc18 kV18 dc18 pm18 cd18 ct18 oc19 kV19 dc19 pm19 cd19 ct19 ocp1 kVp1 dcp1 pmp1 cdp1 ctp1 ocp2 kVp2 dcp2 pmp2 cdp2 ctp2 ocp3 kVp3 dcp3 pmp3 cdp3 ctp3 ocp4 kVp4 dcp4 pmp4 cdp4 ctp4 ocp5 kVp5 dcp5 pmp5 cdp5 ctp5 ocI kVI dcI pmI cdI ctI ocT : Value}
    {x1f x2f CTk CNb fNb : Addr} {x1oc x1kV x1dc x1pm x1cd x1ct x2oc x2kV x2dc x2pm x2cd x2ct ocNb kVNb dcNb pmNb cdNb ctNb : Value} {x1od x1an x2od x2an odNb anNb : Option Addr} {x1sl x2sl slNb : Array (Option Value)}
    (aP : PySem.W.nsIn K mainGlobals "BadPath" = some (some (.ref CP)))
    (aN : PySem.W.nsIn K mainGlobals "BadName" = some (some (.ref CN)))
    (aE : PySem.W.nsIn K mainGlobals "BadText" = some (some (.ref CT)))
    (xN : K.lookup CP = some (excClassObj nm q CP N bs [.type "ValueError", .type "Exception", .type "BaseException", .type "object"] true sn sub ab col dd m0 m1 m2 m3 m5 "ValueError.__new__"))
    (sa : PySem.W.findIn K (.ref CP) "__setattr__" = some (some (.builtin "object.__setattr__")))
    (ga : PySem.W.findIn K (.ref CP) "__getattribute__" = some (some (.builtin "BaseException.__getattribute__")))
    (gg : PySem.W.findIn K (.ref CP) "__getattr__" = some none)
    (nb : PySem.W.findIn K (.ref CP) "path" = some none)
    (a0 : PySem.W.findIn K (.ref CP) "__init__" = some (some (.ref f0)))
    (t0 : PySem.W.typeIn K (.ref f0) = some (.type "function"))
    (l0 : K.lookup f0 = some ⟨oc0, od0, .func (PySem.W.fnOf "__init__" "BadPath.__init__" (PySem.BadPathX.iA ⟨7, 17, 7, 21⟩ ⟨7, 23, 7, 27⟩) (PySem.BadPathX.iB ⟨8, 8, 8, 12⟩ ⟨8, 8, 8, 17⟩ ⟨8, 20, 8, 24⟩ ⟨8, 8, 8, 24⟩) PySem.BadPathX.iS .none .none dc0 pm0 an0 cd0 ct0), sl0⟩)
    (c0 : PySem.W.codeIn K cd0 "BadPath.__init__" = true)
    (kN : PySem.W.keepIn K (.ref CP) = true)
    (eN : PySem.W.subIn K (.ref CP) (.type "BaseException") = some true)
    (tN : PySem.W.typeIn K (.ref CP) = some (.type "type"))
    (hN : PySem.W.hasDictIn K CP = true)
    (iN : PySem.W.isClsIn K CP = true)
    (sN : PySem.W.subIn K (.ref CP) (.ref CP) = some true)
    (haN : PySem.W.findIn K (.ref CP) "__class__" = some (some (.builtin "object.__class__")))
    (hnN : PySem.W.specialIn K (.builtin "object.__class__") "__get__" = some (some (.builtin "getset_descriptor.__get__")))
    (htN : PySem.W.takesIn K (.builtin "object.__class__") = some true)
    (hmN : PySem.W.mroIn K CP (.type "object") = some true)
    (kVE : PySem.W.kitOne K (.ref CP) (.type "ValueError") = some true)
    (kPE : PySem.W.kitAny K (.ref CP) [.ref CN, .ref CT] = some false)
    (zLon : PySem.W.nsIn K mainGlobals "LONGEST_NAME" = some (some (.int 8 tk2)))
    (z_isinstance : PySem.W.nsIn K mainGlobals "isinstance" = some none)
    (z_str : PySem.W.nsIn K mainGlobals "str" = some none)
    (z_len : PySem.W.nsIn K mainGlobals "len" = some none)
    (z_all : PySem.W.nsIn K mainGlobals "all" = some none)
    (z_any : PySem.W.nsIn K mainGlobals "any" = some none)
    (z_tuple : PySem.W.nsIn K mainGlobals "tuple" = some none)
    (z_list : PySem.W.nsIn K mainGlobals "list" = some none)
    (z_dict : PySem.W.nsIn K mainGlobals "dict" = some none)
    (z_sorted : PySem.W.nsIn K mainGlobals "sorted" = some none)
    (z_range : PySem.W.nsIn K mainGlobals "range" = some none)
    (z_abs : PySem.W.nsIn K mainGlobals "abs" = some none)
    (z_int : PySem.W.nsIn K mainGlobals "int" = some none)
    (z_bool : PySem.W.nsIn K mainGlobals "bool" = some none)
    (z_repr : PySem.W.nsIn K mainGlobals "repr" = some none)
    (z_max : PySem.W.nsIn K mainGlobals "max" = some none)
    (z_min : PySem.W.nsIn K mainGlobals "min" = some none)
    (z_ValueError : PySem.W.nsIn K mainGlobals "ValueError" = some none)
    (a1 : PySem.W.nsIn K mainGlobals "is_name" = some (some (.ref f1)))
    (l1 : K.lookup f1 = some ⟨oc1, od1, .func (PySem.W.fnOf "is_name" "is_name" (defArgs s_is_name) (defBody s_is_name) (defScope s_is_name) .none kV1 dc1 pm1 an1 cd1 ct1), sl1⟩)
    (c1 : PySem.W.codeIn K cd1 "is_name" = true)
    (k1 : PySem.W.keepIn K (.ref f1) = true)
    (a2 : PySem.W.nsIn K mainGlobals "is_path" = some (some (.ref f2)))
    (l2 : K.lookup f2 = some ⟨oc2, od2, .func (PySem.W.fnOf "is_path" "is_path" (defArgs s_is_path) (defBody s_is_path) (defScope s_is_path) .none kV2 dc2 pm2 an2 cd2 ct2), sl2⟩)
    (c2 : PySem.W.codeIn K cd2 "is_path" = true)
    (k2 : PySem.W.keepIn K (.ref f2) = true)
    (a3 : PySem.W.nsIn K mainGlobals "check_path" = some (some (.ref f3)))
    (l3 : K.lookup f3 = some ⟨oc3, od3, .func (PySem.W.fnOf "check_path" "check_path" (defArgs s_check_path) (defBody s_check_path) (defScope s_check_path) .none kV3 dc3 pm3 an3 cd3 ct3), sl3⟩)
    (c3 : PySem.W.codeIn K cd3 "check_path" = true)
    (k3 : PySem.W.keepIn K (.ref f3) = true)
    (a4 : PySem.W.nsIn K mainGlobals "names_of" = some (some (.ref f4)))
    (l4 : K.lookup f4 = some ⟨oc4, od4, .func (PySem.W.fnOf "names_of" "names_of" (defArgs s_names_of) (defBody s_names_of) (defScope s_names_of) .none kV4 dc4 pm4 an4 cd4 ct4), sl4⟩)
    (c4 : PySem.W.codeIn K cd4 "names_of" = true)
    (k4 : PySem.W.keepIn K (.ref f4) = true)
    (a5 : PySem.W.nsIn K mainGlobals "in_order" = some (some (.ref f5)))
    (l5 : K.lookup f5 = some ⟨oc5, od5, .func (PySem.W.fnOf "in_order" "in_order" (defArgs s_in_order) (defBody s_in_order) (defScope s_in_order) .none kV5 dc5 pm5 an5 cd5 ct5), sl5⟩)
    (c5 : PySem.W.codeIn K cd5 "in_order" = true)
    (k5 : PySem.W.keepIn K (.ref f5) = true)
    (a6 : PySem.W.nsIn K mainGlobals "split_path" = some (some (.ref f6)))
    (l6 : K.lookup f6 = some ⟨oc6, od6, .func (PySem.W.fnOf "split_path" "split_path" (defArgs s_split_path) (defBody s_split_path) (defScope s_split_path) .none kV6 dc6 pm6 an6 cd6 ct6), sl6⟩)
    (c6 : PySem.W.codeIn K cd6 "split_path" = true)
    (k6 : PySem.W.keepIn K (.ref f6) = true)
    (a7 : PySem.W.nsIn K mainGlobals "order_key" = some (some (.ref f7)))
    (l7 : K.lookup f7 = some ⟨oc7, od7, .func (PySem.W.fnOf "order_key" "order_key" (defArgs s_order_key) (defBody s_order_key) (defScope s_order_key) .none kV7 dc7 pm7 an7 cd7 ct7), sl7⟩)
    (c7 : PySem.W.codeIn K cd7 "order_key" = true)
    (k7 : PySem.W.keepIn K (.ref f7) = true)
    (a8 : PySem.W.nsIn K mainGlobals "check_entries" = some (some (.ref f8)))
    (l8 : K.lookup f8 = some ⟨oc8, od8, .func (PySem.W.fnOf "check_entries" "check_entries" (defArgs s_check_entries) (defBody s_check_entries) (defScope s_check_entries) .none kV8 dc8 pm8 an8 cd8 ct8), sl8⟩)
    (c8 : PySem.W.codeIn K cd8 "check_entries" = true)
    (k8 : PySem.W.keepIn K (.ref f8) = true)
    (a9 : PySem.W.nsIn K mainGlobals "with_parents" = some (some (.ref f9)))
    (l9 : K.lookup f9 = some ⟨oc9, od9, .func (PySem.W.fnOf "with_parents" "with_parents" (defArgs s_with_parents) (defBody s_with_parents) (defScope s_with_parents) .none kV9 dc9 pm9 an9 cd9 ct9), sl9⟩)
    (c9 : PySem.W.codeIn K cd9 "with_parents" = true)
    (k9 : PySem.W.keepIn K (.ref f9) = true)
    (a10 : PySem.W.nsIn K mainGlobals "_law_bag" = some (some (.ref f10)))
    (l10 : K.lookup f10 = some ⟨oc10, od10, .func (PySem.W.fnOf "_law_bag" "_law_bag" (defArgs s_bag) (defBody s_bag) (defScope s_bag) .none kV10 dc10 pm10 an10 cd10 ct10), sl10⟩)
    (c10 : PySem.W.codeIn K cd10 "_law_bag" = true)
    (k10 : PySem.W.keepIn K (.ref f10) = true)
    (a11 : PySem.W.nsIn K mainGlobals "_law_take" = some (some (.ref f11)))
    (l11 : K.lookup f11 = some ⟨oc11, od11, .func (PySem.W.fnOf "_law_take" "_law_take" (defArgs s_take) (defBody s_take) (defScope s_take) .none kV11 dc11 pm11 an11 cd11 ct11), sl11⟩)
    (c11 : PySem.W.codeIn K cd11 "_law_take" = true)
    (k11 : PySem.W.keepIn K (.ref f11) = true)
    (a12 : PySem.W.nsIn K mainGlobals "_law_pick" = some (some (.ref f12)))
    (l12 : K.lookup f12 = some ⟨oc12, od12, .func (PySem.W.fnOf "_law_pick" "_law_pick" (defArgs s_pick) (defBody s_pick) (defScope s_pick) .none kV12 dc12 pm12 an12 cd12 ct12), sl12⟩)
    (c12 : PySem.W.codeIn K cd12 "_law_pick" = true)
    (k12 : PySem.W.keepIn K (.ref f12) = true)
    (a13 : PySem.W.nsIn K mainGlobals "_law_is_name" = some (some (.ref f13)))
    (l13 : K.lookup f13 = some ⟨oc13, od13, .func (PySem.W.fnOf "_law_is_name" "_law_is_name" (defArgs s__law_is_name) (defBody s__law_is_name) (defScope s__law_is_name) .none kV13 dc13 pm13 an13 cd13 ct13), sl13⟩)
    (c13 : PySem.W.codeIn K cd13 "_law_is_name" = true)
    (k13 : PySem.W.keepIn K (.ref f13) = true)
    (a14 : PySem.W.nsIn K mainGlobals "_law_is_path" = some (some (.ref f14)))
    (l14 : K.lookup f14 = some ⟨oc14, od14, .func (PySem.W.fnOf "_law_is_path" "_law_is_path" (defArgs s__law_is_path) (defBody s__law_is_path) (defScope s__law_is_path) .none kV14 dc14 pm14 an14 cd14 ct14), sl14⟩)
    (c14 : PySem.W.codeIn K cd14 "_law_is_path" = true)
    (k14 : PySem.W.keepIn K (.ref f14) = true)
    (a15 : PySem.W.nsIn K mainGlobals "_law_text" = some (some (.ref f15)))
    (l15 : K.lookup f15 = some ⟨oc15, od15, .func (PySem.W.fnOf "_law_text" "_law_text" (defArgs s__law_text) (defBody s__law_text) (defScope s__law_text) .none kV15 dc15 pm15 an15 cd15 ct15), sl15⟩)
    (c15 : PySem.W.codeIn K cd15 "_law_text" = true)
    (k15 : PySem.W.keepIn K (.ref f15) = true)
    (a16 : PySem.W.nsIn K mainGlobals "_law_others" = some (some (.ref f16)))
    (l16 : K.lookup f16 = some ⟨oc16, od16, .func (PySem.W.fnOf "_law_others" "_law_others" (defArgs s__law_others) (defBody s__law_others) (defScope s__law_others) .none kV16 dc16 pm16 an16 cd16 ct16), sl16⟩)
    (c16 : PySem.W.codeIn K cd16 "_law_others" = true)
    (k16 : PySem.W.keepIn K (.ref f16) = true)
    (a17 : PySem.W.nsIn K mainGlobals "_law_told" = some (some (.ref f17)))
    (l17 : K.lookup f17 = some ⟨oc17, od17, .func (PySem.W.fnOf "_law_told" "_law_told" (defArgs s__law_told) (defBody s__law_told) (defScope s__law_told) .none kV17 dc17 pm17 an17 cd17 ct17), sl17⟩)
    (c17 : PySem.W.codeIn K cd17 "_law_told" = true)
    (k17 : PySem.W.keepIn K (.ref f17) = true)
    (a18 : PySem.W.nsIn K mainGlobals "_law_right" = some (some (.ref f18)))
    (l18 : K.lookup f18 = some ⟨oc18, od18, .func (PySem.W.fnOf "_law_right" "_law_right" (defArgs s__law_right) (defBody s__law_right) (defScope s__law_right) .none kV18 dc18 pm18 an18 cd18 ct18), sl18⟩)
    (c18 : PySem.W.codeIn K cd18 "_law_right" = true)
    (k18 : PySem.W.keepIn K (.ref f18) = true)
    (a19 : PySem.W.nsIn K mainGlobals "law" = some (some (.ref f19)))
    (l19 : K.lookup f19 = some ⟨oc19, od19, .func (PySem.W.fnOf "law" "law" (defArgs s_law) (defBody s_law) (defScope s_law) .none kV19 dc19 pm19 an19 cd19 ct19), sl19⟩)
    (c19 : PySem.W.codeIn K cd19 "law" = true)
    (k19 : PySem.W.keepIn K (.ref f19) = true)
    (aK : PySem.W.nsIn K mainGlobals "Package" = some (some (.ref CK)))
    (pg : PySem.W.plainGet K CK Str.empty = true)
    (hd : PySem.W.hasDictIn K CK = true)
    (po : PySem.W.plainOver K CK = true)
    (saK : PySem.W.findIn K (.ref CK) "__setattr__" = some (some (.builtin "object.__setattr__")))
    (mkK : PySem.W.makesIn K CK = true)
    (kcK : PySem.W.keepIn K (.ref CK) = true)
    (nE : PySem.W.findIn K (.ref CK) "entries" = some none)
    (aL : PySem.W.findIn K (.ref CK) "LIMIT" = some (some (.int 40 tkL)))
    (gL : PySem.W.specialIn K (.int 40 tkL) "__get__" = some none)
    (haK : PySem.W.findIn K (.ref CK) "__class__" = some (some (.builtin "object.__class__")))
    (hmK : PySem.W.mroIn K CK (.type "object") = some true)
    (kS : PySem.W.kitOne K (.ref CK) (.type "str") = some false)
    (aI : PySem.W.findIn K (.ref CK) "__init__" = some (some (.ref fI)))
    (iI : PySem.W.isFn K (.ref fI) = true)
    (lI : K.lookup fI = some ⟨ocI, odI, .func (PySem.W.fnOf "__init__" "Package.__init__" (defArgs s_init) (defBody s_init) (defScope s_init) (.ref TD) kVI dcI pmI anI cdI ctI), slI⟩)
    (cI : PySem.W.codeIn K cdI "Package.__init__" = true)
    (kI : PySem.W.keepIn K (.ref fI) = true)
    (lT : K.lookup TD = some ⟨ocT, odT, .seq #[.none] nT, slT⟩)
    (ap1 : PySem.W.findIn K (.ref CK) "paths_of" = some (some (.ref g1)))
    (ip1 : PySem.W.isFn K (.ref g1) = true)
    (lp1 : K.lookup g1 = some ⟨ocp1, odp1, .func (PySem.W.fnOf "paths_of" "Package.paths_of" (defArgs s_paths_of) (defBody s_paths_of) (defScope s_paths_of) .none kVp1 dcp1 pmp1 anp1 cdp1 ctp1), slp1⟩)
    (cp1 : PySem.W.codeIn K cdp1 "Package.paths_of" = true)
    (kp1 : PySem.W.keepIn K (.ref g1) = true)
    (ap2 : PySem.W.findIn K (.ref CK) "files" = some (some (.ref p2)))
    (gp2 : PySem.W.specialIn K (.ref p2) "__get__" = some (some (.builtin "property.__get__")))
    (tp2 : PySem.W.takesIn K (.ref p2) = some true)
    (rp2 : PySem.W.recIn K p2 "property" = some (.ref g2 :: r2))
    (lp2 : K.lookup g2 = some ⟨ocp2, odp2, .func (PySem.W.fnOf "files" "Package.files" (defArgs s_files) (defBody s_files) (defScope s_files) .none kVp2 dcp2 pmp2 anp2 cdp2 ctp2), slp2⟩)
    (cp2 : PySem.W.codeIn K cdp2 "Package.files" = true)
    (kp2 : PySem.W.keepIn K (.ref g2) = true)
    (ap3 : PySem.W.findIn K (.ref CK) "folders" = some (some (.ref p3)))
    (gp3 : PySem.W.specialIn K (.ref p3) "__get__" = some (some (.builtin "property.__get__")))
    (tp3 : PySem.W.takesIn K (.ref p3) = some true)
    (rp3 : PySem.W.recIn K p3 "property" = some (.ref g3 :: r3))
    (lp3 : K.lookup g3 = some ⟨ocp3, odp3, .func (PySem.W.fnOf "folders" "Package.folders" (defArgs s_folders) (defBody s_folders) (defScope s_folders) .none kVp3 dcp3 pmp3 anp3 cdp3 ctp3), slp3⟩)
    (cp3 : PySem.W.codeIn K cdp3 "Package.folders" = true)
    (kp3 : PySem.W.keepIn K (.ref g3) = true)
    (ap4 : PySem.W.findIn K (.ref CK) "references" = some (some (.ref p4)))
    (gp4 : PySem.W.specialIn K (.ref p4) "__get__" = some (some (.builtin "property.__get__")))
    (tp4 : PySem.W.takesIn K (.ref p4) = some true)
    (rp4 : PySem.W.recIn K p4 "property" = some (.ref g4 :: r4))
    (lp4 : K.lookup g4 = some ⟨ocp4, odp4, .func (PySem.W.fnOf "references" "Package.references" (defArgs s_references) (defBody s_references) (defScope s_references) .none kVp4 dcp4 pmp4 anp4 cdp4 ctp4), slp4⟩)
    (cp4 : PySem.W.codeIn K cdp4 "Package.references" = true)
    (kp4 : PySem.W.keepIn K (.ref g4) = true)
    (ap5 : PySem.W.findIn K (.ref CK) "__repr__" = some (some (.ref g5)))
    (ip5 : PySem.W.isFn K (.ref g5) = true)
    (lp5 : K.lookup g5 = some ⟨ocp5, odp5, .func (PySem.W.fnOf "__repr__" "Package.__repr__" (defArgs s_repr) (defBody s_repr) (defScope s_repr) .none kVp5 dcp5 pmp5 anp5 cdp5 ctp5), slp5⟩)
    (cp5 : PySem.W.codeIn K cdp5 "Package.__repr__" = true)
    (kp5 : PySem.W.keepIn K (.ref g5) = true)
    (x1a : PySem.W.nsIn K mainGlobals "solid_entries" = some (some (.ref x1f)))
    (x1l : K.lookup x1f = some ⟨x1oc, x1od, .func (PySem.W.fnOf "solid_entries" "solid_entries" (defArgs s_solid_entries) (defBody s_solid_entries) (defScope s_solid_entries) .none x1kV x1dc x1pm x1an x1cd x1ct), x1sl⟩)
    (x1c : PySem.W.codeIn K x1cd "solid_entries" = true)
    (x1k : PySem.W.keepIn K (.ref x1f) = true)
    (x2a : PySem.W.nsIn K mainGlobals "names_within" = some (some (.ref x2f)))
    (x2l : K.lookup x2f = some ⟨x2oc, x2od, .func (PySem.W.fnOf "names_within" "names_within" (defArgs s_names_within) (defBody s_names_within) (defScope s_names_within) .none x2kV x2dc x2pm x2an x2cd x2ct), x2sl⟩)
    (x2c : PySem.W.codeIn K x2cd "names_within" = true)
    (x2k : PySem.W.keepIn K (.ref x2f) = true)
    (naS : PySem.W.findIn K (.ref CK) "solid" = some none)
    (naR : PySem.W.findIn K (.ref CK) "rooms" = some none)
    (naT : PySem.W.findIn K (.ref CK) "token" = some none)
    (naN : PySem.W.findIn K (.ref CK) "notes" = some none)
    (q_ta : PySem.W.nsIn K mainGlobals "Token" = some (some (.ref CTk)))
    (q_tm : PySem.W.makesIn K CTk = true)
    (q_ti : PySem.W.findIn K (.ref CTk) "__init__" = some (some (.builtin "object.__init__")))
    (q_tk : PySem.W.keepIn K (.ref CTk) = true)
    (q_na : PySem.W.nsIn K mainGlobals "Notebook" = some (some (.ref CNb)))
    (q_nm : PySem.W.makesIn K CNb = true)
    (q_ni : PySem.W.findIn K (.ref CNb) "__init__" = some (some (.ref fNb)))
    (q_nf : PySem.W.isFn K (.ref fNb) = true)
    (q_nk : PySem.W.keepIn K (.ref CNb) = true)
    (q_nl : K.lookup fNb = some ⟨ocNb, odNb, .func (PySem.W.fnOf "__init__" "Notebook.__init__" (defArgs s_ninit) (defBody s_ninit) (defScope s_ninit) .none kVNb dcNb pmNb anNb cdNb ctNb), slNb⟩)
    (q_nc : PySem.W.codeIn K cdNb "Notebook.__init__" = true)
    (q_nkf : PySem.W.keepIn K (.ref fNb) = true)
    (q_npg : PySem.W.plainGet K CNb Str.empty = true)
    (q_nhd : PySem.W.hasDictIn K CNb = true)
    (q_npo : PySem.W.plainOver K CNb = true)
    (q_nsa : PySem.W.findIn K (.ref CNb) "__setattr__" = some (some (.builtin "object.__setattr__")))
    (q_nrw : PySem.W.findIn K (.ref CNb) "rows" = some none) :
    ∃ fd : FuncData, (∀ (s : Shared) (u : Value), BindsTo s fd ⟨[u], []⟩ [("_law_script", u)]) ∧ ∀ base : Heap, K.In base → base.Ns mainGlobals mg → FnG P w K mg base CX0 10 fa fd ["_law_script"] (spLaw K) := by
  have e := hfa.symm.trans (PySem.W.mg_of X G a19)
  cases e
  have low : PySem.BadPathX.PathTxt K mg CP f0 :=
    { gC := PySem.W.mg_of X G aP, cls := ⟨nm, q, N, bs, _, sn, sub, ab, col, dd, m0, m1, m2, m3, m5, xN, by decide +kernel⟩, sa := sa, ga := ga, gg := gg, noN := nb, iC := a0, tC := t0, kC := kN, exC := eN, tyC := tN, hdC := hN, te := exm_self eN iN tN sN,
      fn := ⟨_, _, _, _, _, _, _, _, _, _, _, _, _, _, l0, c0⟩ }
  have R : ErrTxt K mg CP f0 CN CT := ⟨low, ⟨ga, gg, eN, hN, haN, hnN, htN, hmN⟩, PySem.W.mg_of X G aN, PySem.W.mg_of X G aE, kVE, kPE⟩
  have T : Txt K mg tk2 tk2 := ⟨PySem.W.mg_of X G zLon, PySem.W.mg_none_of X G z_isinstance, PySem.W.mg_none_of X G z_str, PySem.W.mg_none_of X G z_len, PySem.W.mg_none_of X G z_all, PySem.W.mg_none_of X G z_any, PySem.W.mg_none_of X G z_tuple, PySem.W.mg_none_of X G z_list, PySem.W.mg_none_of X G z_dict, PySem.W.mg_none_of X G z_sorted, PySem.W.mg_none_of X G z_range, PySem.W.mg_none_of X G z_abs, PySem.W.mg_none_of X G z_int, PySem.W.mg_none_of X G z_bool, PySem.W.mg_none_of X G z_repr, PySem.W.mg_none_of X G z_max, PySem.W.mg_none_of X G z_min, PySem.W.mg_none_of X G z_ValueError⟩
  have cl : Cls K CK := ⟨pg, hd, po, saK⟩
  have PT : PkTxt K mg CK := ⟨cl, nE, PySem.W.mg_of X G aK, ⟨tkL, aL, ⟨_, rfl⟩, gL, by decide +kernel⟩, naS, naR, naT, naN⟩
  have PI : PkIs K CK := ⟨cl, haK, hnN, htN, hmK, kS⟩
  have x1F := fun_mk (st := s_solid_entries) x1l x1c x1k
  have x1b := x1F.binds (ps := ["entries"]) fun _ _ _ _ _ _ us hl => match us, hl with | [_], _ => rfl
  have x2F := fun_mk (st := s_names_within) x2l x2c x2k
  have x2b := x2F.binds (ps := ["entries"]) fun _ _ _ _ _ _ us hl => match us, hl with | [_], _ => rfl
  have FNb := fun_mk (st := s_ninit) q_nl q_nc q_nkf
  have bNb := FNb.binds (ps := ["self"]) fun _ _ _ _ _ _ us hl => match us, hl with | [_], _ => rfl
  have F1 := fun_mk (st := s_is_name) l1 c1 k1
  have b1 := F1.binds (ps := ["thing"]) fun _ _ _ _ _ _ us hl => match us, hl with | [_], _ => rfl
  have F2 := fun_mk (st := s_is_path) l2 c2 k2
  have b2 := F2.binds (ps := ["thing"]) fun _ _ _ _ _ _ us hl => match us, hl with | [_], _ => rfl
  have F3 := fun_mk (st := s_check_path) l3 c3 k3
  have b3 := F3.binds (ps := ["path"]) fun _ _ _ _ _ _ us hl => match us, hl with | [_], _ => rfl
  have F4 := fun_mk (st := s_names_of) l4 c4 k4
  have b4 := F4.binds (ps := ["path"]) fun _ _ _ _ _ _ us hl => match us, hl with | [_], _ => rfl
  have F5 := fun_mk (st := s_in_order) l5 c5 k5
  have b5 := F5.binds (ps := ["paths"]) fun _ _ _ _ _ _ us hl => match us, hl with | [_], _ => rfl
  have F6 := fun_mk (st := s_split_path) l6 c6 k6
  have b6 := F6.binds (ps := ["path"]) fun _ _ _ _ _ _ us hl => match us, hl with | [_], _ => rfl
  have F7 := fun_mk (st := s_order_key) l7 c7 k7
  have b7 := F7.binds (ps := ["path"]) fun _ _ _ _ _ _ us hl => match us, hl with | [_], _ => rfl
  have F8 := fun_mk (st := s_check_entries) l8 c8 k8
  have b8 := F8.binds (ps := ["entries"]) fun _ _ _ _ _ _ us hl => match us, hl with | [_], _ => rfl
  have F9 := fun_mk (st := s_with_parents) l9 c9 k9
  have b9 := F9.binds (ps := ["entries"]) fun _ _ _ _ _ _ us hl => match us, hl with | [_], _ => rfl
  have F10 := fun_mk (st := s_bag) l10 c10 k10
  have b10 := F10.binds (ps := ["_law_script", "_law_at"]) fun _ _ _ _ _ _ us hl => match us, hl with | [_, _], _ => rfl
  have F11 := fun_mk (st := s_take) l11 c11 k11
  have b11 := F11.binds (ps := ["_law_bag_here", "_law_many"]) fun _ _ _ _ _ _ us hl => match us, hl with | [_, _], _ => rfl
  have F12 := fun_mk (st := s_pick) l12 c12 k12
  have b12 := F12.binds (ps := ["_law_bag_here", "_law_some"]) fun _ _ _ _ _ _ us hl => match us, hl with | [_, _], _ => rfl
  have F13 := fun_mk (st := s__law_is_name) l13 c13 k13
  have b13 := F13.binds (ps := ["_law_thing"]) fun _ _ _ _ _ _ us hl => match us, hl with | [_], _ => rfl
  have F14 := fun_mk (st := s__law_is_path) l14 c14 k14
  have b14 := F14.binds (ps := ["_law_thing"]) fun _ _ _ _ _ _ us hl => match us, hl with | [_], _ => rfl
  have F15 := fun_mk (st := s__law_text) l15 c15 k15
  have b15 := F15.binds (ps := ["_law_bag_here"]) fun _ _ _ _ _ _ us hl => match us, hl with | [_], _ => rfl
  have F16 := fun_mk (st := s__law_others) l16 c16 k16
  have b16 := F16.binds (ps := ["_law_bag_here"]) fun _ _ _ _ _ _ us hl => match us, hl with | [_], _ => rfl
  have F17 := fun_mk (st := s__law_told) l17 c17 k17
  have b17 := F17.binds (ps := ["_law_thing"]) fun _ _ _ _ _ _ us hl => match us, hl with | [_], _ => rfl
  have F18 := fun_mk (st := s__law_right) l18 c18 k18
  have b18 := F18.binds (ps := ["_law_thing"]) fun _ _ _ _ _ _ us hl => match us, hl with | [_], _ => rfl
  have F19 := fun_mk (st := s_law) l19 c19 k19
  have b19 := F19.binds (ps := ["_law_script"]) fun _ _ _ _ _ _ us hl => match us, hl with | [_], _ => rfl
  have E1 := fun_mk (st := s_paths_of) lp1 cp1 kp1
  have e1 := E1.binds (ps := ["self", "kind"]) fun _ _ _ _ _ _ us hl => match us, hl with | [_, _], _ => rfl
  have E2 := fun_mk (st := s_files) lp2 cp2 kp2
  have e2 := E2.binds (ps := ["self"]) fun _ _ _ _ _ _ us hl => match us, hl with | [_], _ => rfl
  have E3 := fun_mk (st := s_folders) lp3 cp3 kp3
  have e3 := E3.binds (ps := ["self"]) fun _ _ _ _ _ _ us hl => match us, hl with | [_], _ => rfl
  have E4 := fun_mk (st := s_references) lp4 cp4 kp4
  have e4 := E4.binds (ps := ["self"]) fun _ _ _ _ _ _ us hl => match us, hl with | [_], _ => rfl
  have E5 := fun_mk (st := s_repr) lp5 cp5 kp5
  have e5 := E5.binds (ps := ["self"]) fun _ _ _ _ _ _ us hl => match us, hl with | [_], _ => rfl
  have FI : FunD K "__init__" "Package.__init__" (defArgs s_init) (defBody s_init) (defScope s_init) [.non] [] fI _ :=
    ⟨⟨_, _, _, _, _, _, _, _, _, _, rfl, lI, cI, Or.inr ⟨by simp, TD, _, [.none], nT, rfl, lT, rfl, .cons rfl .nil⟩, Or.inl rfl⟩, kI⟩
  obtain ⟨ds, hds, bI⟩ := FI.binds1 (ps := ["self", "entries"]) 1 0 (by simp) rfl (fun T kV doc pm an cdv ct us its h1 h2 => match us, its, h1, h2 with | [_], [_], _, _ => ⟨_, rfl, rfl⟩)
  refine ⟨_, fun s u => .of_eq (fd := PySem.W.fnOf "law" "law" (defArgs s_law) (defBody s_law) (defScope s_law) .none kV19 dc19 pm19 an19 cd19 ct19) rfl, fun base _ _ => ?_⟩
  have d1 : DefAt P w K mg base "is_name" _ f1 _ _ _ := ⟨ok_is_name F1 T, PySem.W.mg_of X G a1, k1, b1⟩
  have d2 : DefAt P w K mg base "is_path" _ f2 _ _ _ := ⟨ok_is_path F2 T d1, PySem.W.mg_of X G a2, k2, b2⟩
  have d6 : DefAt P w K mg base "split_path" _ f6 _ _ _ := ⟨ok_split_path F6, PySem.W.mg_of X G a6, k6, b6⟩
  have FC := ok_check_path (P := P) (w := w) (base := base) F3 low d2
  have FN := ok_names_of (P := P) (w := w) (base := base) F4 T FC (PySem.W.mg_of X G a3) k3 b3 d6
  have d7 : DefAt P w K mg base "order_key" _ f7 _ _ _ := ⟨ok_order_key F7 T d6, PySem.W.mg_of X G a7, k7, b7⟩
  have d5 : DefAt P w K mg base "in_order" _ f5 _ _ _ := ⟨ok_in_order F5 T d7, PySem.W.mg_of X G a5, k5, b5⟩
  have d8 : DefAt P w K mg base "check_entries" _ f8 _ _ _ := ⟨ok_check_entries0 F8 T d5, PySem.W.mg_of X G a8, k8, b8⟩
  have d9 : DefAt P w K mg base "with_parents" _ f9 _ _ _ := ⟨ok_with_parents0 F9 T d5, PySem.W.mg_of X G a9, k9, b9⟩
  have dx1 : DefAt P w K mg base "solid_entries" _ x1f _ _ _ := ⟨ok_solid0 x1F T, PySem.W.mg_of X G x1a, x1k, x1b⟩
  have dx2 : DefAt P w K mg base "names_within" _ x2f _ _ _ := ⟨ok_within0 x2F T, PySem.W.mg_of X G x2a, x2k, x2b⟩
  have TTk : TokTxt K mg CTk := ⟨⟨q_tm, q_ti, q_tk⟩, PySem.W.mg_of X G q_ta⟩
  have NTb : NoteTxt P w K mg base CNb fNb _ := ⟨⟨q_nm, q_ni, q_nf, q_nk⟩, PySem.W.mg_of X G q_na, ok_ninit FNb ⟨q_npg, q_nhd, q_npo, q_nsa⟩ q_nrw, bNb⟩
  have PM : PkMake P w K mg base CK fI _ ds := ⟨⟨mkK, aI, iI, kcK⟩, ok_init0 FI T PT d8 d9 dx1 dx2 TTk NTb, bI, hds, PySem.W.mg_of X G aK⟩
  have GP := ok_paths_of0 (P := P) (w := w) (base := base) E1 PT
  have A2 : PropTxt P w K mg base CK "files" p2 g2 _ := ⟨⟨ap2, gp2, tp2, _, rp2⟩, ok_files0 E2 PT ⟨ap1, ip1, kp1⟩ GP e1, e2⟩
  have A3 : PropTxt P w K mg base CK "folders" p3 g3 _ := ⟨⟨ap3, gp3, tp3, _, rp3⟩, ok_folders0 E3 PT ⟨ap1, ip1, kp1⟩ GP e1, e3⟩
  have A4 : PropTxt P w K mg base CK "references" p4 g4 _ := ⟨⟨ap4, gp4, tp4, _, rp4⟩, ok_references0 E4 PT ⟨ap1, ip1, kp1⟩ GP e1, e4⟩
  have RA : ReprAt P w K mg base CK g5 _ := ⟨ok_repr0 E5 T PT A2 A3 A4, e5, ap5, ip5⟩
  have d10 : DefAt P w K mg base "_law_bag" _ f10 _ _ _ := ⟨ok_bag F10 T, PySem.W.mg_of X G a10, k10, b10⟩
  have d11 : DefAt P w K mg base "_law_take" _ f11 _ _ _ := ⟨ok_take F11 T, PySem.W.mg_of X G a11, k11, b11⟩
  have d12 : DefAt P w K mg base "_law_pick" _ f12 _ _ _ := ⟨ok_pick F12 T d11, PySem.W.mg_of X G a12, k12, b12⟩
  have d13 : DefAt P w K mg base "_law_is_name" _ f13 _ _ _ := ⟨ok_lname F13 T, PySem.W.mg_of X G a13, k13, b13⟩
  have d14 : DefAt P w K mg base "_law_is_path" _ f14 _ _ _ := ⟨ok_lpath F14 T d13, PySem.W.mg_of X G a14, k14, b14⟩
  have d15 : DefAt P w K mg base "_law_text" _ f15 _ _ _ := ⟨ok_text F15 T d11 d12, PySem.W.mg_of X G a15, k15, b15⟩
  have d16 : DefAt P w K mg base "_law_others" _ f16 _ _ _ := ⟨ok_others F16 T d11 d12 PM, PySem.W.mg_of X G a16, k16, b16⟩
  have d17 : DefAt P w K mg base "_law_told" _ f17 _ _ _ := ⟨ok_told F17 T R FN (PySem.W.mg_of X G a4) k4 b4, PySem.W.mg_of X G a17, k17, b17⟩
  have d18 : DefG P w K mg base "_law_right" _ f18 _ _ _ := ⟨ok_right F18 T PI RA d1 d2 d13 d14 d17, PySem.W.mg_of X G a18, k18, b18⟩
  exact ok_law F19 T d10 d15 d16 d18
theorem walk {l : PySem.W.OpenLaw} {q : Program} {loose : List Str} {XP : (Str → Option Value) → Heap → Prop} {YP : World → Heap → Prop} {d : DefRec} {K : Params → PySem.W.Frag} (hn : l.most = some 63) (hdf : d.params.defaults = [])
    (hY : ∀ (w : World) (h : Heap), YP w h → (K w.params).In h)
    (F : ∀ (w : World) (mg : Str → Option Value) (fa : Addr) (h : Heap), (K w.params).In h → h.Ns mainGlobals mg → mg d.name = some (.ref fa) →
      ∃ fd : FuncData, (∀ (s : Shared) (u : Value), BindsTo s fd ⟨[u], []⟩ [("_law_script", u)]) ∧ ∀ base : Heap, (K w.params).In base → base.Ns mainGlobals mg → FnG l.prog w (K w.params) mg base CX0 10 fa fd ["_law_script"] (spLaw (K w.params))) :
    PySem.W.WalkO q loose XP YP l.row.toRowW d [] (fun f vs => PySem.call f vs) :=
  walkG (n := 63) (k := 10) (x := "_law_script") (sp := spLaw) hn (by decide) hdf ⟨rfl, by decide, by decide⟩ hY F (fun K H a ns hl hS => ⟨a, ns, rfl, hS, hl, fun _ => rfl⟩)
end K1

open PySem PySem.W PyProof.Rows in
set_option maxRecDepth 100000 in
set_option maxHeartbeats 0 in
theorem PySem.Challenge.cw_linkfarms_k01_names_and_paths_of_any_val_holds : PySem.Challenge.rw_linkfarms_k01_names_and_paths_of_any_val.Holds := by
  w_on; o_law; k_head; (case hw => w_witness2)
  k_fill
  refine K1.walk (l := PySem.Challenge.rw_linkfarms_k01_names_and_paths_of_any_val) rfl rfl (fun w h Y => PySem.W.kIn_of Y) ?F
  case F =>
    intro w mg fa h KX G hmg
    refine' K1.all_mk KX G hmg ?aP ?aN ?aE ?xN ?sa ?ga ?gg ?nb ?a0 ?t0 ?l0 ?c0 ?kN ?eN ?tN ?hN ?iN ?sN ?haN ?hnN ?htN ?hmN ?kVE ?kPE ?zLon ?z_isinstance ?z_str ?z_len ?z_all ?z_any ?z_tuple ?z_list ?z_dict ?z_sorted ?z_range ?z_abs ?z_int ?z_bool ?z_repr ?z_max ?z_min ?z_ValueError ?a1 ?l1 ?c1 ?k1 ?a2 ?l2 ?c2 ?k2 ?a3 ?l3 ?c3 ?k3 ?a4 ?l4 ?c4 ?k4 ?a5 ?l5 ?c5 ?k5 ?a6 ?l6 ?c6 ?k6 ?a7 ?l7 ?c7 ?k7 ?a8 ?l8 ?c8 ?k8 ?a9 ?l9 ?c9 ?k9 ?a10 ?l10 ?c10 ?k10 ?a11 ?l11 ?c11 ?k11 ?a12 ?l12 ?c12 ?k12 ?a13 ?l13 ?c13 ?k13 ?a14 ?l14 ?c14 ?k14 ?a15 ?l15 ?c15 ?k15 ?a16 ?l16 ?c16 ?k16 ?a17 ?l17 ?c17 ?k17 ?a18 ?l18 ?c18 ?k18 ?a19 ?l19 ?c19 ?k19 ?aK ?pg ?hd ?po ?saK ?mkK ?kcK ?nE ?aL ?gL ?haK ?hmK ?kS ?aI ?iI ?lI ?cI ?kI ?lT ?ap1 ?ip1 ?lp1 ?cp1 ?kp1 ?ap2 ?gp2 ?tp2 ?rp2 ?lp2 ?cp2 ?kp2 ?ap3 ?gp3 ?tp3 ?rp3 ?lp3 ?cp3 ?kp3 ?ap4 ?gp4 ?tp4 ?rp4 ?lp4 ?cp4 ?kp4 ?ap5 ?ip5 ?lp5 ?cp5 ?kp5 ?x1a ?x1l ?x1c ?x1k ?x2a ?x2l ?x2c ?x2k ?naS ?naR ?naT ?naN ?q_ta ?q_tm ?q_ti ?q_tk ?q_na ?q_nm ?q_ni ?q_nf ?q_nk ?q_nl ?q_nc ?q_nkf ?q_npg ?q_nhd ?q_npo ?q_nsa ?q_nrw
    (case aP => k_is)
    (case aN => k_is)
    (case aE => k_is)
    (case xN => k_is)
    (case sa => k_is)
    (case ga => k_is)
    (case gg => k_is)
    (case nb => k_is)
    (case a0 => k_is)
    (case t0 => k_is)
    (case l0 => k_is)
    (case c0 => k_is)
    (case kN => k_is)
    (case eN => k_is)
    (case tN => k_is)
    (case hN => k_is)
    (case iN => k_is)
    (case sN => first | rfl | k_is)
    (case haN => k_is)
    (case hnN => k_is)
    (case htN => k_is)
    (case hmN => k_is)
    (case kVE => first | rfl | k_is)
    (case kPE => first | rfl | k_is)
    (case zLon => k_is)
    (case z_isinstance => k_is)
    (case z_str => k_is)
    (case z_len => k_is)
    (case z_all => k_is)
    (case z_any => k_is)
    (case z_tuple => k_is)
    (case z_list => k_is)
    (case z_dict => k_is)
    (case z_sorted => k_is)
    (case z_range => k_is)
    (case z_abs => k_is)
    (case z_int => k_is)
    (case z_bool => k_is)
    (case z_repr => k_is)
    (case z_max => k_is)
    (case z_min => k_is)
    (case z_ValueError => k_is)
    (case a1 => k_is)
    (case l1 => k_is)
    (case c1 => k_is)
    (case k1 => k_is)
    (case a2 => k_is)
    (case l2 => k_is)
    (case c2 => k_is)
    (case k2 => k_is)
    (case a3 => k_is)
    (case l3 => k_is)
    (case c3 => k_is)
    (case k3 => k_is)
    (case a4 => k_is)
    (case l4 => k_is)
    (case c4 => k_is)
    (case k4 => k_is)
    (case a5 => k_is)
    (case l5 => k_is)
    (case c5 => k_is)
    (case k5 => k_is)
    (case a6 => k_is)
    (case l6 => k_is)
    (case c6 => k_is)
    (case k6 => k_is)
    (case a7 => k_is)
    (case l7 => k_is)
    (case c7 => k_is)
    (case k7 => k_is)
    (case a8 => k_is)
    (case l8 => k_is)
    (case c8 => k_is)
    (case k8 => k_is)
    (case a9 => k_is)
    (case l9 => k_is)
    (case c9 => k_is)
    (case k9 => k_is)
    (case a10 => k_is)
    (case l10 => k_is)
    (case c10 => k_is)
    (case k10 => k_is)
    (case a11 => k_is)
    (case l11 => k_is)
    (case c11 => k_is)
    (case k11 => k_is)
    (case a12 => k_is)
    (case l12 => k_is)
    (case c12 => k_is)
    (case k12 => k_is)
    (case a13 => k_is)
    (case l13 => k_is)
    (case c13 => k_is)
    (case k13 => k_is)
    (case a14 => k_is)
    (case l14 => k_is)
    (case c14 => k_is)
    (case k14 => k_is)
    (case a15 => k_is)
    (case l15 => k_is)
    (case c15 => k_is)
    (case k15 => k_is)
    (case a16 => k_is)
    (case l16 => k_is)
    (case c16 => k_is)
    (case k16 => k_is)
    (case a17 => k_is)
    (case l17 => k_is)
    (case c17 => k_is)
    (case k17 => k_is)
    (case a18 => k_is)
    (case l18 => k_is)
    (case c18 => k_is)
    (case k18 => k_is)
    (case a19 => k_is)
    (case l19 => k_is)
    (case c19 => k_is)
    (case k19 => k_is)
    (case aK => k_is)
    (case pg => k_is)
    (case hd => k_is)
    (case po => k_is)
    (case saK => k_is)
    (case mkK => k_is)
    (case kcK => k_is)
    (case nE => k_is)
    (case aL => k_is)
    (case gL => first | k_is | rfl)
    (case haK => k_is)
    (case hmK => k_is)
    (case kS => first | rfl | k_is)
    (case aI => k_is)
    (case iI => k_is)
    (case lI => k_is)
    (case cI => k_is)
    (case kI => k_is)
    (case lT => k_is)
    (case ap1 => k_is)
    (case ip1 => k_is)
    (case lp1 => k_is)
    (case cp1 => k_is)
    (case kp1 => k_is)
    (case ap2 => k_is)
    (case gp2 => k_is)
    (case tp2 => k_is)
    (case rp2 => k_is)
    (case lp2 => k_is)
    (case cp2 => k_is)
    (case kp2 => k_is)
    (case ap3 => k_is)
    (case gp3 => k_is)
    (case tp3 => k_is)
    (case rp3 => k_is)
    (case lp3 => k_is)
    (case cp3 => k_is)
    (case kp3 => k_is)
    (case ap4 => k_is)
    (case gp4 => k_is)
    (case tp4 => k_is)
    (case rp4 => k_is)
    (case lp4 => k_is)
    (case cp4 => k_is)
    (case kp4 => k_is)
    (case ap5 => k_is)
    (case ip5 => k_is)
    (case lp5 => k_is)
    (case cp5 => k_is)
    (case kp5 => k_is)
    (case x1a => k_is)
    (case x1l => k_is)
    (case x1c => k_is)
    (case x1k => k_is)
    (case x2a => k_is)
    (case x2l => k_is)
    (case x2c => k_is)
    (case x2k => k_is)
    (case naS => k_is)
    (case naR => k_is)
    (case naT => k_is)
    (case naN => k_is)
    (case q_ta => k_is)
    (case q_tm => k_is)
    (case q_ti => k_is)
    (case q_tk => k_is)
    (case q_na => k_is)
    (case q_nm => k_is)
    (case q_ni => k_is)
    (case q_nf => k_is)
    (case q_nk => k_is)
    (case q_nl => k_is)
    (case q_nc => k_is)
    (case q_nkf => k_is)
    (case q_npg => k_is)
    (case q_nhd => k_is)
    (case q_npo => k_is)
    (case q_nsa => k_is)
    (case q_nrw => k_is)
#print axioms PySem.Challenge.cw_linkfarms_k01_names_and_paths_of_any_val_holds

