import PyProof.Rows.All
import Wide.All
import OpenK.AllK
import Wide.FinOn
import HandS.ForMost
import HandS.ForExc
import HandS.Star
import HandS.Deep
import HandS.IsInst
import HandS.SortKw
import KE.SortKeyHeap
import HandS.ExcIs
import HandS.Walk
import HandS.StrMore
import PyProof.ReprNest
import PyProof.ReprUnder
import PyProof.StrBlock2
import HandS.More
import HandS.Text
import HandS.DictComp
import HandS.SetKeys
import KE.DataCmp
import PyProof.StrLawsIn
import PyProof.StrLawsLast
import HandS.Exc
import KE.KExcInit
import PyProof.ExcBaseAll.OverflowError
import HandS.Defaults
import HandS.WordsExc
import PyProof.Rows.RegFStrParts
import PyProof.Rows.StrSplitAre
import HandS.SetFor
import KE.SortData
import PyProof.Rows.SetFrom
import HandS.TupSets
import HandS.CallLocal
import HandS.ClsMeth
import PyProof.InstSpecial
import PyProof.CallStr
import PyProof.Rows.Range3
import PyProof.InstNe
import HandS.OwnEq
import HandS.CallSlots
import HandS.Property
import KE.DataMinMax
import PyProof.ExcBaseAll.ValueError
import HandS.GenList
import HandS.ForDict
import PyProof.EqKinds
import PyProof.StrHeap
import PyProof.ExcBaseAll.LookupError
import HandS.FStr
import HandS.Style
import PySem.Challenge.RW_linkfarms_k05_packages_changed
set_option Elab.async false
set_option linter.all false
set_option maxRecDepth 100000
set_option maxHeartbeats 4000000
namespace LF
open PySem PySem.Spec PyProof.Rows L2

/-- a promise that is asked only where no repr is under way -/
structure FnG (P : Program) (w : World) (K : PySem.W.Frag) (mg : Str → Option Value) (base : Heap) (CX : CXT)
    (k : Nat) (f : Addr) (fd : FuncData) (ps : List Str) (sp : Sp) : Prop where
  len : ∀ vs H Q E, sp vs H Q E → vs.length = ps.length
  go : ∀ (A : Around) (fr : List Env) (st : Shared) (H : Hp) (ar : Args) (us : List Value) (vs : List V) (Q : VK) (E : XK),
    A.guards = some [] → Room k A → Env0 P w K mg base A fr st H → BindsTo st fd ar (ps.zip us) → Vals vs us →
    sp vs H Q E → codeAny (model P w) A (.call (.ref f) ar) (CR CX fr P w H st Q E) st

theorem body_end {CX : CXT} {P : Program} {w : World} {K : PySem.W.Frag} {mg : Str → Option Value} {base : Heap} {N : List Str}
    {q : String} {sc : Scope} {f : Addr} {cd : Value} {A : Around} {fr : List Env} {st : Shared} {H : Hp} {E : XK} {Q : VK}
    {v : V} {u : Value} {σ : L2.St} {H' : Hp} {s' : Shared}
    (J : Inv (cxOf CX P w K mg base N q sc f cd A fr st H E) [] σ H' s') (rv : RelV v u) (hq : Q v H') :
    CE fr P w H st Q u s' :=
  ⟨v, H', J.os, J.bare, J.base, J.hok, rv, hq⟩

theorem fnG_of {CX : CXT} {P : Program} {w : World} {K : PySem.W.Frag} {mg : Str → Option Value} {base : Heap} {k : Nat} {f : Addr}
    {x q : String} {st : Stmt} {fd : FuncData} {N ps : List Str} {sp : Sp} (F : Fun K x q st f fd) (S : FnScope N ps (defScope st))
    (len : ∀ vs H Q E, sp vs H Q E → vs.length = ps.length)
    (hb : ∀ (cdv : Value) (A : Around) (fr : List Env) (s : Shared) (H : Hp) (vs : List V) (Q : VK) (E : XK), A.guards = some [] →
      Room k (A.deeper (envOfC q (defScope st) s.heap.objs.size f cdv)) → sp vs H Q E →
      ∃ t, PSs (cxOf CX P w K mg base N q (defScope st) f cdv A fr s H E) (defBody st) t ∧
        t { nx := fun _ H' => Q .non H', rt := Q } (start N vs) H) : FnG P w K mg base CX (k + 1) f fd ps sp := by
  obtain ⟨oc, od, kV, doc, pm, an, cdv, ct, osl, rfl, lk, hcd⟩ := F.ex
  refine ⟨len, ?_⟩
  intro A fr s H ar us vs Q E hgd hr e0 hbi r hsp
  have hl := len _ _ _ _ hsp
  have KX : K.In s.heap := e0.mod.kin.keeps (fun b o e => (e0.bs b o e).1)
  have lim : s.heap.NoLimit := e0.mod.nolimit.keeps (fun b o e => (e0.bs b o e).1)
  have hkd : ∀ y ∈ ps.zip us, (defScope st).names.lookup y.1 = some .local ∨
      ((defScope st).names.lookup y.1 = some .cell ∧ ((cellsFrom (s.heap.objs.size + 1) (defScope st).names []).lookup y.1).isSome = true) := by
    rintro ⟨n, v⟩ hy
    rcases S.par n (List.of_mem_zip hy).1 with z | z
    · exact Or.inl z
    · exact Or.inr ⟨z, PySem.W.cellsFrom_some _ _ _ (Or.inl z)⟩
  refine codeAny_call_function hr.depth (KX _ _ lk) rfl S.co S.gen rfl (PySem.W.codeRec_of KX hcd) (hbi _ _ _ _ ?_)
  refine wpAny_newFunctionEnv_cells S.kind hkd ?_
  intro env he s1 xx
  subst he
  refine ⟨lim.keeps xx.toInCall.keep, codeAny_func ?_⟩
  obtain ⟨t, ht, hq⟩ := hb cdv A fr s H vs Q E hgd (hr.deeper _) hsp
  have I := inv_start (CX := CX) (cd := cdv) (E := E) S hr.hd e0 hl r xx
  refine wpAny_mono (ht.run [] s1 (start N vs) H _ I hq) ?_ (fun e s' hs => hs)
  intro fl s' hs
  cases fl with
  | ret u =>
    obtain ⟨v, σ', H', J, rv, z⟩ := hs
    exact body_end J rv z
  | next =>
    obtain ⟨σ', H', J, z⟩ := hs
    exact body_end (v := V.non) (u := Value.none) J rfl z
  | brk => exact (hs.choose_spec.choose_spec.2).elim
  | cont => exact (hs.choose_spec.choose_spec.2).elim

section
variable {X : Cx} {CX : CXT} {k : Nat} {f : Addr} {fd : FuncData} {ps : List Str} {sp : Sp} {dvs : List V} {ds : List Value} {E : XK}
  {x : Str} {p pos : Pos} {e : Expr} {es : List Expr} {t : TA}

theorem runG {pins : List (Addr × Obj)} {σ : L2.St} {H : Hp} {s : Shared} {Q : VK} {us : List Value} {vs : List V}
    (F : FnG X.prog X.w X.K X.mg X.base CX k f fd ps sp) (gd : X.A.guards = some []) (hr : Room k X.A) (hb : Binds X.K fd ps [])
    (hx : Passes CX X E) (I : Inv X pins σ H s) (r : Vals vs us) (h : sp vs H Q E) :
    wpAny (model X.prog X.w) X.A (call (.ref f) us) (EP X pins σ Q) X.xe s := by
  have hl : us.length = ps.length := by rw [← r.length]; exact F.len _ _ _ _ h
  have hb' := hb s us I.kIn (by rw [List.append_nil]; exact hl)
  rw [List.append_nil] at hb'
  refine wpAny_call (codeAny_mono (F.go X.A X.stack s H ⟨us, []⟩ us vs Q E gd hr I.env0 hb' r h) ?_)
  intro rr s' hq
  cases rr with
  | error e => exact hx pins σ H s e s' I hq
  | ok fl =>
    cases fl with
    | ret u => exact I.after hq
    | next => exact hq.elim
    | brk => exact hq.elim
    | cont => exact hq.elim

theorem pe_callG (F : FnG X.prog X.w X.K X.mg X.base CX k f fd ps sp) (gd : X.A.guards = some []) (hr : Room k X.A) (hg : Gl X x)
    (hm : X.mg x = some (.ref f)) (hk : PySem.W.keepIn X.K (.ref f) = true) (hb : Binds X.K fd ps []) (hx : Passes CX X E)
    (ha : PA X (e :: es) t) (hdb : (x == ("__debug__" : Str)) = false := by decide)
    (he : starEach (e :: es) X.env = (false, eval e X.env) :: starEach es X.env := by rfl)
    (hpl : (backTo pos (starEach es X.env)).any (·.1) = false := by rfl) :
    PE X (.Call (.Name x p) (e :: es) [] pos) (fun σ H Q => t σ H fun vs H1 => sp vs H1 Q E) := by
  constructor
  intro pins s σ H Q I h
  refine wpAny_Call_Name_kw (ld_glob I hg hm ?_ hdb)
  refine PySem.W.callWith_K (h₀ := X.base) I.ok.mod.kin hk (thn (ha.run pos pins s σ H _ I h) ?_) he hpl
  rintro us s1 ⟨vs, H1, I1, r, z⟩
  exact ⟨I1.kIn, runG F gd hr hb hx I1 r z⟩
end

/-- repr of data of any depth, where no repr is under way -/
def rRepr (K : PySem.W.Frag) : List V → Hp → VK → Prop := fun xs H Q =>
  ∃ x d, xs = [x] ∧ Dp K H x d ∧ d.showable = true ∧ d.hasDict = false ∧ d.depth ≤ 60 ∧ d.shown.length ≤ sizeLine ∧ Q (.str d.shown) H
theorem call_reprD {X : Cx} (gd : X.A.guards = some []) (hu : X.A.units + 64 < cLine) : CallR X (.builtin "repr") (rRepr X.K) := by
  intro pins s σ H xs us Q I r h
  obtain ⟨x, d, rfl, hd, hs, hn, hp, hz, q⟩ := h
  obtain ⟨u, rfl, ru⟩ := vals1 r
  obtain ⟨as, rd⟩ := Dp.reads I d x u hd ru
  cases hd with
  | non => cases ru; exact PySem.P.repr_of_none ⟨.str _, H, I.tok _, ⟨_, rfl⟩, q⟩
  | bl b => cases ru; exact PySem.P.repr_of_bool ⟨.str _, H, I.tok _, ⟨_, rfl⟩, q⟩
  | int i =>
    obtain ⟨t, rfl⟩ := ru
    exact PySem.P.repr_of_int (by simpa [PyData.showable] using hs) ⟨.str _, H, I.tok _, ⟨_, rfl⟩, q⟩
  | str z =>
    obtain ⟨t, rfl⟩ := ru
    exact PySem.P.repr_of_str ⟨.str _, H, I.tok _, ⟨_, rfl⟩, q⟩ hz
  | lst a b =>
    cases ru
    exact repr_of_reads' rd hs (PyData.noDict_hsm hn) gd (by omega) (fun _ _ e => e)
      (fun h' u tk hk => ⟨.str _, H, I.kept (t' := tk) hk, ⟨_, rfl⟩, q⟩) hz
  | tup a b =>
    cases ru
    exact repr_of_reads' rd hs (PyData.noDict_hsm hn) gd (by omega) (fun _ _ e => e)
      (fun h' u tk hk => ⟨.str _, H, I.kept (t' := tk) hk, ⟨_, rfl⟩, q⟩) hz
end LF

set_option Elab.async false
set_option linter.all false
set_option maxRecDepth 100000
set_option maxHeartbeats 4000000
namespace LF
open PySem PySem.Spec PyProof.Rows L2
open PySem.W (EachIs dataLe AllAlike Sortable KeepsBut KeyedOut)

theorem sqL_same {K : PySem.W.Frag} {H H' : Hp} {a : Addr} {xs : List V} (e : Same H H') (h : SqL K H a xs) : SqL K H' a xs := e.seq h
theorem sqT_same {K : PySem.W.Frag} {H H' : Hp} {a : Addr} {xs : List V} (e : Same H H') (h : SqT K H a xs) : SqT K H' a xs := by
  rcases h with (h | ⟨o, h⟩) | h
  · exact Or.inl (Or.inl (e _ _ h))
  · exact Or.inl (Or.inr ⟨o, e _ _ h⟩)
  · exact Or.inr h
mutual
theorem dp_same {K : PySem.W.Frag} {H H' : Hp} (e : Same H H') : ∀ (d : PyData) (v : V), Dp K H v d → Dp K H' v d
  | .none, _, h => by cases h; exact .non
  | .bool b, _, h => by cases h; exact .bl b
  | .int i, _, h => by cases h; exact .int i
  | .str x, _, h => by cases h; exact .str x
  | .list ds, _, h => by cases h with | lst a b => exact .lst (sqL_same e a) (dpAll_same e ds _ b)
  | .tuple ds, _, h => by cases h with | tup a b => exact .tup (sqT_same e a) (dpAll_same e ds _ b)
  | .dict _, _, h => by cases h
theorem dpAll_same {K : PySem.W.Frag} {H H' : Hp} (e : Same H H') : ∀ (ds : List PyData) (vs : List V), DpAll K H vs ds → DpAll K H' vs ds
  | [], _, h => by cases h; exact .nil
  | d :: ds, _, h => by cases h with | cons a b => exact .cons (dp_same e d _ a) (dpAll_same e ds _ b)
end

/-- sorted(xs, key=f), xs texts, f a def that hands back data and leaves what is tracked -/
def rSortF (K : PySem.W.Frag) (f : Addr) (kd : Str → PyData) (sp : Sp) : List V → List V → Hp → VK → Prop := fun xs zs H Q =>
  ∃ (a : Addr) (ws : List Str), xs = [.ref a] ∧ zs = [.ref f] ∧ SqL K H a (ws.map V.str) ∧ AllAlike (ws.map kd) ∧ Sortable (ws.map kd) ∧
    (∀ d ∈ ws.map kd, d.depth ≤ 60) ∧
    (∀ x ∈ ws, ∀ H1, Same H H1 → ∀ Q1 : VK, (∀ v H2, Same H1 H2 → Dp K H2 v (kd x) → Q1 v H2) → sp [.str x] H1 Q1 E0) ∧
    ∀ H1 p, Same H H1 → H1 p = none → Q (.ref p) (upd H1 p (.lst ((ws.mergeSort (dataLe false kd)).map V.str)))

theorem each_vals_str : ∀ {ws : List Str} {us : List Value}, Vals (ws.map V.str) us → EachIs (fun (v : Value) (x : Str) => ∃ t, v = Value.str x t) us ws
  | [], _, h => by cases h; exact .nil
  | x :: ws, _, h => by cases h with | cons a b => exact .cons a (each_vals_str b)
theorem vals_each_str : ∀ {ws : List Str} {us : List Value}, EachIs (fun (v : Value) (x : Str) => ∃ t, v = Value.str x t) us ws → Vals (ws.map V.str) us
  | [], _, h => by cases h; exact .nil
  | x :: ws, _, h => by cases h with | cons a b => exact .cons a (vals_each_str b)
theorem each_get {α β : Type} {R : α → β → Prop} : ∀ {as : List α} {bs : List β} {i : Nat} {x : α}, EachIs R as bs → as[i]? = some x → ∃ y, bs[i]? = some y ∧ R x y
  | _, _, 0, x, .cons h _, e => by simp at e; subst e; exact ⟨_, rfl, h⟩
  | _, _, i + 1, x, .cons _ t, e => by simpa using each_get (i := i) t (by simpa using e)
theorem each_reads {X : Cx} {pins : List (Addr × Obj)} {σ : L2.St} {H : Hp} {s : Shared} {kd : Str → PyData} (I : Inv X pins σ H s) :
    ∀ {us : List Value} {ws : List Str}, EachIs (fun v x => ∃ y, RelV y v ∧ Dp X.K H y (kd x)) us ws →
      EachIs (fun v k => ∃ as, Reads s.heap v k as) us (ws.map kd)
  | _, _, .nil => .nil
  | _, _, .cons ⟨y, r, d⟩ t => .cons (Dp.reads I _ _ _ d r) (each_reads I t)

section
variable {X : Cx} {kf : Nat} {f : Addr} {fd : FuncData} {px : Str} {sp : Sp} {kd : Str → PyData}

theorem pin_new {pins : List (Addr × Obj)} {σ : L2.St} {H : Hp} {s : Shared} (I : Inv X pins σ H s) {b : Addr} (hb : s.heap.objs.size ≤ b) :
    H b = none ∧ b ≠ X.env.locals ∧ b ∉ X.fs ∧ (∀ x c, X.env.cells.lookup x = some c → c ≠ b) ∧ ∀ p ∈ X.pn ++ pins, p.1 ≠ b := by
  refine ⟨I.hok.fresh hb, ?_, I.nofs hb, ?_, ?_⟩
  · exact Ne.symm (Nat.ne_of_lt (Nat.lt_of_lt_of_le I.lt hb))
  · intro x c hc
    obtain ⟨v, o, ho, _⟩ := I.cell x c hc
    exact Nat.ne_of_lt (Nat.lt_of_lt_of_le (Heap.lt_size ho) hb)
  · intro p hp
    exact Nat.ne_of_lt (Nat.lt_of_lt_of_le (Heap.lt_size (I.pin p hp).1) hb)

theorem call_sortedF (F : FnOk X.prog X.w X.K X.mg X.base CX0 kf f fd [px] sp) (hr : Room (kf + 2) X.A) (hb : Binds X.K fd [px] []) :
    CallRK X (.builtin "sorted") [Str.ofString "key"] (rSortF X.K f kd sp) := by
  intro pins s σ H xs zs us vz Q I r rz h
  obtain ⟨a, ws, rfl, rfl, hs, hal, hsk, hdep, hkey, hq⟩ := h
  obtain ⟨its, rv, hl, hz⟩ := I.list hs
  rw [Vals.ref1 r]
  rw [Vals.ref1 rz]
  have hwl : ws.length = its.length := by rw [← rv.length, List.length_map]
  have hZ : its.length ≤ sizeLine := by rw [← rv.length]; exact hz
  have hE := each_vals_str rv
  show wpAny _ _ (call (.builtin "sorted") [.ref a] [(Str.ofString "key", .ref f)]) _ _ _
  refine PySem.W.sorted_of_sort (vs := its) hl.isList hZ (ksk_s1 _ _) (fun x => ksk_l1 _ _) ?_
  intro E'
  rw [ksk_t1]
  obtain ⟨hp, g, dr, tk, os⟩ := s
  -- the copy, at D
  generalize hD : hp.objs.size + 1 = D
  have hcp : (PySem.W.copyHeap hp its).get? D = some (seqObj "list" its.toArray 0) := by rw [← hD]; exact PySem.W.copyHeap_at hp its
  have hold : ∀ b o, hp.get? b = some o → (PySem.W.copyHeap hp its).get? b = some o := fun b o e => PySem.W.copyHeap_old e
  have hDsz : D < (PySem.W.copyHeap hp its).objs.size := Heap.lt_size hcp
  have hDnew : hp.objs.size ≤ D := by omega
  obtain ⟨e1, he1⟩ : ∃ e1, ((PySem.W.copyHeap hp its).update D (Obj.mapSeq fun _ => (#[] : Array Value))).get? D = some (seqObj "list" #[] e1) := ⟨_, get?_update_seq hcp fun _ => #[]⟩
  have hS1 : ((PySem.W.copyHeap hp its).update D (Obj.mapSeq fun _ => (#[] : Array Value))).objs.size = (PySem.W.copyHeap hp its).objs.size := by rw [Heap.size_update]
  unfold ksk_tree
  refine wpAny_bind (listItems_at hcp rfl ?_)
  refine wpAny_bind (listUpdate_at hcp rfl ?_ (by rw [List.size_toArray]; exact hZ) (Nat.zero_le _))
  refine wpAny_bind (seqEpoch_at he1 rfl ?_)
  refine wpAny_bind (wpAny_newTuple ?_ (by show its.length ≤ _; exact hZ))
  refine wpAny_bind (wpAny_newList ?_ (Nat.zero_le _))
  refine wpAny_holding ?_
  generalize hT : (((PySem.W.copyHeap hp its).update D (Obj.mapSeq fun _ => (#[] : Array Value))).push ({ cls := .type "tuple", data := .seq its.toArray } : Obj)) = h1
  have hkS : h1.objs.size = (PySem.W.copyHeap hp its).objs.size + 1 := by rw [← hT, size_push', hS1]
  generalize hkk : h1.objs.size = kS
  have hDk : kS ≠ D := by omega
  have hkSnew : hp.objs.size ≤ kS := by omega
  have k1 : ∀ b o, b ≠ D → (PySem.W.copyHeap hp its).get? b = some o → h1.get? b = some o := fun b o hb e => by
    rw [← hT]
    exact Heap.get?_push_of_some _ ((Heap.get?_update_ne _ _ _ _ hb).trans e)
  have k2 : ∀ b o, hp.get? b = some o → (h1.push (seqObj "list" #[] 0)).get? b = some o := fun b o e =>
    Heap.get?_push_of_some _ (k1 b o (Nat.ne_of_lt (Nat.lt_of_lt_of_le (Heap.lt_size e) hDnew)) (hold b o e))
  have g1 : (h1.push (seqObj "list" #[] 0)).get? D = some (seqObj "list" #[] e1) := Heap.get?_push_of_some _ (by rw [← hT]; exact Heap.get?_push_of_some _ he1)
  have g2 : (h1.push (seqObj "list" #[] 0)).get? kS = some (seqObj "list" #[] 0) := by rw [← hkk]; exact Heap.get?_push_size _ rfl
  have nD := pin_new I (b := D) hDnew
  have nK := pin_new I (b := kS) hkSnew
  have I2 : Inv X pins σ H ⟨h1.push (seqObj "list" #[] 0), g, dr, tk, os⟩ := I.kept (t' := tk) k2
  have seqne : ∀ (c : String) (xs : Array Value) (n : Nat) (v : Option Value), (seqObj c xs n).data ≠ .cell v := fun c xs n v z => by cases z
  have I3 : Inv X ((kS, seqObj "list" #[] 0) :: (D, seqObj "list" #[] e1) :: pins) σ H ⟨h1.push (seqObj "list" #[] 0), g, dr, tk, os⟩ := I2.pins_of (by
    intro p hp'
    rcases List.mem_cons.mp hp' with rfl | hp'
    · exact ⟨g2, nK.1, nK.2.1, nK.2.2.1, seqne _ _ _⟩
    rcases List.mem_cons.mp hp' with rfl | hp'
    · exact ⟨g1, nD.1, nD.2.1, nD.2.2.1, seqne _ _ _⟩
    · exact I2.pin p (List.mem_append_right _ hp'))
  show wpAny _ _ (ksk_rest D (.ref f) false its.toArray e1 (.ref kS)) _ _ ⟨h1.push (seqObj "list" #[] 0), g, dr, tk, os⟩
  unfold ksk_rest
  refine wpAny_bind (wpAny_rule ?_)
  rw [List.forIn_toArray]
  refine wpAny_bind (ksk_fold (fun i s' => ∃ kA e H', Same H H' ∧ Inv X ((kS, seqObj "list" kA e) :: (D, seqObj "list" #[] e1) :: pins) σ H' s' ∧
      EachIs (fun v x => ∃ y, RelV y v ∧ Dp X.K H' y (kd x)) kA.toList (ws.take i)) its 0 _
    ⟨#[], 0, H, Same.refl H, I3, by rw [List.take_zero]; exact .nil⟩ ?step ?done)
  case step =>
    rintro j u s' hu ⟨kA, e, H', sm, J, hk⟩
    simp only [Nat.zero_add] at hk ⊢
    obtain ⟨x, hx, t, rfl⟩ := each_get hE hu
    have hxm : x ∈ ws := List.mem_of_getElem? hx
    have hj : j < ws.length := (List.getElem?_eq_some_iff.mp hx).1
    have hklen : kA.size ≤ ws.length := by
      have := hk.length
      rw [Array.length_toList, List.length_take] at this
      omega
    have hsp := hkey x hxm H' sm (fun v H2 => Same H' H2 ∧ Dp X.K H2 v (kd x)) (fun v H2 s2 d2 => ⟨s2, d2⟩)
    have hb' := hb s' [.str x t] J.kIn rfl
    rw [List.append_nil] at hb'
    have run := F.run X.A.in1.in1 X.stack s' H' ⟨[.str x t], []⟩ [.str x t] [.str x] _ E0 (hr.in1.in1) (J.env0.in1.in1) hb' (.cons ⟨t, rfl⟩ .nil) hsp
    have call1 : wpAny (model X.prog X.w) X.A.in1.in1 (call (.ref f) [.str x t]) (CE X.stack X.prog X.w H' s' (fun v H2 => Same H' H2 ∧ Dp X.K H2 v (kd x))) (fun _ _ => False) s' := by
      refine wpAny_call (codeAny_mono run ?_)
      intro rr s2 hq2
      cases rr with
      | error e => exact hq2
      | ok fl =>
        cases fl with
        | ret u => exact hq2
        | next => exact hq2
        | brk => exact hq2
        | cont => exact hq2
    refine wpAny_bind (wpAny_attempt (wpAny_mono call1 ?_ (fun _ _ z => z.elim)))
    intro u s2 hu2
    obtain ⟨y, H2, J2, ry, sm2, dp2⟩ := J.after hu2
    obtain ⟨pk, pnK, pLK, pfK, _⟩ := J2.pin (kS, seqObj "list" kA e) (List.mem_append_right _ List.mem_cons_self)
    obtain ⟨pd, pnD, pLD, pfD, _⟩ := J2.pin (D, seqObj "list" #[] e1) (List.mem_append_right _ (List.mem_cons_of_mem _ List.mem_cons_self))
    have J3 : Inv X ((D, seqObj "list" #[] e1) :: pins) σ H2 s2 := J2.pins_of (by
      intro p hp'
      exact J2.pin p (List.mem_append_right _ (List.mem_cons_of_mem _ hp')))
    obtain ⟨hp2, g2', dr2, tk2, os2⟩ := s2
    refine wpAny_bind (listUpdate_at pk rfl ?_ (Nat.le_trans hklen (by rw [hwl]; exact hZ)) (by rw [Array.size_push]; exact Nat.succ_le_succ (Nat.le_trans hklen (by rw [hwl]; exact hZ))))
    have sb := Heap.SameBut.update hp2 kS (Obj.mapSeq (·.push u))
    obtain ⟨c2, hc2⟩ : ∃ c2, (hp2.update kS (Obj.mapSeq (·.push u))).get? kS = some (seqObj "list" (kA.push u) c2) := ⟨_, get?_update_seq pk (·.push u)⟩
    have pne : ∀ p ∈ X.pn ++ ((D, seqObj "list" #[] e1) :: pins), p.1 ≠ kS := by
      intro p hp'
      rcases List.mem_append.mp hp' with q | q
      · exact nK.2.2.2.2 p (List.mem_append_left _ q)
      rcases List.mem_cons.mp q with rfl | q
      · exact Ne.symm hDk
      · exact nK.2.2.2.2 p (List.mem_append_right _ q)
    have s0k : X.s_0.heap.objs.size ≤ kS := Nat.le_trans I.sz hkSnew
    have J4 := J3.turned (t' := tk2) (it := kS) (h' := hp2.update kS (Obj.mapSeq (·.push u))) (fun b o hb e => (sb.2 b hb).trans e) pnK pLK (Or.inr s0k) nK.2.2.2.1 pne
    have J5 : Inv X ((kS, seqObj "list" (kA.push u) c2) :: (D, seqObj "list" #[] e1) :: pins) σ H2 ⟨hp2.update kS (Obj.mapSeq (·.push u)), g2', dr2, tk2, os2⟩ := J4.pins_of (by
      intro p hp'
      rcases List.mem_cons.mp hp' with rfl | hp'
      · exact ⟨hc2, pnK, pLK, pfK, seqne _ _ _⟩
      · exact J4.pin p (List.mem_append_right _ hp'))
    refine wpAny_pure ⟨rfl, kA.push u, c2, H2, sm.trans sm2, J5, ?_⟩
    have ek : ws.take (j + 1) = ws.take j ++ [x] := by rw [List.take_add_one, hx]; rfl
    rw [ek, Array.toList_push]
    exact PySem.W.each_snoc ⟨y, ry, dp2⟩ (hk.mono fun v z ⟨y', r', d'⟩ => ⟨y', r', dp_same sm2 _ _ d'⟩)
  case done =>
    rintro s' ⟨kA, e, H', sm, J, hk⟩
    rw [List.take_of_length_le (by omega)] at hk
    obtain ⟨pk, pnK, pLK, pfK, _⟩ := J.pin (kS, seqObj "list" kA e) (List.mem_append_right _ List.mem_cons_self)
    obtain ⟨pd, pnD, pLD, pfD, _⟩ := J.pin (D, seqObj "list" #[] e1) (List.mem_append_right _ (List.mem_cons_of_mem _ List.mem_cons_self))
    have J1 : Inv X pins σ H' s' := J.pins_of (by
      intro p hp'
      exact J.pin p (List.mem_append_right _ (List.mem_cons_of_mem _ (List.mem_cons_of_mem _ hp'))))
    have hr' := each_reads J hk
    have hksz : kA.size = its.length := by
      have := hk.length
      rw [Array.length_toList] at this
      omega
    refine wpAny_bind (listItems_at pk rfl ?_)
    have kb : KeepsBut D (PySem.W.hideAll s'.heap [kS]) s'.heap := fun b o hb e => PySem.W.of_hideAll [kS] e
    have hu : ∀ d ∈ ws.map kd, X.A.in1.in1.units + d.depth < cLine := by
      intro d hd
      have h1 := hdep d hd
      have h2 := hr.un
      show X.A.units + 1 + 1 + d.depth < cLine
      omega
    refine PySem.W.keyH_end (κ := PySem.W.dataKind s'.heap (ws.map kd)) kb (PySem.W.hideAll_none [kS] List.mem_cons_self) pk pd hDk (PySem.W.SortsAt.data (s := s') hr' hal hsk hu) hksz hZ ?_
    intro h' tk' c kp hD'
    refine ⟨rfl, ?_⟩
    have hout : EachIs (fun (v : Value) (x : Str) => ∃ t, v = Value.str x t) (PySem.W.sortVals (PySem.W.dataKind s'.heap (ws.map kd)) false kA.toList its) (ws.mergeSort (dataLe false kd)) :=
      PySem.W.keyedOut_each (rev := false) kd ⟨s'.heap, kA.toList, hal, rfl, hr'⟩ hE
    have hv := vals_each_str hout
    have keep : ∀ b o, b ≠ D → b ≠ kS → s'.heap.get? b = some o → h'.get? b = some o := fun b o n1 n2 e =>
      kp b o n1 (PySem.W.hideAll_get [kS] e (by simpa using n2))
    have hn : H' D = none := pnD
    have hlen : ((ws.mergeSort (dataLe false kd)).map V.str).length ≤ sizeLine := by
      rw [List.length_map, List.length_mergeSort, hwl]; exact hZ
    refine ⟨.ref D, upd H' D (.lst ((ws.mergeSort (dataLe false kd)).map V.str)), ?_, rfl, hq H' D sm hn⟩
    have hne : ∀ b u, H' b = some u → b ≠ D ∧ b ≠ kS := fun b u q => ⟨ne_of_none q hn, ne_of_none q pnK⟩
    refine J1.step (ch := [D, kS]) (g' := s'.gens) (d' := s'.drawn) (t' := tk') ?_ ?_ ?_ ?_ ?_ ?_ ?_ ?_ ?_ ?_ J1.bare
    · intro b hb
      rcases List.mem_cons.mp hb with rfl | hb
      · exact ⟨Or.inr (Nat.le_trans I.sz hDnew), pLD, nD.2.2.2.1, nD.2.2.2.2⟩
      · rw [List.mem_singleton.mp hb]
        exact ⟨Or.inr (Nat.le_trans I.sz hkSnew), pLK, nK.2.2.2.1, nK.2.2.2.2⟩
    · intro b o _ _ hc e _
      exact keep b o (fun z => hc (by simp [z])) (fun z => hc (by simp [z])) e
    · intro b o _ _ hc e _
      exact ⟨o.slots, keep b o (fun z => hc (by simp [z])) (fun z => hc (by simp [z])) e⟩
    · intro b o hc e n
      rw [upd_ne (fun z => hc (by simp [z]))]
      exact n
    · intro b o hc e
      exact ⟨o, keep b o (fun z => hc (by simp [z])) (fun z => hc (by simp [z])) e⟩
    · intro b xs e
      rw [upd_ne (hne b _ e).1]; exact e
    · intro b o u e
      rw [upd_ne (hne b _ e).1]; exact e
    · intro b ps e
      exact ⟨#[], by rw [upd_ne (hne b _ e).1, e]; simp⟩
    · rintro m ⟨o, es, ep, ho, rest⟩
      exact ⟨o, es, ep, keep _ o (Ne.symm pLD) (Ne.symm pLK) ho, rest⟩
    · intro b u e
      by_cases hb : b = D
      · subst hb
        rw [upd_same] at e
        cases e
        exact ⟨hlen, _, c, hv, hD'⟩
      · rw [upd_ne hb] at e
        refine (J1.hok b u e).stay (fun z w' hz q => keep z w' ?_ ?_ q) (fun z q => ?_) (fun z xs q => ?_)
        · rcases hz with rfl | hz
          · exact hb
          · exact (hne z _ hz).1
        · rcases hz with rfl | hz
          · exact (hne z _ e).2
          · exact (hne z _ hz).2
        · rw [upd_ne (hne z _ q).1]; exact q
        · rw [upd_ne (hne z _ q).1]; exact q
end
end LF

set_option Elab.async false
set_option linter.all false
set_option maxRecDepth 100000
set_option maxHeartbeats 4000000
namespace LF
open PySem PySem.Spec PySem.Calls PyProof.Rows
open PySem.W (Looks InstAt findIn specialIn takesIn subIn mroIn hasDictIn clsIn findObj looks_findIn looks_find looks_subIn any_some)

section
variable {prog : Program} {w : World} {A : Around} {E : Value → Shared → Prop} {s : Shared} {K : PySem.W.Frag} {x D : Addr} {ox : Obj} {od : Option Obj}

/-- an error's class asked of the error itself, whether it has a dict or none -/
theorem errClass (C : L2.ExcC K D) {Q : Option Value → Shared → Prop} (X : K.In s.heap) (I : InstAt s.heap x ox D od)
    (h : Q (some (.ref D)) { s with toks := s.toks + 1 }) : wpAny (model prog w) A (getAttr? (.ref x) "__class__") Q E s := by
  have hf : findObj K D od "__class__" = some (.bind (.builtin "getset_descriptor.__get__") (.builtin "object.__class__")) := by
    obtain ⟨cd, e, _⟩ := any_some C.hd
    simp only [findObj, e, C.ha, C.hn, C.ht, Option.bind_some]
  obtain ⟨hh, gg, dd, tt, oo⟩ := s
  have lt := I.type (M := model prog w)
  have lg := looks_findIn (M := model prog w) X C.hg
  have lk := looks_findIn (M := model prog w) X C.hk
  have lf := looks_find (M := model prog w) X I hf
  have ls : Looks (model prog w) hh (isInstance (.ref x) (.type "BaseException")) true := lt.andThen (looks_subIn X C.hs)
  have z0 : (Value.builtin "BaseException.__getattribute__" == Value.builtin "object.__getattribute__") = false := by decide +kernel
  have z1 : (onTheHeap (Value.ref D) && Value.builtin "BaseException.__getattribute__" == Value.builtin "object.__getattribute__") = false := by
    rw [z0]; rfl
  have z2 : (false && onTheHeap (Value.builtin "BaseException.__getattribute__")) = false := rfl
  unfold getAttr? getAttrBy? getAttrBy
  refine wpAny_bind (wpAny_mkText (wpAny_bind (wpAny_attempt (wpAny_holding (wpAny_bind (lt.at (wpAny_bind (lg.at ?_))))))))
  show wpAny _ _ (if (onTheHeap (Value.ref D) && Value.builtin "BaseException.__getattribute__" == Value.builtin "object.__getattribute__") = true
    then _ else _) _ _ _
  rw [z1, if_neg Bool.false_ne_true]
  unfold getAttrByItsOwn hookBefore
  apply wpAny_bind
  rw [if_pos (show onTheHeap (Value.ref D) = true from rfl)]
  apply lk.at
  refine wpAny_bind (wpAny_attempt (wpAny_holding ?_))
  unfold callGetattribute
  rw [z2, if_neg Bool.false_ne_true]
  unfold boundAndCalled
  rw [PySem.F.excAttr_ValueError.ga.bind (.ref x)]
  apply wpAny_bind
  apply wpAny_pure
  show wpAny _ _ (call (.builtin "BaseException.__getattribute__") [.ref x, .str "__class__" tt]) _ _ _
  refine wpAny_call (codeAny_call_builtin PySem.F.excAttr_ValueError.ga.plain PySem.F.entry_bexc_ga ?_)
  refine @PySem.W.check_slot (model prog w) _ _ ⟨hh, gg, dd, tt + 1, oo⟩ "BaseException.__getattribute__" "BaseException" "__getattribute__"
    (.ref x) [.str "__class__" tt] [] _ (by decide +kernel) (by decide +kernel) ls (PySem.F.args_bexc_ga (.ref x) (.str "__class__" tt)) ?_
  unfold Builtin.«object.__getattribute__»
  refine wpAny_bind (wpAny_of_eq (a := ((Value.ref x : Value), [Value.str "__class__" tt])) (by
    first
      | rfl
      | (simp only [slotArgs]; rfl)) ?_)
  refine wpAny_bind (wpAny_pure (wpAny_bind (lt.at (wpAny_bind (lf.at ?_)))))
  show wpAny _ _ (holding [Value.builtin "object.__class__"]
    (call (.builtin "getset_descriptor.__get__") [.builtin "object.__class__", .ref x, .ref D]) >>= ret) _ _ _
  refine wpAny_bind (wpAny_holding (wpAny_call (PySem.W.class_get (s := ⟨hh, gg, dd, tt + 1, oo⟩) X I C.hm ?_)))
  apply wpAny_pure
  show wpAny _ _ (handedOut (.ref D)) _ _ _
  rw [PySem.W.handedOut_of (v := .ref D) rfl]
  first
    | exact wpAny_pure (wpAny_pure h)
    | exact wpAny_pure h
    | exact wpAny_pure (wpAny_bind (wpAny_pure (wpAny_pure h)))

theorem errKit (C : L2.ExcC K D) : PySem.W.KitX K (.ref x) (.ref D) (fun h => ∃ ox od, InstAt h x ox D od) := by
  have cls : ∃ c d cd sl, K.lookup D = some ⟨c, d, .cls cd, sl⟩ := by
    obtain ⟨cd, e, _⟩ := any_some C.hd
    unfold clsIn at e
    split at e
    · rename_i c d cd' sl e'
      exact ⟨c, d, cd', sl, e'⟩
    · exact nomatch e
  obtain ⟨c, d, cd, sl, hl⟩ := cls
  refine ⟨fun M h X q => ?_, fun M h X q => ?_, fun h tp ddd its n sl' X ht => ?_, fun X q k => ?_⟩
  · obtain ⟨_, _, I⟩ := q
    exact I.type
  · intro A' Q' E' s' k q'
    unfold isType loadHead
    exact wpAny_bind (wpAny_loadPart (k _ _ (X _ _ hl)) (wpAny_pure q'))
  · cases hq : (Value.ref D == .ref tp) with
    | false => rfl
    | true =>
      have e : D = tp := Value.ref.inj (beq_iff_eq.mp hq)
      subst e
      exact nomatch (X _ _ hl).symm.trans ht
  · obtain ⟨_, _, I⟩ := q
    exact errClass C X I k
end
end LF

namespace LF
open PySem PySem.Spec PyProof.Rows L2
/-- isinstance(e, c) and isinstance(e, (c, ..)) of the error that the suite holds, with its own dict -/
def rIsErr (K : PySem.W.Frag) (D a : Addr) : List V → Hp → VK → Prop := fun xs H Q =>
  (∃ (c : V) (cv : Value) (b : Bool), xs = [.ref a, c] ∧ (∀ u, RelV c u → u = cv) ∧ PySem.W.kitOne K (.ref D) cv = some b ∧ Q (.bl b) H) ∨
  (∃ (tp : Addr) (cs : List V) (us : List Value) (b : Bool), xs = [.ref a, .ref tp] ∧ H tp = some (.tup cs) ∧ Paired ClsV cs us ∧
    PySem.W.kitAny K (.ref D) us = some b ∧ Q (.bl b) H)

theorem call_isErr {X : Cx} {a D : Addr} {oe : Obj} {cls : Value} {d : Option Addr} {pn : List (Addr × Obj)} (C : ExcC X.K D) (hz : Zc cls d oe)
    (hf : ∃ vs, oe.data = .fields vs) :
    CallR (X.suite a ((a, oe) :: pn)) (.builtin "isinstance")
      (fun xs H Q => cls = .ref D ∧ (∀ e, d = some e → ∃ fs, H e = some (.xd fs)) ∧ rIsErr X.K D a xs H Q) := by
  intro pins s σ H xs us Q I r h
  obtain ⟨ec0, hde, h⟩ := h
  subst ec0
  obtain ⟨hget, _⟩ := I.pin (a, oe) (List.mem_append.mpr (.inl List.mem_cons_self))
  obtain ⟨vs, hv⟩ := hf
  have J : ∃ ox od, PySem.W.InstAt s.heap a ox D od := by
    obtain ⟨oc, odd, oda, osl⟩ := oe
    obtain ⟨h1, h2⟩ := hz
    dsimp only at h1 h2 hv
    subst h1 h2 hv
    cases odd with
    | none => exact ⟨_, none, hget, rfl, rfl, trivial⟩
    | some e =>
      obtain ⟨fs, he⟩ := hde e rfl
      obtain ⟨mA, hns, _⟩ := (show ObjOk X.prog X.w H s.heap e (.xd fs) from I.hok e _ he)
      obtain ⟨od, ho, _⟩ := L2.lookIn_ns hns
      exact ⟨_, some od, hget, rfl, rfl, ho⟩
  rcases h with ⟨c, cv, b, rfl, hcv, e, q⟩ | ⟨tp, cs, ws, b, rfl, hT, k, e, q⟩
  · obtain ⟨u1, u2, rfl, r1, r2⟩ := vals2 r
    cases (show u1 = Value.ref a from r1)
    have ec := hcv _ r2
    subst ec
    exact PySem.W.kia_one (errKit C) I.kIn J e (fun z => nomatch z) fun tk => ⟨.bl b, H, I.tok tk, rfl, q⟩
  · obtain ⟨u1, u2, rfl, r1, r2⟩ := vals2 r
    cases (show u1 = Value.ref a from r1)
    cases (show u2 = Value.ref tp from r2)
    obtain ⟨_, its, rv, o, h1, h2, n, h3⟩ := (show ObjOk X.prog X.w H s.heap tp (.tup cs) from I.hok tp _ hT)
    have e3 := ClsV.all k rv
    subst e3
    obtain ⟨oc, od, dt, sl⟩ := o
    simp only at h2 h3
    subst h2 h3
    exact PySem.W.kia_tup (errKit C) I.kIn J h1 e (fun z => nomatch z) fun tk => ⟨.bl b, H, I.tok tk, rfl, q⟩
end LF

set_option Elab.async false
set_option linter.all false
set_option maxRecDepth 100000
set_option maxHeartbeats 4000000
namespace LF
open PySem PySem.Spec PyProof.Rows L2
def lettersN : Str := "abcdefghijklmnopqrstuvwxyz"
theorem low_code : ∀ c : Fin 128, (Unicode.isAlpha c.1 && !(Unicode.isUpper c.1 || Unicode.isTitle c.1)) = decide (c.1 ∈ lettersN.cps.toList) := by decide +kernel
theorem low_lower : ∀ c : Fin 128, c.1 ∈ lettersN.cps.toList → Unicode.isLower c.1 = true ∧ Unicode.isAlpha c.1 = true := by decide +kernel
theorem low_lt : ∀ c ∈ lettersN.cps.toList, c < 128 := by decide +kernel
theorem arr_all (a : Array Nat) (p : Nat → Bool) : a.all p = a.toList.all p := by rw [Array.all_toList]
theorem arr_any (a : Array Nat) (p : Nat → Bool) : a.any p = a.toList.any p := by rw [Array.any_toList]
/-- ASCII letters without capitals are a to z -/
theorem isLow {z : Str} (hz : 1 ≤ z.length) : (Txt.isascii z && (Txt.isalpha z && Txt.islower z)) = z.cps.toList.all fun c => decide (c ∈ lettersN.cps.toList) := by
  unfold Txt.isascii Txt.isalpha Txt.islower
  rw [arr_all, arr_all, arr_any, arr_any]
  have hl : z.cps.toList.length = z.length := by simp [Str.length]
  have hp : decide (z.length > 0) = true := decide_eq_true (by omega)
  rw [hp, Bool.true_and]
  generalize z.cps.toList = l at hl
  rw [Bool.eq_iff_iff]
  simp only [Bool.and_eq_true, List.all_eq_true, List.any_eq_true, Bool.not_eq_true', List.any_eq_false, decide_eq_true_eq, Bool.or_eq_true, not_or, Bool.not_eq_true]
  constructor
  · rintro ⟨h1, h2, ⟨_, _⟩, h4⟩ c hc
    have := low_code ⟨c, h1 c hc⟩
    simp only [h2 c hc, Bool.true_and] at this
    obtain ⟨h5, h6⟩ := h4 c hc
    rw [h5, h6] at this
    exact of_decide_eq_true this.symm
  · intro h
    have f := fun c hc => low_lower ⟨c, low_lt c (h c hc)⟩ (h c hc)
    refine ⟨fun c hc => low_lt c (h c hc), fun c hc => (f c hc).2, ?_, fun c hc => ?_⟩
    · cases l with
      | nil => simp at hl; omega
      | cons a l => exact ⟨a, List.mem_cons_self, (f a List.mem_cons_self).1⟩
    · have := low_code ⟨c, low_lt c (h c hc)⟩
      rw [(f c hc).2, Bool.true_and, decide_eq_true (h c hc)] at this
      simpa using this
/-- z.isascii() and its like -/
theorem pe_isascii {X : Cx} {o : Expr} {to : TE} {apos pos : Pos} (ho : PE X o to)
    (hbase : attributeBase o "isascii" X.env (eval o X.env) = eval o X.env := by rfl) (hline : (apos.endLine == pos.line) = true := by rfl) :
    PE X (.Call (.Attribute o "isascii" apos) [] [] pos) (tM0 (fun x xs H Q => ∃ a, x = .str a ∧ xs = [] ∧ True ∧ Q (.bl (Txt.isascii a)) H) to) :=
  pe_m0 F.slot_str_isascii F.type_str_isascii mt_isascii ho hbase hline
theorem pe_isalpha {X : Cx} {o : Expr} {to : TE} {apos pos : Pos} (ho : PE X o to)
    (hbase : attributeBase o "isalpha" X.env (eval o X.env) = eval o X.env := by rfl) (hline : (apos.endLine == pos.line) = true := by rfl) :
    PE X (.Call (.Attribute o "isalpha" apos) [] [] pos) (tM0 (fun x xs H Q => ∃ a, x = .str a ∧ xs = [] ∧ True ∧ Q (.bl (Txt.isalpha a)) H) to) :=
  pe_m0 F.slot_str_isalpha F.type_str_isalpha mt_isalpha ho hbase hline
theorem pe_islower {X : Cx} {o : Expr} {to : TE} {apos pos : Pos} (ho : PE X o to)
    (hbase : attributeBase o "islower" X.env (eval o X.env) = eval o X.env := by rfl) (hline : (apos.endLine == pos.line) = true := by rfl) :
    PE X (.Call (.Attribute o "islower" apos) [] [] pos) (tM0 (fun x xs H Q => ∃ a, x = .str a ∧ xs = [] ∧ True ∧ Q (.bl (Txt.islower a)) H) to) :=
  pe_m0 F.slot_str_islower F.type_str_islower mt_islower ho hbase hline
end LF

set_option Elab.async false
set_option linter.all false
set_option maxRecDepth 100000
set_option maxHeartbeats 4000000
namespace LF
open PySem PySem.Spec PyProof.Rows L2
/-- a def of the text: its promise, its place, how it is bound -/
structure DefAt (P : Program) (w : World) (K : PySem.W.Frag) (mg : Str → Option Value) (base : Heap) (x : Str) (k : Nat) (f : Addr) (fd : FuncData) (ps : List Str) (sp : Sp) : Prop where
  F : FnOk P w K mg base CX0 k f fd ps sp
  g : mg x = some (.ref f)
  kp : PySem.W.keepIn K (.ref f) = true
  b : Binds K fd ps []
theorem pe_callD {X : Cx} {x : Str} {k : Nat} {f : Addr} {fd : FuncData} {ps : List Str} {sp : Sp} {p pos : Pos} {e : Expr} {es : List Expr} {t : TA}
    (D : DefAt X.prog X.w X.K X.mg X.base x k f fd ps sp) (hr : Room k X.A) (ha : PA X (e :: es) t) (hg : Gl X x := by rfl)
    (hdb : (x == ("__debug__" : Str)) = false := by decide)
    (he : starEach (e :: es) X.env = (false, eval e X.env) :: starEach es X.env := by rfl) (hpl : (backTo pos (starEach es X.env)).any (·.1) = false := by rfl) :
    PE X (.Call (.Name x p) (e :: es) [] pos) (tCall sp [] E0 t) := pe_call D.F hr hg D.g D.kp D.b .nil pass0 ha hdb he hpl

/-- x.rpartition(sep) -/
theorem mt_rpartition {X : Cx} : MtR X "str.rpartition" (fun x xs H Q => ∃ a b, x = .str a ∧ xs = [.str b] ∧ (b.length == 0) = false ∧ a.length ≤ sizeLine ∧
    ∀ p, H p = none → Q (.ref p) (upd H p (.tup [.str (Txt.rpartition a b).1, .str (Txt.rpartition a b).2.1, .str (Txt.rpartition a b).2.2]))) := by
  rintro pins s σ H x xs v us Q I rx rs ⟨a, b, rfl, rfl, hb, hz, h⟩
  obtain ⟨t, rfl⟩ := rx
  obtain ⟨u, rfl, t2, rfl⟩ := vals1 rs
  refine call_meets F.slot_str_rpartition (typeIs_str _ _ _) F.entry_str_rpartition (F.args_str_rpartition_2 _ _) (meets_str_rpartition a b t t2 hb hz) ?_
  unfold Txt.rpartition at h
  revert h
  cases Builtin.Str.lastOccurrence a b 0 a.length with
  | none => exact fun h => laid_parts I h
  | some i => exact fun h => laid_parts I h
theorem pe_rpartition {X : Cx} {o e : Expr} {to te : TE} {apos pos : Pos} (ho : PE X o to) (he : PE X e te) (hs : starEach [e] X.env = [(false, eval e X.env)] := by rfl)
    (hbase : attributeBase o "rpartition" X.env (eval o X.env) = eval o X.env := by rfl) (hline : (apos.endLine == pos.line) = true := by rfl) :
    PE X (.Call (.Attribute o "rpartition" apos) [e] [] pos) (tM1 (fun x xs H Q => ∃ a b, x = .str a ∧ xs = [.str b] ∧ (b.length == 0) = false ∧ a.length ≤ sizeLine ∧
      ∀ p, H p = none → Q (.ref p) (upd H p (.tup [.str (Txt.rpartition a b).1, .str (Txt.rpartition a b).2.1, .str (Txt.rpartition a b).2.2]))) to te) :=
  pe_m1 F.slot_str_rpartition F.type_str_rpartition mt_rpartition ho he hs hbase hline
end LF

namespace LF
theorem ifD {p : Prop} [Decidable p] {A B : Prop} (h1 : p → A) (h2 : ¬ p → B) : if decide p = true then A else B := by
  by_cases h : p
  · rw [if_pos (decide_eq_true h)]; exact h1 h
  · rw [if_neg (by rw [decide_eq_false h]; exact Bool.false_ne_true)]; exact h2 h
theorem ifN {p : Prop} [Decidable p] {A B : Prop} (h1 : p → B) (h2 : ¬ p → A) : if (!decide p) = true then A else B := by
  by_cases h : p
  · rw [if_neg (by rw [decide_eq_true h]; exact Bool.false_ne_true)]; exact h1 h
  · rw [if_pos (by rw [decide_eq_false h]; rfl)]; exact h2 h
end LF
namespace K5
open PySem PySem.Spec PyProof.Rows L2 LF
def topS (i : Nat) : Stmt := PySem.Challenge.pw_linkfarms_k05_packages_changed.main.body.getD i (.Pass ⟨0, 0, 0, 0⟩)
def letters : Str := "abcdefghijklmnopqrstuvwxyz"
def isNm (z : Str) : Bool := decide (1 ≤ z.length ∧ z.length ≤ 8) && z.cps.toList.all fun c => decide (c ∈ letters.cps.toList)
/-- what the top has written, but the defs -/
structure Txt (K : PySem.W.Frag) (mg : Str → Option Value) (tk1 tk2 : Tok) : Prop where
  g_LONGEST_NAME : mg "LONGEST_NAME" = some (.int 8 tk2)
  n_isinstance : mg "isinstance" = none
  n_str : mg "str" = none
  n_len : mg "len" = none
  n_all : mg "all" = none
  n_any : mg "any" = none
  n_tuple : mg "tuple" = none
  n_list : mg "list" = none
  n_dict : mg "dict" = none
  n_sorted : mg "sorted" = none
  n_range : mg "range" = none
  n_abs : mg "abs" = none
  n_int : mg "int" = none
  n_bool : mg "bool" = none
  n_repr : mg "repr" = none
  n_max : mg "max" = none
  n_set : mg "set" = none
  n_min : mg "min" = none
  n_ValueError : mg "ValueError" = none
  n_OverflowError : mg "OverflowError" = none

def notStr : List String := ["NoneType", "int", "bool", "list", "tuple", "dict"]
def spName (K : PySem.W.Frag) : Sp := fun vs H Q _ => ∃ x, vs = [x] ∧
  ((∃ z : Str, x = .str z ∧ z.length ≤ 1000000 ∧ ∀ H', Same H H' → Q (.bl (isNm z)) H') ∨
   (∃ t, TyX K H x t ∧ PySem.W.kitOne K t (.type "str") = some false ∧ ∀ H', Same H H' → Q (.bl false) H'))

abbrev s_is_name : Stmt := topS 12
abbrev N_is_name : List Str := ["thing"]
theorem sc_is_name : FnScope ["thing"] ["thing"] (defScope s_is_name) := ⟨rfl, rfl, rfl, by decide +kernel, rfl, by decide +kernel, by decide +kernel⟩

theorem kit_no {K : PySem.W.Frag} {t : String} (h : t ∈ notStr) : PySem.W.kitOne K (.type t) (.type "str") = some false := by
  simp only [notStr, List.mem_cons, List.not_mem_nil, or_false] at h
  rcases h with rfl | rfl | rfl | rfl | rfl | rfl <;> exact kit_ty (by decide +kernel)
theorem kit_str {K : PySem.W.Frag} : PySem.W.kitOne K (.type "str") (.type "str") = some true := kit_ty (by decide +kernel)
section
variable {P : Program} {w : World} {K : PySem.W.Frag} {mg : Str → Option Value} {base : Heap} {tk1 tk2 : Tok}
theorem ok_is_name {f : Addr} {fd : FuncData} (F : Fun K "is_name" "is_name" s_is_name f fd) (T : Txt K mg tk1 tk2) : FnOk P w K mg base CX0 1 f fd ["thing"] (spName K) := by
  refine F.ok sc_is_name (fun vs H Q E h => ?_) (fun cdv A outer s H vs Q E hr h => ?_)
  · obtain ⟨x, rfl, _⟩ := h
    rfl
  refine ⟨_, (pss_one (ps_ret (pe_and (pe_callB call_isi (by rfl) T.n_isinstance (by decide +kernel) (pa_cons (pv 0) (pa_cons (pe_bltn (v := .ty "str") (by rfl) T.n_str (by decide +kernel) rfl) pa_nil))) (pe_and (pe_chain op_le op_le pe_int (pe_callB call_len_str (by rfl) T.n_len (by decide +kernel) (pa_cons (pv 0) pa_nil)) (pe_glob (v := .int 8) rfl T.g_LONGEST_NAME ⟨_, rfl⟩)) (pe_and (pe_isascii (pv 0)) (pe_and (pe_isalpha (pv 0)) (pe_one (pe_islower (pv 0))))))))), ?_⟩
  obtain ⟨x, rfl, h⟩ := h
  rcases h with ⟨z, rfl, hz, hq⟩ | ⟨t, ht, ty, hq⟩
  · refine ⟨_, rfl, _, .ty "str", _, _, true, rfl, .ty _, .base (.str _), kit_str, ?_⟩
    refine ⟨_, rfl, iteT ?_⟩
    have hl : z.length ≤ sizeLine := Nat.le_trans hz (by decide)
    have q0 := hq H (Same.refl H)
    have fin : isNm z = (decide (1 ≤ z.length ∧ z.length ≤ 8) && (PySem.Txt.isascii z && (PySem.Txt.isalpha z && PySem.Txt.islower z))) := by
      unfold isNm
      by_cases h1 : 1 ≤ z.length
      · rw [isLow h1]; rfl
      · rw [decide_eq_false (by omega)]; rfl
    rw [fin] at q0
    refine ⟨_, rfl, z, rfl, hl, _, _, rfl, rfl, _, rfl, ?_⟩
    refine ifD (fun h1 => ?_) (fun h1 => ?_)
    · refine ⟨_, _, rfl, rfl, _, rfl, ?_⟩
      refine ifD (fun h2 => ?_) (fun h2 => ?_)
      · rw [decide_eq_true (show 1 ≤ z.length ∧ z.length ≤ 8 by omega), Bool.true_and] at q0
        refine ⟨_, rfl, ⟨_, rfl⟩, z, rfl, rfl, trivial, _, rfl, ?_⟩
        cases e1 : PySem.Txt.isascii z with
        | false => rw [e1] at q0; exact iteF q0
        | true =>
          rw [e1, Bool.true_and] at q0
          refine iteT ⟨_, rfl, ⟨_, rfl⟩, z, rfl, rfl, trivial, _, rfl, ?_⟩
          cases e2 : PySem.Txt.isalpha z with
          | false => rw [e2] at q0; exact iteF q0
          | true =>
            rw [e2, Bool.true_and] at q0
            exact iteT ⟨_, rfl, ⟨_, rfl⟩, z, rfl, rfl, trivial, q0⟩
      · rw [decide_eq_false (by omega), Bool.false_and] at q0
        exact q0
    · rw [decide_eq_false (by omega), Bool.false_and] at q0
      refine ⟨_, rfl, ?_⟩
      exact q0
  · have q0 := hq H (Same.refl H)
    refine ⟨_, rfl, _, .ty "str", _, _, false, rfl, .ty _, ht, ty, ?_⟩
    exact ⟨_, rfl, iteF q0⟩
end
end K5

set_option Elab.async false
set_option linter.all false
set_option maxRecDepth 100000
set_option maxHeartbeats 4000000
namespace LF
open PySem PySem.Spec PyProof.Rows L2
/-- all that was tracked but b is as it was -/
def Keep (b : Addr) (H H' : Hp) : Prop := ∀ a o, a ≠ b → H a = some o → H' a = some o
theorem Keep.refl (b : Addr) (H : Hp) : Keep b H H := fun _ _ _ e => e
theorem Keep.trans {b : Addr} {H H1 H2 : Hp} (x : Keep b H H1) (y : Keep b H1 H2) : Keep b H H2 := fun a o n e => y a o n (x a o n e)
theorem Same.keep {b : Addr} {H H' : Hp} (s : Same H H') : Keep b H H' := fun a o _ e => s a o e
theorem same_upd {H H' : Hp} {D : Addr} {o : HO} (hD : H D = none) (s : Same H H') : Same H (upd H' D o) := fun b u e => by
  rw [upd_ne (ne_of_none e hD)]; exact s b u e
theorem same_new {H : Hp} {D : Addr} {o : HO} (hD : H D = none) : Same H (upd H D o) := same_upd hD (Same.refl H)
theorem keep_upd {b : Addr} {H H' : Hp} {D : Addr} {o : HO} (hD : H D = none) (s : Keep b H H') : Keep b H (upd H' D o) := fun a u n e => by
  rw [upd_ne (ne_of_none e hD)]; exact s a u n e
theorem keep_put {b : Addr} {H H' : Hp} {o : HO} (s : Keep b H H') : Keep b H (upd H' b o) := fun a u n e => by
  rw [upd_ne n]; exact s a u n e
theorem Keep.free {b : Addr} {H H' : Hp} (s : Keep b H H') {D : Addr} (n : D ≠ b) (h : H' D = none) : H D = none := by
  cases q : H D with
  | none => rfl
  | some o => rw [s D o n q] at h; cases h
theorem keep_seq {b a : Addr} {H H' : Hp} {K : PySem.W.Frag} {xs : List V} (s : Keep b H H') (n : a ≠ b) (h : SqL K H a xs) : SqL K H' a xs := by
  rcases h with (h | ⟨o, h⟩) | h
  · exact Or.inl (Or.inl (s _ _ n h))
  · exact Or.inl (Or.inr ⟨o, s _ _ n h⟩)
  · exact Or.inr h

/-- the law's bag of draws -/
def BagAt (H : Hp) (b : Addr) : Prop := ∃ d x n : Int, H b = some (.lst [.int d, .int x, .int n]) ∧ 0 ≤ d ∧ 0 ≤ x ∧ x < 2147483647
theorem BagAt.keep {H H' : Hp} {b a : Addr} (h : BagAt H b) (s : Keep a H H') (n : b ≠ a) : BagAt H' b := by
  obtain ⟨d, x, m, e, r⟩ := h
  exact ⟨d, x, m, s _ _ n e, r⟩
theorem BagAt.same {H H' : Hp} {b : Addr} (h : BagAt H b) (s : Same H H') : BagAt H' b := by
  obtain ⟨d, x, m, e, r⟩ := h
  exact ⟨d, x, m, s _ _ e, r⟩
theorem BagAt.ne {H : Hp} {b D : Addr} (h : BagAt H b) (hD : H D = none) : D ≠ b := by
  obtain ⟨d, x, m, e, r⟩ := h
  exact Ne.symm (ne_of_none e hD)

section
variable {K : PySem.W.Frag} {a D b : Addr} {xs : List V} {tt : TT} {te : TE} {j : Nat} {σ : L2.St} {H : Hp} {Qd : Hp → Prop}
/-- a comprehension over a list, nothing tracked is changed: filter and map -/
theorem lc_filt (p : V → Bool) (f : V → V) (hD : H D = none) (hS : SqL K H a xs) (hlen : xs.length < sizeLine)
    (ht : ∀ x H1 (R : Bool → Hp → Prop), x ∈ xs → Same H H1 → (∀ H3, Same H1 H3 → R (p x) H3) → tt ((wipe σ [j]).set j (some x)) H1 R)
    (he : ∀ x H1 (R : V → Hp → Prop), x ∈ xs → p x = true → Same H H1 → (∀ H3, Same H1 H3 → R (f x) H3) → te ((wipe σ [j]).set j (some x)) H1 R)
    (hd : ∀ H', Same H H' → H' D = some (.lst ((xs.filter p).map f)) → Qd H') :
    ∃ W : Nat → Nat → Hp → Prop, (∃ m, W 0 m (upd H D (.lst []))) ∧ ∀ i m H, W i m H →
      ((Itl K a).stop i H ∧ Qd H) ∨ ((Itl K a).go i H ∧ ∃ Nx : Hp → Prop, (∀ H', Nx H' → ∃ m', m' < m ∧ W (i + 1) m' H') ∧ ∀ x H', (Itl K a).yld i H x H' → gName j x (wipe σ [j]) H' fun σ2 H2 => wipe σ2 [j] = wipe σ [j] ∧ tt σ2 H2 fun b H3 =>
        if b = true then te σ2 H3 fun y H4 => ∃ acc, H4 D = some (.lst acc) ∧ acc.length < sizeLine ∧ Nx (upd H4 D (.lst (acc ++ [y]))) else Nx H3) := by
  refine lc_list (Pv := fun i H' => Same H H' ∧ H' D = some (.lst (((xs.take i).filter p).map f))) ⟨same_new hD, upd_same⟩ (fun i H' _ h => sqL_same h.1 hS) ?_ ?_
  · rintro i x H1 hx ⟨sm, hd1⟩
    have hm := List.mem_of_getElem? hx
    have et : xs.take (i + 1) = xs.take i ++ [x] := by rw [List.take_add_one, hx]; rfl
    have hl : (((xs.take i).filter p).map f).length < sizeLine := by
      rw [List.length_map]
      have h1 : ((xs.take i).filter p).length ≤ (xs.take i).length := List.length_filter_le _ _
      have h2 : (xs.take i).length ≤ xs.length := by rw [List.length_take]; exact Nat.min_le_right _ _
      omega
    refine ⟨?_, ht x H1 _ hm sm fun H3 s3 => ?_⟩
    · show (wipe ((wipe σ [j]).set j (some x)) [j]) = wipe σ [j]
      show (((σ.set j none).set j (some x)).set j none) = σ.set j none
      simp
    · cases hp : p x with
      | true =>
        refine iteT (he x H3 _ hm hp (sm.trans s3) fun H4 s4 => ?_)
        refine ⟨_, s4 _ _ (s3 _ _ hd1), hl, same_upd hD ((sm.trans s3).trans s4), ?_⟩
        rw [upd_same, et, List.filter_append, List.map_append]
        simp [hp]
      | false =>
        refine iteF ⟨sm.trans s3, ?_⟩
        rw [s3 _ _ hd1, et, List.filter_append, List.map_append]
        simp [hp]
  · rintro H1 ⟨sm, hd1⟩
    rw [List.take_length] at hd1
    exact hd H1 sm hd1
/-- a comprehension over range(n) whose element draws from the bag at b -/
theorem lc_draw {lo : Int} {n : Nat} (Good : V → Prop) (hb : BagAt H b) (hD : H D = none) (hlen : n < sizeLine)
    (he : ∀ i H1 (R : V → Hp → Prop), i < n → Keep b H H1 → BagAt H1 b → (∀ y H3, Keep b H1 H3 → BagAt H3 b → Good y → R y H3) → te ((wipe σ [j]).set j (some (.int (lo + i)))) H1 R)
    (hd : ∀ H' acc, Keep b H H' → BagAt H' b → H' D = some (.lst acc) → acc.length = n → (∀ y ∈ acc, Good y) → Qd H') :
    ∃ W : Nat → Nat → Hp → Prop, (∃ m, W 0 m (upd H D (.lst []))) ∧ ∀ i m H, W i m H →
      ((Itr lo n).stop i H ∧ Qd H) ∨ ((Itr lo n).go i H ∧ ∃ Nx : Hp → Prop, (∀ H', Nx H' → ∃ m', m' < m ∧ W (i + 1) m' H') ∧ ∀ x H', (Itr lo n).yld i H x H' → gName j x (wipe σ [j]) H' fun σ2 H2 => wipe σ2 [j] = wipe σ [j] ∧ tYes σ2 H2 fun b H3 =>
        if b = true then te σ2 H3 fun y H4 => ∃ acc, H4 D = some (.lst acc) ∧ acc.length < sizeLine ∧ Nx (upd H4 D (.lst (acc ++ [y]))) else Nx H3) := by
  have nDb := hb.ne hD
  refine lc_range (Pv := fun i H' => Keep b H H' ∧ BagAt H' b ∧ ∃ acc, H' D = some (.lst acc) ∧ acc.length = i ∧ ∀ y ∈ acc, Good y)
    ⟨keep_upd hD (Keep.refl b H), hb.same (same_new hD), [], upd_same, rfl, fun _ h => nomatch h⟩ ?_ ?_
  · rintro i H1 hi ⟨kp, bg, acc, hacc, hl, hg⟩
    refine ⟨?_, ?_⟩
    · show (((σ.set j none).set j (some (V.int (lo + i)))).set j none) = σ.set j none
      simp
    · refine he i H1 _ hi kp bg fun y H3 k3 b3 gy => ?_
      have h3 := k3 D _ nDb hacc
      refine ⟨acc, h3, by omega, keep_upd hD (kp.trans k3), ?_, acc ++ [y], upd_same, by simp [hl], ?_⟩
      · obtain ⟨d, x, m, e, r⟩ := b3
        exact ⟨d, x, m, by rw [upd_ne nDb.symm]; exact e, r⟩
      · intro z hz
        rcases List.mem_append.mp hz with q | q
        · exact hg z q
        · rw [List.mem_singleton.mp q]; exact gy
  · rintro H1 ⟨kp, bg, acc, hacc, hl, hg⟩
    exact hd H1 acc kp bg hacc hl hg
end
end LF

set_option Elab.async false
set_option linter.all false
set_option maxRecDepth 100000
set_option maxHeartbeats 4000000
namespace K5
open PySem PySem.Spec PyProof.Rows L2 LF
def c_sl : Str := "/"
def parts (z : Str) : List Str := if z = "" then [] else PySem.Txt.split z c_sl
def isPt (z : Str) : Bool := decide (z = "") || (PySem.Txt.split z c_sl).all isNm
/-- a value asked whether it is one: a text, or of another type -/
def isOk (K : PySem.W.Frag) (H : Hp) (x : V) (g : Str → Bool) (b : Bool) : Prop :=
  (∃ z : Str, x = .str z ∧ z.length ≤ 1000000 ∧ b = g z) ∨ ((∃ t, TyX K H x t ∧ PySem.W.kitOne K t (.type "str") = some false) ∧ b = false)
def spPath (K : PySem.W.Frag) : Sp := fun vs H Q _ => ∃ (x : V) (b : Bool), vs = [x] ∧ isOk K H x isPt b ∧ ∀ H', Same H H' → Q (.bl b) H'
def spCheck : Sp := fun vs H Q _ => ∃ z : Str, vs = [.str z] ∧ z.length ≤ 1000000 ∧ isPt z = true ∧ ∀ H', Same H H' → Q .non H'
def spSplit : Sp := fun vs H Q _ => ∃ z : Str, vs = [.str z] ∧ z.length ≤ 1000000 ∧ ∀ H' p, Same H H' → H p = none → H' p = some (.lst ((parts z).map V.str)) → Q (.ref p) H'
def spParent : Sp := fun vs H Q _ => ∃ z : Str, vs = [.str z] ∧ z.length ≤ 1000000 ∧ isPt z = true ∧ ∀ H', Same H H' → Q (if z = "" then .non else .str (PySem.Txt.rpartition z c_sl).1) H'
def keyD (z : Str) : PyData := .tuple [.int (parts z).length, .list ((parts z).map .str)]
def spKey (K : PySem.W.Frag) : Sp := fun vs H Q _ => ∃ z : Str, vs = [.str z] ∧ z.length ≤ 1000000 ∧ ∀ v H', Same H H' → Dp K H' v (keyD z) → Q v H'

abbrev s_is_path : Stmt := topS 13
abbrev N_is_path : List Str := ["thing", "part"]
theorem sc_is_path : FnScope ["thing", "part"] ["thing"] (defScope s_is_path) := ⟨rfl, rfl, rfl, by decide +kernel, rfl, by decide +kernel, by decide +kernel⟩
abbrev s_check_path : Stmt := topS 14
theorem sc_check_path : FnScope ["path"] ["path"] (defScope s_check_path) := ⟨rfl, rfl, rfl, by decide +kernel, rfl, by decide +kernel, by decide +kernel⟩
abbrev s_in_order : Stmt := topS 15
theorem sc_in_order : FnScope ["paths"] ["paths"] (defScope s_in_order) := ⟨rfl, rfl, rfl, by decide +kernel, rfl, by decide +kernel, by decide +kernel⟩
abbrev s_split_path : Stmt := topS 16
theorem sc_split_path : FnScope ["path"] ["path"] (defScope s_split_path) := ⟨rfl, rfl, rfl, by decide +kernel, rfl, by decide +kernel, by decide +kernel⟩
abbrev s_order_key : Stmt := topS 17
theorem sc_order_key : FnScope ["path", "parts"] ["path"] (defScope s_order_key) := ⟨rfl, rfl, rfl, by decide +kernel, rfl, by decide +kernel, by decide +kernel⟩

theorem str_dec (z y : Str) : decide (V.str z = V.str y) = decide (z = y) := by
  by_cases h : z = y
  · subst h; simp
  · rw [decide_eq_false h, decide_eq_false (fun e => h (V.str.inj e))]
theorem sl_ne : (c_sl.length == 0) = false := by decide +kernel
theorem parts_len (z : Str) (hz : z.length ≤ 1000000) : (parts z).length ≤ 1000002 := by
  unfold parts
  split
  · exact Nat.zero_le _
  · exact Nat.le_trans (split_le z c_sl) (by omega)
theorem sizeLine_big : 1000010 < sizeLine := by decide

section
variable {P : Program} {w : World} {K : PySem.W.Frag} {mg : Str → Option Value} {base : Heap} {tk1 tk2 : Tok}
theorem ok_is_path {f f1 : Addr} {fd fd1 : FuncData} (F : Fun K "is_path" "is_path" s_is_path f fd) (T : Txt K mg tk1 tk2) (d_is_name : DefAt P w K mg base "is_name" 1 f1 fd1 ["thing"] (spName K)) :
    FnOk P w K mg base CX0 2 f fd ["thing"] (spPath K) := by
  refine F.ok sc_is_path (fun vs H Q E h => ?_) (fun cdv A outer s H vs Q E hr h => ?_)
  · obtain ⟨x, b, rfl, _⟩ := h
    rfl
  refine ⟨_, (pss_cons (ps_if (pt_not (pt_val (pe_callB call_isi (by rfl) T.n_isinstance (by decide +kernel) (pa_cons (pv 0) (pa_cons (pe_bltn (v := .ty "str") (by rfl) T.n_str (by decide +kernel) rfl) pa_nil))))) (pss_one (ps_ret pe_bl)) pss_nil)
    (pss_one (ps_ret (pe_or (pe_cmpR op_eq (pv 0) pe_str (nomark _)) (pe_one (pe_callB (cr_all rfl) (by rfl) T.n_all (by decide +kernel) (pa_cons (pe_lc (own := [("part", 1)]) rfl sc_is_path.nd (pi_list (pe_split (pv 0) pe_str)) (blkOk_by (N := N_is_path) (sc := defScope s_is_path) (by decide +kernel)) (fun _ _ _ _ _ => pg_name (i := 1) sc_is_path.nd rfl (Or.inl rfl)) (fun _ _ _ _ _ => pts_nil) (fun _ _ _ _ _ => (pe_callD d_is_name (hr.mono (by decide)) (pa_cons (pv 1) pa_nil)))) pa_nil))))))), ?_⟩
  obtain ⟨x, b, rfl, hx, hq⟩ := h
  rcases hx with ⟨z, rfl, hz, rfl⟩ | ⟨⟨t, ty, ht⟩, rfl⟩
  rotate_left
  · refine ⟨_, rfl, _, .ty "str", _, _, false, rfl, .ty _, ty, ht, ?_⟩
    exact ⟨_, rfl, iteT (hq H (Same.refl H))⟩
  refine ⟨_, rfl, _, .ty "str", _, _, true, rfl, .ty _, .base (.str _), kit_str, _, rfl, iteF ?_⟩
  refine ⟨_, rfl, rfl, _, rfl, ?_⟩
  have hbig := sizeLine_big
  rw [str_dec]
  refine ifD (fun h1 => ?_) (fun h1 => ?_)
  · have := hq H (Same.refl H)
    unfold isPt at this
    rw [decide_eq_true h1] at this
    exact this
  · refine ⟨_, rfl, ⟨_, rfl⟩, z, c_sl, rfl, rfl, sl_ne, by omega, fun p hp => ?_⟩
    refine ⟨p, rfl, ⟨_, SqL.of upd_same⟩, fun D hD => ?_⟩
    refine lc_filt (xs := (PySem.Txt.split z c_sl).map V.str) (fun _ => true) (fun x => match x with | .str y => .bl (isNm y) | _ => .non) hD (SqL.of upd_same) ?_ (fun x H1 R _ sm hR => hR H1 (Same.refl H1)) ?_ ?_
    · rw [List.length_map]
      have := split_le z c_sl
      omega
    · intro x H1 R hx _ sm hR
      obtain ⟨y, hy, rfl⟩ := List.mem_map.mp hx
      refine ⟨_, rfl, _, rfl, Or.inl ⟨y, rfl, Nat.le_trans (part_short hy) hz, fun H' sm' => hR H' sm'⟩⟩
    · intro H2 sm hd
      refine ⟨D, (PySem.Txt.split z c_sl).map isNm, rfl, SqL.of ?_, ?_⟩
      · rw [hd, List.filter_eq_self.mpr (fun _ _ => rfl), List.map_map, List.map_map]; rfl
      · have := hq H2 ((same_new hp).trans sm)
        unfold isPt at this
        rw [decide_eq_false h1, Bool.false_or] at this
        rw [List.all_map]
        exact this
theorem ok_check_path {f f1 : Addr} {fd fd1 : FuncData} (F : Fun K "check_path" "check_path" s_check_path f fd) (d_is_path : DefAt P w K mg base "is_path" 2 f1 fd1 ["thing"] (spPath K)) :
    FnOk P w K mg base CX0 3 f fd ["path"] spCheck := by
  refine F.ok sc_check_path (fun vs H Q E h => ?_) (fun cdv A outer s H vs Q E hr h => ?_)
  · obtain ⟨x, rfl, _⟩ := h
    rfl
  refine ⟨_, (pss_one (ps_if (pt_not (pt_val (pe_callD d_is_path (hr.mono (by decide)) (pa_cons (pv 0) pa_nil)))) (pss_one ps_never) pss_nil)), ?_⟩
  obtain ⟨z, rfl, hz, hp, hq⟩ := h
  refine ⟨_, rfl, .str z, true, rfl, Or.inl ⟨z, rfl, hz, hp.symm⟩, fun H' sm => ⟨_, rfl, ?_⟩⟩
  exact iteF (hq H' sm)
theorem ok_split_path {f : Addr} {fd : FuncData} (F : Fun K "split_path" "split_path" s_split_path f fd) : FnOk P w K mg base CX0 1 f fd ["path"] spSplit := by
  refine F.ok sc_split_path (fun vs H Q E h => ?_) (fun cdv A outer s H vs Q E hr h => ?_)
  · obtain ⟨x, rfl, _⟩ := h
    rfl
  refine ⟨_, (pss_cons (ps_if (pt_cmpR op_eq (pv 0) pe_str (nomark _)) (pss_one (ps_ret (pe_lst pa_nil))) pss_nil) (pss_one (ps_ret (pe_split (pv 0) pe_str)))), ?_⟩
  obtain ⟨z, rfl, hz, hq⟩ := h
  have hbig := sizeLine_big
  refine ⟨_, rfl, rfl, _, rfl, ?_⟩
  rw [str_dec]
  refine ifD (fun h1 => ?_) (fun h1 => ?_)
  · refine ⟨Nat.zero_le _, fun p hp => hq _ p (same_new hp) hp ?_⟩
    rw [upd_same, parts, if_pos h1]; rfl
  · refine ⟨_, rfl, ⟨_, rfl⟩, z, c_sl, rfl, rfl, sl_ne, by omega, fun p hp => hq _ p (same_new hp) hp ?_⟩
    rw [upd_same, parts, if_neg h1]
theorem ok_order_key {f f1 : Addr} {fd fd1 : FuncData} (F : Fun K "order_key" "order_key" s_order_key f fd) (T : Txt K mg tk1 tk2) (d_split_path : DefAt P w K mg base "split_path" 1 f1 fd1 ["path"] spSplit) :
    FnOk P w K mg base CX0 2 f fd ["path"] (spKey K) := by
  refine F.ok sc_order_key (fun vs H Q E h => ?_) (fun cdv A outer s H vs Q E hr h => ?_)
  · obtain ⟨x, rfl, _⟩ := h
    rfl
  refine ⟨_, (pss_cons (ps_set (i := 1) sc_order_key.nd rfl (Or.inl rfl) (pe_callD d_split_path (hr.mono (by decide)) (pa_cons (pv 0) pa_nil)))
    (pss_one (ps_ret (pe_tup (pa_cons (pe_callB call_len_seq (by rfl) T.n_len (by decide +kernel) (pa_cons (pv 1) pa_nil)) (pa_cons (pv 1) pa_nil)))))), ?_⟩
  obtain ⟨z, rfl, hz, hq⟩ := h
  refine ⟨_, rfl, z, rfl, hz, fun H1 p s1 np hp1 => ?_⟩
  refine ⟨_, rfl, p, _, rfl, Or.inl (SqL.of hp1), _, rfl, (by show 2 ≤ sizeLine; decide), fun q hq1 => ?_⟩
  refine hq _ _ (s1.trans (same_new hq1)) ?_
  have npq : p ≠ q := ne_of_none hp1 hq1
  have dps : ∀ l : List Str, DpAll K (upd H1 q (.tup [.int ((List.map V.str (parts z)).length : Nat), .ref p])) (l.map V.str) (l.map .str) := by
    intro l
    induction l with
    | nil => exact .nil
    | cons a l ih => exact .cons (.str a) ih
  refine .tup (SqT.of upd_same) (.cons ?_ (.cons (.lst (SqL.of (by rw [upd_ne npq]; exact hp1)) (dps _)) .nil))
  rw [List.length_map]
  exact .int _
end
end K5

set_option Elab.async false
set_option linter.all false
set_option maxRecDepth 100000
set_option maxHeartbeats 4000000
namespace K5
open PySem PySem.Spec PyProof.Rows L2 LF
theorem isNm_len {z : Str} (h : isNm z = true) : 1 ≤ z.length ∧ z.length ≤ 8 := by
  unfold isNm at h
  rw [Bool.and_eq_true, decide_eq_true_eq] at h
  exact h.1
theorem sum_le {ss : List Str} {n : Nat} (h : ∀ s ∈ ss, s.length ≤ n) : (ss.map (·.length)).sum ≤ n * ss.length := by
  induction ss with
  | nil => simp
  | cons a l ih =>
    have h1 := h a List.mem_cons_self
    have h2 := ih fun s hs => h s (List.mem_cons_of_mem _ hs)
    rw [List.map_cons, List.sum_cons, List.length_cons, Nat.mul_succ]
    omega

def spOrder (K : PySem.W.Frag) : Sp := fun vs H Q _ => ∃ (a : Addr) (ws : List Str), vs = [.ref a] ∧ SqL K H a (ws.map V.str) ∧ (∀ x ∈ ws, x.length ≤ 1000000) ∧
  ∀ H' p, Same H H' → H p = none → H' p = some (.lst ((ws.mergeSort (PySem.W.dataLe false keyD)).map V.str)) → Q (.ref p) H'
theorem alike_strs : ∀ xs ys : List Str, PySem.W.alikeAll (xs.map .str) (ys.map .str) = true
  | [], _ => by simp [PySem.W.alikeAll]
  | _ :: _, [] => by simp [PySem.W.alikeAll]
  | x :: xs, y :: ys => by
    show PySem.W.alikeAll (.str x :: xs.map .str) (.str y :: ys.map .str) = true
    rw [PySem.W.alikeAll, alike_strs xs ys]
    simp [PySem.W.alike]
theorem key_alike (x y : Str) : PySem.W.alike (keyD x) (keyD y) = true := by
  show PySem.W.alikeAll [.int _, .list _] [.int _, .list _] = true
  rw [PySem.W.alikeAll, PySem.W.alikeAll, PySem.W.alikeAll]
  show (true && (PySem.W.alikeAll _ _ && true)) = true
  rw [alike_strs]; rfl
theorem depth_strs : ∀ xs : List Str, PyData.depthAll (xs.map .str) = 0
  | [] => by simp [PyData.depthAll]
  | x :: xs => by
    show PyData.depthAll (.str x :: xs.map .str) = 0
    rw [PyData.depthAll, depth_strs xs]
    simp [PyData.depth]
theorem key_depth (x : Str) : (keyD x).depth ≤ 60 := by
  unfold keyD
  simp [PyData.depth, PyData.depthAll, depth_strs]
section
variable {P : Program} {w : World} {K : PySem.W.Frag} {mg : Str → Option Value} {base : Heap} {tk1 tk2 : Tok}
theorem ok_in_order {f f1 : Addr} {fd fd1 : FuncData} (F : Fun K "in_order" "in_order" s_in_order f fd) (T : Txt K mg tk1 tk2) (d_order_key : DefAt P w K mg base "order_key" 2 f1 fd1 ["path"] (spKey K)) :
    FnOk P w K mg base CX0 5 f fd ["paths"] (spOrder K) := by
  refine F.ok sc_in_order (fun vs H Q E h => ?_) (fun cdv A outer s H vs Q E hr h => ?_)
  · obtain ⟨x, ws, rfl, _⟩ := h
    rfl
  refine ⟨_, (pss_one (ps_ret (pe_callBK (call_sortedF (kd := keyD) d_order_key.F hr d_order_key.b) (by rfl) T.n_sorted (by decide +kernel) (pa_cons (pv 0) pa_nil) (pk_cons (pe_glob (v := .ref f1) rfl d_order_key.g rfl) pk_nil)))), ?_⟩
  obtain ⟨a, ws, rfl, hs, hw, hq⟩ := h
  refine ⟨_, rfl, a, ws, rfl, rfl, hs, PySem.W.AllAlike.of key_alike, PySem.W.Sortable.tuples fun b => ⟨_, _, rfl⟩, ?_, ?_, ?_⟩
  · intro d hd
    obtain ⟨x, _, rfl⟩ := List.mem_map.mp hd
    exact key_depth x
  · intro x hx H1 sm Q1 h1
    exact ⟨x, rfl, hw x hx, fun v H' s' dp => h1 v H' s' dp⟩
  · intro H1 p sm hp
    exact hq _ p (sm.trans (same_new hp)) (sm.free hp) upd_same
end
end K5

set_option Elab.async false
set_option linter.all false
set_option maxRecDepth 100000
set_option maxHeartbeats 4000000
namespace LF
open PySem PySem.Spec PyProof.Rows L2
section
variable {prog : Program} {w : World} {A : Around} {E : Value → Shared → Prop} {s : Shared} {K : PySem.W.Frag} {x C f : Addr} {ox : Obj} {od : Option Obj}
/-- repr of an own instance below another: its own __repr__ -/
theorem under_own {b : Nat} {Q : Value → Shared → Prop} (hu : A.units < cLine) (X : K.In s.heap) (I : PySem.W.InstAt s.heap x ox C od) (hs : PySem.W.findIn K (.ref C) "__repr__" = some (some (.ref f))) (hf : PySem.W.isFn K (.ref f) = true)
    (h : wpAny (model prog w) A (call (.ref f) [.ref x]) (fun v s' => ∃ m tk, v = .str m tk ∧ Q v s') E s) : wpAny (model prog w) A (pyReprObjUnder b (.ref x)) Q E s := by
  unfold pyReprObjUnder pyReprObjBy
  refine wpAny_bind (wpAny_cRoomFor hu ?_)
  refine wpAny_bind (wpAny_bind (I.type.here ((PySem.W.looks_findIn X hs).here ?_)))
  show wpAny _ _ (if (some (Value.ref f)).isNone = true then _ else _) _ _ _
  rw [if_neg (by simp)]
  have fin : wpAny (model prog w) A (call (.ref f) ([.ref x] ++ []) >>= fun v => pure (some v)) (fun r s' => wpAny (model prog w) A (match r with
      | some r => do if ← isInstance r (.type "str") then pure r else raiseError "TypeError" s!"__repr__ returned non-string (type {← typeNameOf r})"
      | none => unsupported "repr:special-get-raises") Q E s') E s := by
    refine wpAny_bind (wpAny_mono h (fun v s' hv => ?_) fun _ _ z => z)
    obtain ⟨m, tk, rfl, q⟩ := hv
    exact wpAny_pure (wpAny_bind (wpAny_isInstance (T := "str") (b := true) (typeIs_str _ _ _) isSubtype_str_str (wpAny_pure q)))
  refine wpAny_bind ?_
  simp only [callSpecialIfBoundBy?, bindSpecialIfBound?]
  refine wpAny_holding (wpAny_bind (wpAny_bind (wpAny_bind (I.type.here ((PySem.W.looks_findIn X hs).here ?_)))))
  refine wpAny_bind (wpAny_askSetting (wpAny_ite ?_))
  split
  · exact wpAny_bind ((PySem.W.bind_fn X _ (beq_iff_eq.mp hf)).here (wpAny_pure (by exact fin)))
  · exact wpAny_tryCatch (wpAny_bind ((PySem.W.bind_fn X _ (beq_iff_eq.mp hf)).here (wpAny_pure (by exact fin))))
end
theorem Room.guard {k : Nat} {A : Around} (r : Room (k + 1) A) (args : Args) : Room k (A.under (.builtin "tuple.__repr__" args)) := by
  have hd : (A.under (.builtin "tuple.__repr__" args)).depth ≤ A.depth + 1 := by
    first
      | exact Nat.le_refl _
      | exact Nat.le_succ _
      | simp [Around.under, Code.weight, Code.isCreation, Code.isGuard, Code.isCaller, Code.frames, Code.isFrame, guardIds]
  refine ⟨r.hd, by have := r.dp; omega, ?_⟩
  have := r.un
  rw [units_under_tuple_repr]
  omega
theorem Env0.guard {P : Program} {w : World} {K : PySem.W.Frag} {mg : Str → Option Value} {base : Heap} {A : Around} {outer : List Env} {s : Shared} {H : Hp} (e : Env0 P w K mg base A outer s H) (args : Args) :
    Env0 P w K mg base (A.under (.builtin "tuple.__repr__" args)) outer s H := ⟨by first | exact e.frames | (simpa [Around.under, Code.envs, Code.isFrame, pushEnvs] using e.frames), e.mod, e.bs, e.bsz, e.funs, e.frf, e.hok, e.bare⟩
/-- repr((text, x)), x an own instance of the class at C whose __repr__ tells txt and leaves what is tracked -/
def rReprTO (K : PySem.W.Frag) (C : Addr) (sp : Sp) (txt : Str) : List V → Hp → VK → Prop := fun xs H Q => ∃ (a x dx : Addr) (z : Str) (fs : List (Str × V)), xs = [.ref a] ∧ SqT K H a [.str z, .ref x] ∧ H x = some (.ins C dx fs) ∧
  (reprText z).length ≤ 1000 ∧ (∀ Q1 : VK, (∀ H1, Same H H1 → Q1 (.str txt) H1) → sp [.ref x] H Q1 E0) ∧ ∀ H', Same H H' → Q (.str (tupleText [reprText z, txt])) H'
theorem sizeLine_1m : 1000010 < sizeLine := by decide
section
variable {X : Cx} {k : Nat} {f C : Addr} {fd : FuncData} {sp : Sp} {txt : Str} {px : Str}
theorem call_reprTO (gd : X.A.guards = some []) (G : FnOk X.prog X.w X.K X.mg X.base CX0 k f fd [px] sp) (hr : Room (k + 3) X.A) (hb : Binds X.K fd [px] [])
    (hs : PySem.W.findIn X.K (.ref C) "__repr__" = some (some (.ref f))) (hf : PySem.W.isFn X.K (.ref f) = true) (hl : txt.length ≤ 1000) :
    CallR X (.builtin "repr") (rReprTO X.K C sp txt) := by
  intro pins s σ H xs us Q I r h
  obtain ⟨a, x, dx, z, fs, rfl, ht, hx, hz, hsp, hq⟩ := h
  rw [Vals.ref1 r]
  have hbig := sizeLine_1m
  obtain ⟨its, rv, ⟨o, ho, hcls, n, hd⟩, _⟩ := I.tuple ht
  cases rv with
  | cons r1 rv =>
  cases rv with
  | cons r2 rv =>
  cases rv with
  | nil =>
  rename_i u1 u2
  obtain ⟨tk1, rfl⟩ := r1
  cases r2
  obtain ⟨mA, O, _, _, _, _⟩ := ins_get I.hok hx
  obtain ⟨od, J, _⟩ := O.look
  have hu := hr.un
  refine call_repr_slot (by omega) ⟨o, ho, hcls⟩ F.slot_tuple_repr ?_
  refine wpAny_call (codeAny_call_builtin_own (Code.quiet_builtin _ (by decide +kernel)) F.entry_tuple_repr (F.slot_tuple_repr.check _ _ _ _ _ _ _ _ ⟨o, ho, hcls⟩ (F.args_tuple_repr_1 _) ?_))
  show wpOwn _ _ _ (Builtin.tupleReprAt 0 ⟨[.ref a], []⟩) _ _ _
  rw [tuple_repr_tree, tupleReprUnderWay_eq]
  refine wpOwn_bind (wpOwn_stackTailAny (g := []) gd (tupGuardF_off _) (tupGuardF_pos _) ?_)
  show wpOwn _ _ _ (if false = true then _ else _) _ _ _
  rw [if_neg Bool.false_ne_true]
  refine wpOwn_of_wpAny ?_
  unfold tupleReprRest Builtin.Tuple.tupleItemsOf
  refine wpAny_bind (wpAny_bind (wpAny_seqItems ho hd (wpAny_pure ?_)))
  rw [← Array.forIn_toList]
  refine wpAny_bind ?_
  show wpAny _ _ (forIn [Value.str z tk1, Value.ref x] _ tupBody) _ _ _
  rw [List.forIn_cons]
  refine wpAny_bind (wpAny_bind (ReprIs.str z tk1 (by omega) 1 (by omega) _ _ _ _ fun tk => wpAny_pure ?_))
  show wpAny _ _ (forIn [Value.ref x] _ tupBody) _ _ _
  rw [List.forIn_cons]
  have I2 := I.tok tk
  have hr' : Room (k + 1) (X.A.in1.under (.builtin "tuple.__repr__" ⟨[.ref a], []⟩)) := Room.guard hr.in1 _
  have b' := hb { s with toks := tk } [.ref x] I2.kIn rfl
  rw [List.append_nil] at b'
  refine wpAny_bind (wpAny_bind (wpAny_pyReprUnder_ref (by show 0 + ((reprText z).length + 2) + 1 ≤ sizeLine; omega) (under_own (by have := hr'.un; omega) I2.kIn J hs hf ?_)))
  have run := G.run _ X.stack { s with toks := tk } H ⟨[.ref x], []⟩ [.ref x] [.ref x] _ E0 (hr'.mono (Nat.le_succ k)) (Env0.guard I2.env0.in1 _) b' (.cons rfl .nil) (hsp (fun v H1 => v = .str txt ∧ Same H H1) fun H1 s1 => ⟨rfl, s1⟩)
  refine wpAny_call (codeAny_mono run ?_)
  intro rr s2 hq2
  cases rr with
  | error e => exact hq2.elim
  | ok fl =>
    cases fl with
    | next => exact hq2.elim
    | brk => exact hq2.elim
    | cont => exact hq2.elim
    | ret u =>
      obtain ⟨y, H2, J2, ry, ey, sm2⟩ := I2.after hq2
      subst ey
      obtain ⟨tk2, rfl⟩ := ry
      refine ⟨txt, tk2, rfl, txt, tk2, rfl, wpAny_pure ?_⟩
      show wpAny _ _ (forIn [] _ tupBody) _ _ _
      rw [List.forIn_nil]
      refine wpAny_pure ?_
      refine wpAny_bind (wpAny_mkStr (wpAny_pure ?_) ?_)
      · exact ⟨_, _, rfl, .str (tupleText [reprText z, txt]), H2, J2.tok _, ⟨_, rfl⟩, hq H2 sm2⟩
      · show (tupleText [reprText z, txt]).length ≤ sizeLine
        have e : tupleText [reprText z, txt] = ("(" : Str) ++ (reprText z ++ ", " ++ txt) ++ ")" := rfl
        have e1 : ((("(" : String) : Str)).length = 1 := rfl
        have e2 : (((", " : String) : Str)).length = 2 := rfl
        have e3 : (((")" : String) : Str)).length = 1 := rfl
        rw [e, strLen_append, strLen_append, strLen_append, strLen_append, e1, e2, e3]
        omega
end
end LF

set_option Elab.async false
set_option linter.all false
set_option maxRecDepth 100000
set_option maxHeartbeats 4000000
namespace LF
open PySem PySem.Spec PyProof.Rows L2
/-- None, bools, ints, texts -/
def isAtom : V → Bool
  | .non => true
  | .bl _ => true
  | .int _ => true
  | .str _ => true
  | _ => false
def atomD : V → PyData
  | .bl b => .bool b
  | .int i => .int i
  | .str x => .str x
  | _ => .none
def kD : Key → PyData
  | .inl i => .int i
  | .inr x => .str x
theorem reads_atom {h : Heap} : ∀ {v : V} {u : Value}, isAtom v = true → RelV v u → Reads h u (atomD v) []
  | .non, _, _, r => by cases r; exact Reads.none
  | .bl b, _, _, r => by cases r; exact Reads.bool b
  | .int i, _, _, r => by obtain ⟨t, rfl⟩ := r; exact Reads.int i t
  | .str x, _, _, r => by obtain ⟨t, rfl⟩ := r; exact Reads.str x t
  | .ref _, _, a, _ => nomatch a
  | .flt _, _, a, _ => nomatch a
  | .byt _, _, a, _ => nomatch a
  | .ty _, _, a, _ => nomatch a
theorem reads_key {h : Heap} {k : Key} {v : Value} (e : keyIs k v = true) : Reads h v (kD k) [] := by
  rcases keyIs_shape e with ⟨i, t, rfl, rfl⟩ | ⟨x, t, rfl, rfl⟩
  · exact Reads.int i t
  · exact Reads.str x t
theorem reads_pairs {P : Program} {w : World} {h : Heap} : ∀ {es : List DictEntry} {vs : List (Key × Value)} {kvs : List (Key × V)}, Pairs (mixKind P w) es vs → KV kvs vs → (∀ q ∈ kvs, isAtom q.2 = true) →
    ReadsAll h (es.map (·.key)) (kvs.map fun q => kD q.1) [] ∧ ReadsAll h (es.map (·.val)) (kvs.map fun q => atomD q.2) []
  | _, _, _, .nil, .nil, _ => ⟨.nil, .nil⟩
  | _, _, _, .cons (e := e) (kv := kv) h1 h2 t, .cons (a := q) r rs, ha => by
    obtain ⟨i1, i2⟩ := reads_pairs (h := h) t rs fun q hq => ha q (List.mem_cons_of_mem _ hq)
    obtain ⟨e1, e2⟩ := r
    have k1 : Reads h e.key (kD q.1) [] := by rw [e1]; exact reads_key h1
    have k2 : Reads h e.val (atomD q.2) [] := by rw [h2]; exact reads_atom (ha q List.mem_cons_self) e2
    exact ⟨ReadsAll.cons k1 i1, ReadsAll.cons k2 i2⟩
def dictD (kvs : List (Key × V)) : PyData := .dict (kvs.map fun q => (kD q.1, atomD q.2))
theorem reads_dict {P : Program} {w : World} {H : Hp} {h : Heap} {p : Addr} {kvs : List (Key × V)} (ok : HOk P w H h) (e : H p = some (.dK kvs)) (ha : ∀ q ∈ kvs, isAtom q.2 = true) :
    Reads h (.ref p) (dictD kvs) [p] ∧ (p == sysModules) = false := by
  obtain ⟨_, lo, vs, rel, o, es, ep, ho, hx, hd, _, hp, _⟩ := dk_of ok e
  obtain ⟨i1, i2⟩ := reads_pairs (h := h) hp rel ha
  refine ⟨?_, lo⟩
  have := Reads.dict (kvs := kvs.map fun q => (kD q.1, atomD q.2)) ho hx.1 hd (by rw [List.map_map]; exact i1) (by rw [List.map_map]; exact i2)
  exact this
/-- repr((text, d)), d a dict of ints, texts and None -/
def rReprTD (K : PySem.W.Frag) : List V → Hp → VK → Prop := fun xs H Q => ∃ (a p : Addr) (z : Str) (kvs : List (Key × V)), xs = [.ref a] ∧ SqT K H a [.str z, .ref p] ∧ H p = some (.dK kvs) ∧ (∀ q ∈ kvs, isAtom q.2 = true) ∧
  (PyData.tuple [.str z, dictD kvs]).showable = true ∧ (PyData.tuple [.str z, dictD kvs]).depth ≤ 60 ∧ (PyData.tuple [.str z, dictD kvs]).shown.length ≤ sizeLine ∧ Q (.str (PyData.tuple [.str z, dictD kvs]).shown) H
theorem call_reprTD {X : Cx} (gd : X.A.guards = some []) (hu : X.A.units + 64 < cLine) : CallR X (.builtin "repr") (rReprTD X.K) := by
  intro pins s σ H xs us Q I r h
  obtain ⟨a, p, z, kvs, rfl, ht, hp, ha, hs, hdp, hz, q⟩ := h
  rw [Vals.ref1 r]
  obtain ⟨its, rv, ⟨o, ho, hcls, n, hd⟩, _⟩ := I.tuple ht
  cases rv with
  | cons r1 rv =>
  cases rv with
  | cons r2 rv =>
  cases rv with
  | nil =>
  rename_i u1 u2
  obtain ⟨tk1, rfl⟩ := r1
  cases r2
  obtain ⟨rd, lo⟩ := reads_dict I.hok hp ha
  have R : Reads s.heap (.ref a) (.tuple [.str z, dictD kvs]) ([] ++ ([p] ++ [])) := Reads.tuple ho hcls hd (ReadsAll.cons (Reads.str z tk1) (ReadsAll.cons rd ReadsAll.nil))
  refine repr_of_reads' R hs (fun _ hm => ?_) gd (by omega) (fun _ _ e => e) (fun h' u tk hk => ⟨.str _, H, I.kept (t' := tk) hk, ⟨_, rfl⟩, q⟩) hz
  have : sysModules = p := by simpa using hm
  rw [this] at lo
  simp at lo
end LF

set_option Elab.async false
set_option linter.all false
set_option maxRecDepth 100000
set_option maxHeartbeats 4000000
namespace LF
open PySem PySem.Spec PyProof.Rows L2
theorem fold_reps (a : Array Nat) : ∀ (k : Nat) (acc : Array Nat), ((List.replicate k a).foldl (· ++ ·) acc).size = acc.size + k * a.size ∧ ∀ c ∈ ((List.replicate k a).foldl (· ++ ·) acc).toList, c ∈ acc.toList ∨ c ∈ a.toList
  | 0, acc => ⟨by simp, fun c hc => Or.inl hc⟩
  | k + 1, acc => by
    obtain ⟨h1, h2⟩ := fold_reps a k (acc ++ a)
    rw [List.replicate_succ, List.foldl_cons]
    refine ⟨by rw [h1, Array.size_append, Nat.succ_mul]; omega, fun c hc => ?_⟩
    rcases h2 c hc with q | q
    · rw [Array.toList_append] at q
      exact List.mem_append.mp q
    · exact Or.inr q
theorem mul_len {z : Str} {n : Int} (h : 1 ≤ n) : (Txt.mul z n).length = z.length * n.toNat ∧ ∀ c ∈ (Txt.mul z n).cps.toList, c ∈ z.cps.toList := by
  unfold Txt.mul
  rw [if_neg (by omega)]
  split
  · rename_i hc
    rw [Bool.or_eq_true, beq_iff_eq, beq_iff_eq] at hc
    refine ⟨?_, fun c hc => hc⟩
    rcases hc with e | e
    · subst e; simp
    · rw [e]; simp
  · obtain ⟨h1, h2⟩ := fold_reps z.cps n.toNat #[]
    refine ⟨?_, fun c hc => ?_⟩
    · show ((List.replicate n.toNat z.cps).foldl (· ++ ·) #[]).size = z.cps.size * n.toNat
      rw [h1, Nat.mul_comm]; simp
    · rcases h2 c hc with q | q
      · simp at q
      · exact q
/-- a text times an int -/
def rMulS : R2 := fun x y H Q => ∃ (z : Str) (n : Int), x = .str z ∧ y = .int n ∧ 1 ≤ n ∧ n ≤ 1000 ∧ z.length ≤ 1000 ∧ ∀ r : Str, r.length = z.length * n.toNat → (∀ c ∈ r.cps.toList, c ∈ z.cps.toList) → Q (.str r) H
theorem op_mulS {X : Cx} : OpR X (binaryOp .Mult) rMulS := by
  intro pins s σ H x y v u Q I rx ry h
  obtain ⟨z, n, rfl, rfl, h1, h2, h3, q⟩ := h
  obtain ⟨t, rfl⟩ := rx
  obtain ⟨t', rfl⟩ := ry
  obtain ⟨l1, l2⟩ := mul_len (z := z) h1
  have hm : z.length * n.toNat ≤ 1000 * 1000 := Nat.mul_le_mul h3 (by omega)
  refine SB.mul ⟨?_, fun _ _ => ?_, fun _ _ => ?_⟩ fun t' k => ⟨.str _, H, I.tok _, ⟨_, rfl⟩, q _ l1 l2⟩
  · rw [decide_eq_false (by omega), decide_eq_false (by omega)]; rfl
  · have : (1000 : Int) ≤ (2 ^ 63 - 1) / n := Int.le_ediv_of_mul_le (by omega) (by omega)
    omega
  · have hs : 1000 * 1000 ≤ sizeLine := by decide
    have : ¬ (z.length * n.toNat > sizeLine) := by omega
    unfold Builtin.Str.tooLong
    exact decide_eq_false this
end LF

set_option Elab.async false
set_option linter.all false
set_option maxRecDepth 100000
set_option maxHeartbeats 4000000
namespace LF
open PySem PySem.Spec PyProof.Rows L2
/-- code that is never come to -/
theorem pe_never {X : Cx} {e : Expr} : PE X e (fun _ _ _ => False) := ⟨fun _ _ _ _ _ _ h => h.elim⟩
theorem pt_never {X : Cx} {e : Expr} : PT X e (fun _ _ _ => False) := ⟨fun _ _ _ _ _ _ h => h.elim⟩
end LF
namespace K5
open PySem PySem.Spec PyProof.Rows L2 LF
def digs : Str := "0123456789"
/-- further constants that the top has written -/
structure Nums (K : PySem.W.Frag) (mg : Str → Option Value) : Prop where
  names : ∃ tk, mg "MOST_NAMES" = some (.int 10 tk)
  tnames : ∃ tk, mg "MOST_TARGET_NAMES" = some (.int 8 tk)
  great : ∃ tk, mg "GREATEST_CONTENT" = some (.int 999999999999 tk)
def contentV : V → Bool
  | .int i => decide ((if i < 0 then -i else i) ≤ 999999999999)
  | _ => false
def isTg (t : Str) : Bool := isPt t && decide ((parts t).length ≤ 8)
def isPl (t : Str) : Bool := isPt t && decide (1 ≤ (parts t).length ∧ (parts t).length ≤ 10)
def targetV : V → Bool
  | .str t => isTg t
  | _ => false
def itemV : V → Bool
  | .non => true
  | v => contentV v || targetV v
/-- None, an int, a text -/
def Plain (v : V) : Prop := v = .non ∨ (∃ i, v = .int i) ∨ ∃ z : Str, v = .str z ∧ z.length ≤ 1000000
def spV (g : V → Bool) : Sp := fun vs H Q _ => ∃ x, vs = [x] ∧ Plain x ∧ ∀ H', Same H H' → Q (.bl (g x)) H'
def spS (g : Str → Bool) : Sp := fun vs H Q _ => ∃ z : Str, vs = [.str z] ∧ z.length ≤ 1000000 ∧ ∀ H', Same H H' → Q (.bl (g z)) H'
abbrev s_is_integer : Stmt := topS 21
theorem sc_is_integer : FnScope ["thing"] ["thing"] (defScope s_is_integer) := ⟨rfl, rfl, rfl, by decide +kernel, rfl, by decide +kernel, by decide +kernel⟩
def integerV : V → Bool
  | .int _ => true
  | _ => false
abbrev s_is_content : Stmt := topS 26
theorem sc_is_content : FnScope ["thing"] ["thing"] (defScope s_is_content) := ⟨rfl, rfl, rfl, by decide +kernel, rfl, by decide +kernel, by decide +kernel⟩
abbrev s_is_target : Stmt := topS 27
theorem sc_is_target : FnScope ["thing"] ["thing"] (defScope s_is_target) := ⟨rfl, rfl, rfl, by decide +kernel, rfl, by decide +kernel, by decide +kernel⟩
abbrev s_is_place : Stmt := topS 28
theorem sc_is_place : FnScope ["thing"] ["thing"] (defScope s_is_place) := ⟨rfl, rfl, rfl, by decide +kernel, rfl, by decide +kernel, by decide +kernel⟩
abbrev s_is_item : Stmt := topS 29
theorem sc_is_item : FnScope ["thing"] ["thing"] (defScope s_is_item) := ⟨rfl, rfl, rfl, by decide +kernel, rfl, by decide +kernel, by decide +kernel⟩
theorem plain_ok {K : PySem.W.Frag} {H : Hp} {x : V} (h : Plain x) : isOk K H x isPt (match x with | .str z => isPt z | _ => false) := by
  rcases h with rfl | ⟨i, rfl⟩ | ⟨z, rfl, hz⟩
  · exact Or.inr ⟨⟨_, .base .non, kit_no (t := "NoneType") (by simp [notStr])⟩, rfl⟩
  · exact Or.inr ⟨⟨_, .base (.int i), kit_no (t := "int") (by simp [notStr])⟩, rfl⟩
  · exact Or.inl ⟨z, rfl, hz, rfl⟩
section
variable {P : Program} {w : World} {K : PySem.W.Frag} {mg : Str → Option Value} {base : Heap} {tk1 tk2 : Tok}
theorem ok_is_integer {f : Addr} {fd : FuncData} (F : Fun K "is_integer" "is_integer" s_is_integer f fd) (T : Txt K mg tk1 tk2) : FnOk P w K mg base CX0 1 f fd ["thing"] (spV integerV) := by
  refine F.ok sc_is_integer (fun vs H Q E h => ?_) (fun cdv A outer s H vs Q E hr h => ?_)
  · obtain ⟨x, rfl, _⟩ := h
    rfl
  refine ⟨_, (pss_one (ps_ret (pe_and (pe_callB call_isi (by rfl) T.n_isinstance (by decide +kernel) (pa_cons (pv 0) (pa_cons (pe_bltn (v := .ty "int") (by rfl) T.n_int (by decide +kernel) rfl) pa_nil))) (pe_one (pe_not (pe_callB call_isi (by rfl) T.n_isinstance (by decide +kernel) (pa_cons (pv 0) (pa_cons (pe_bltn (v := .ty "bool") (by rfl) T.n_bool (by decide +kernel) rfl) pa_nil)))))))), ?_⟩
  obtain ⟨x, rfl, hx, hq⟩ := h
  rcases hx with rfl | ⟨i, rfl⟩ | ⟨z, rfl, hz⟩
  · refine ⟨_, rfl, _, .ty "int", _, _, false, rfl, .ty _, .base .non, kit_ty (by decide +kernel), ?_⟩
    exact ⟨_, rfl, iteF (hq H (Same.refl H))⟩
  · refine ⟨_, rfl, _, .ty "int", _, _, true, rfl, .ty _, .base (.int i), kit_ty (by decide +kernel), ?_⟩
    refine ⟨_, rfl, iteT ?_⟩
    refine ⟨_, rfl, _, .ty "bool", _, _, false, rfl, .ty _, .base (.int i), kit_ty (by decide +kernel), ?_⟩
    exact ⟨_, rfl, hq H (Same.refl H)⟩
  · refine ⟨_, rfl, _, .ty "int", _, _, false, rfl, .ty _, .base (.str z), kit_ty (by decide +kernel), ?_⟩
    exact ⟨_, rfl, iteF (hq H (Same.refl H))⟩
theorem ok_is_content {f f1 : Addr} {fd fd1 : FuncData} (F : Fun K "is_content" "is_content" s_is_content f fd) (T : Txt K mg tk1 tk2) (N : Nums K mg) (d_int : DefAt P w K mg base "is_integer" 1 f1 fd1 ["thing"] (spV integerV)) : FnOk P w K mg base CX0 2 f fd ["thing"] (spV contentV) := by
  obtain ⟨tg, hg⟩ := N.great
  refine F.ok sc_is_content (fun vs H Q E h => ?_) (fun cdv A outer s H vs Q E hr h => ?_)
  · obtain ⟨x, rfl, _⟩ := h
    rfl
  refine ⟨_, (pss_one (ps_ret (pe_and (pe_callD d_int (hr.mono (by decide)) (pa_cons (pv 0) pa_nil)) (pe_one (pe_cmpR op_le (pe_callB call_abs (by rfl) T.n_abs (by decide +kernel) (pa_cons (pv 0) pa_nil)) (pe_glob (v := .int 999999999999) rfl hg ⟨_, rfl⟩) (nomark _)))))), ?_⟩
  obtain ⟨x, rfl, hx, hq⟩ := h
  refine ⟨_, rfl, x, rfl, hx, fun H1 s1 => ⟨_, rfl, ?_⟩⟩
  rcases hx with rfl | ⟨i, rfl⟩ | ⟨z, rfl, hz⟩
  · exact iteF (hq H1 s1)
  · exact iteT ⟨_, rfl, _, rfl, _, _, rfl, rfl, hq H1 s1⟩
  · exact iteF (hq H1 s1)
theorem ok_is_target {f f1 f2 : Addr} {fd fd1 fd2 : FuncData} (F : Fun K "is_target" "is_target" s_is_target f fd) (T : Txt K mg tk1 tk2) (N : Nums K mg) (d_is_path : DefAt P w K mg base "is_path" 2 f1 fd1 ["thing"] (spPath K)) (d_split : DefAt P w K mg base "split_path" 1 f2 fd2 ["path"] spSplit) :
    FnOk P w K mg base CX0 3 f fd ["thing"] (spV targetV) := by
  obtain ⟨tg, hg⟩ := N.tnames
  refine F.ok sc_is_target (fun vs H Q E h => ?_) (fun cdv A outer s H vs Q E hr h => ?_)
  · obtain ⟨x, rfl, _⟩ := h
    rfl
  refine ⟨_, (pss_one (ps_ret (pe_and (pe_callD d_is_path (hr.mono (by decide)) (pa_cons (pv 0) pa_nil)) (pe_one (pe_cmpR op_le (pe_callB call_len_seq (by rfl) T.n_len (by decide +kernel) (pa_cons (pe_callD d_split (hr.mono (by decide)) (pa_cons (pv 0) pa_nil)) pa_nil)) (pe_glob (v := .int 8) rfl hg ⟨_, rfl⟩) (nomark _)))))), ?_⟩
  obtain ⟨x, rfl, hx, hq⟩ := h
  refine ⟨_, rfl, x, _, rfl, plain_ok hx, fun H1 s1 => ⟨_, rfl, ?_⟩⟩
  rcases hx with rfl | ⟨i, rfl⟩ | ⟨z, rfl, hz⟩
  · exact iteF (hq H1 s1)
  · exact iteF (hq H1 s1)
  · have hfin : ∀ b : Bool, isTg z = b → ∀ H', Same H H' → Q (.bl b) H' := fun b e H' s' => by have h0 : Q (.bl (isTg z)) H' := hq H' s'; rw [e] at h0; exact h0
    show if isPt z = true then _ else _
    cases hb : isPt z with
    | false => exact iteF (hfin false (by unfold isTg; rw [hb]; rfl) H1 s1)
    | true =>
      refine iteT ⟨_, rfl, z, rfl, hz, fun H2 p s2 np hp => ?_⟩
      refine ⟨p, _, rfl, Or.inl (SqL.of hp), _, _, rfl, rfl, ?_⟩
      rw [List.length_map]
      refine hfin _ ?_ H2 (s1.trans s2)
      unfold isTg
      rw [hb, Bool.true_and]
      by_cases h8 : (parts z).length ≤ 8
      · rw [decide_eq_true h8]; exact (decide_eq_true (by omega)).symm
      · rw [decide_eq_false h8]; exact (decide_eq_false (by omega)).symm
theorem ok_is_place {f f1 f2 : Addr} {fd fd1 fd2 : FuncData} (F : Fun K "is_place" "is_place" s_is_place f fd) (T : Txt K mg tk1 tk2) (N : Nums K mg) (d_is_path : DefAt P w K mg base "is_path" 2 f1 fd1 ["thing"] (spPath K)) (d_split : DefAt P w K mg base "split_path" 1 f2 fd2 ["path"] spSplit) :
    FnOk P w K mg base CX0 3 f fd ["thing"] (spS isPl) := by
  obtain ⟨tg, hg⟩ := N.names
  refine F.ok sc_is_place (fun vs H Q E h => ?_) (fun cdv A outer s H vs Q E hr h => ?_)
  · obtain ⟨z, rfl, _⟩ := h
    rfl
  refine ⟨_, (pss_one (ps_ret (pe_and (pe_callD d_is_path (hr.mono (by decide)) (pa_cons (pv 0) pa_nil)) (pe_one (pe_chain op_le op_le pe_int (pe_callB call_len_seq (by rfl) T.n_len (by decide +kernel) (pa_cons (pe_callD d_split (hr.mono (by decide)) (pa_cons (pv 0) pa_nil)) pa_nil)) (pe_glob (v := .int 10) rfl hg ⟨_, rfl⟩)))))), ?_⟩
  obtain ⟨z, rfl, hz, hq⟩ := h
  refine ⟨_, rfl, .str z, _, rfl, Or.inl ⟨z, rfl, hz, rfl⟩, fun H1 s1 => ⟨_, rfl, ?_⟩⟩
  have hfin : ∀ b : Bool, isPl z = b → ∀ H', Same H H' → Q (.bl b) H' := fun b e H' s' => by have := hq H' s'; rw [e] at this; exact this
  cases hb : isPt z with
  | false => exact iteF (hfin false (by unfold isPl; rw [hb]; rfl) H1 s1)
  | true =>
    refine iteT ⟨_, rfl, z, rfl, hz, fun H2 p s2 np hp => ?_⟩
    refine ⟨p, _, rfl, Or.inl (SqL.of hp), _, _, rfl, rfl, _, rfl, ?_⟩
    rw [List.length_map]
    have e : isPl z = decide (1 ≤ (parts z).length ∧ (parts z).length ≤ 10) := by unfold isPl; rw [hb, Bool.true_and]
    refine ifD (fun h1 => ?_) (fun h1 => ?_)
    · refine ⟨_, _, rfl, rfl, ?_⟩
      refine hfin _ ?_ H2 (s1.trans s2)
      rw [e]
      by_cases h2 : (parts z).length ≤ 10
      · rw [decide_eq_true (show 1 ≤ (parts z).length ∧ (parts z).length ≤ 10 from ⟨by omega, h2⟩)]; exact (decide_eq_true (by omega)).symm
      · rw [decide_eq_false (fun q => h2 q.2)]; exact (decide_eq_false (by omega)).symm
    · exact hfin false (by rw [e]; exact decide_eq_false (fun q => h1 (by omega))) H2 (s1.trans s2)
theorem ok_is_item {f f1 f2 : Addr} {fd fd1 fd2 : FuncData} (F : Fun K "is_item" "is_item" s_is_item f fd) (d_c : DefAt P w K mg base "is_content" 2 f1 fd1 ["thing"] (spV contentV)) (d_t : DefAt P w K mg base "is_target" 3 f2 fd2 ["thing"] (spV targetV)) :
    FnOk P w K mg base CX0 4 f fd ["thing"] (spV itemV) := by
  refine F.ok sc_is_item (fun vs H Q E h => ?_) (fun cdv A outer s H vs Q E hr h => ?_)
  · obtain ⟨x, rfl, _⟩ := h
    rfl
  refine ⟨_, (pss_one (ps_ret (pe_or (pe_cmpR op_isN (pv 0) pe_non (nomark _)) (pe_or (pe_callD d_c (hr.mono (by decide)) (pa_cons (pv 0) pa_nil)) (pe_one (pe_callD d_t (hr.mono (by decide)) (pa_cons (pv 0) pa_nil))))))), ?_⟩
  obtain ⟨x, rfl, hx, hq⟩ := h
  refine ⟨_, rfl, rfl, _, rfl, ?_⟩
  refine ifD (fun h1 => ?_) (fun h1 => ?_)
  · subst h1; exact hq H (Same.refl H)
  · have e : itemV x = (contentV x || targetV x) := by
      rcases hx with rfl | ⟨i, rfl⟩ | ⟨z, rfl, hz⟩
      · exact absurd rfl h1
      · rfl
      · rfl
    rw [e] at hq
    refine ⟨_, rfl, x, rfl, hx, fun H1 s1 => ⟨_, rfl, ?_⟩⟩
    cases hc : contentV x with
    | true => rw [hc] at hq; exact iteT (hq H1 s1)
    | false =>
      rw [hc] at hq
      exact iteF ⟨_, rfl, x, rfl, hx, fun H2 s2 => hq H2 (s1.trans s2)⟩
end
end K5

set_option Elab.async false
set_option linter.all false
set_option maxRecDepth 100000
set_option maxHeartbeats 4000000
namespace LF
open PySem PySem.Spec PyProof.Rows L2 TL K5
def low (z : Str) : Prop := ∀ c ∈ z.cps.toList, c ∈ letters.cps.toList
theorem isNm_iff {z : Str} : isNm z = true ↔ (1 ≤ z.length ∧ z.length ≤ 8) ∧ low z := by
  unfold isNm low
  rw [Bool.and_eq_true, decide_eq_true_eq, List.all_eq_true]
  simp only [decide_eq_true_eq]
theorem sl_not_low : (47 : Nat) ∉ letters.cps.toList := by decide +kernel
theorem isNm_sl {z : Str} (h : isNm z = true) : 47 ∉ tl z := fun hm => sl_not_low ((isNm_iff.mp h).2 _ hm)
theorem tl_sl : tl c_sl = [47] := by decide +kernel
theorem kind_sl : c_sl.cps.all (· < 256) = true := by decide +kernel
theorem len_app (x y : Str) : (x ++ y).length = x.length + y.length := by
  rw [len_tl, len_tl, len_tl, tl_append, List.length_append]
theorem low_app {x y : Str} (hx : low x) (hy : low y) : low (x ++ y) := fun c hc => by
  have e := tl_append x y
  have hc' : c ∈ tl (x ++ y) := hc
  rw [e] at hc'
  exact (List.mem_append.mp hc').elim (hx c) (hy c)
theorem low_sub {x y : Str} (hx : low x) (h : ∀ c ∈ y.cps.toList, c ∈ x.cps.toList) : low y := fun c hc => hx c (h c hc)
theorem cut_mem (z : Str) (lo hi : Option Int) : ∀ c ∈ (cutS z lo hi).cps.toList, c ∈ z.cps.toList := fun c hc => by
  unfold cutS at hc
  exact List.mem_of_mem_drop (List.mem_of_mem_take (by simpa using hc))
theorem cut_to (z : Str) (i : Nat) (h : i ≤ z.length) : (cutS z none (some (i : Int))).length = i := by
  have e : z.cps.toList.length = z.length := by simp [Str.length]
  unfold cutS
  rw [HT.sIx_none, HT.sIx_nat]
  show (((z.cps.toList.drop 0).take (min i z.length - 0)).toArray).size = i
  rw [List.size_toArray, List.length_take, List.length_drop]
  omega
theorem cut_from (z : Str) (i : Nat) (h : i ≤ z.length) : (cutS z (some (i : Int)) none).length = z.length - i := by
  have e : z.cps.toList.length = z.length := by simp [Str.length]
  unfold cutS
  rw [HT.sIx_none, HT.sIx_nat]
  show (((z.cps.toList.drop (min i z.length)).take (z.length - min i z.length)).toArray).size = _
  rw [List.size_toArray, List.length_take, List.length_drop]
  omega
theorem join_nil_tl (ss : List Str) : tl (PySem.Txt.join "" ss) = (ss.map tl).flatten := by
  rw [join_eq, tl_join]
  have e : tl ("" : Str) = [] := by decide +kernel
  rw [e]
  generalize ss.map tl = l
  induction l with
  | nil => rfl
  | cons a l ih =>
    cases l with
    | nil => simp [joinL]
    | cons b l =>
      show a ++ ([] ++ joinL [] (b :: l)) = _
      rw [ih]; simp
/-- what a word is: a stem with one more letter -/
theorem stem_of {ss : List Str} (h : ∀ s ∈ ss, ∃ c, s = ⟨#[c]⟩ ∧ c ∈ letters.cps.toList) : (PySem.Txt.join "" ss).length = ss.length ∧ low (PySem.Txt.join "" ss) := by
  have e := join_nil_tl ss
  constructor
  · rw [len_tl, e]
    clear e
    induction ss with
    | nil => rfl
    | cons a l ih =>
      obtain ⟨c, rfl, _⟩ := h a List.mem_cons_self
      have := ih fun s hs => h s (List.mem_cons_of_mem _ hs)
      have e1 : (tl (⟨#[c]⟩ : Str)).length = 1 := rfl
      simp only [List.map_cons, List.flatten_cons, List.length_append, List.length_cons, e1, this]
      omega
  · intro c hc
    have hc' : c ∈ tl (PySem.Txt.join "" ss) := hc
    rw [e, List.mem_flatten] at hc'
    obtain ⟨l, hl, hcl⟩ := hc'
    obtain ⟨s, hs, rfl⟩ := List.mem_map.mp hl
    obtain ⟨d, rfl, hd⟩ := h s hs
    have : c ∈ [d] := hcl
    rw [List.mem_singleton.mp this]
    exact hd
theorem split_names {ns : List Str} (hne : ns ≠ []) (h : ∀ n ∈ ns, isNm n = true) : PySem.Txt.split (PySem.Txt.join c_sl ns) c_sl = ns :=
  split_join tl_sl kind_sl hne fun p hp => isNm_sl (h p hp)
theorem join_nil0 : PySem.Txt.join c_sl [] = "" := by decide +kernel
theorem join_ne {ns : List Str} (hne : ns ≠ []) (h : ∀ n ∈ ns, isNm n = true) : PySem.Txt.join c_sl ns ≠ "" := fun e => by
  have h1 := split_names hne h
  rw [e] at h1
  have h2 : PySem.Txt.split "" c_sl = [("" : Str)] := by decide +kernel
  rw [h2] at h1
  have h3 := h "" (by rw [← h1]; exact List.mem_singleton_self _)
  exact absurd h3 (by decide +kernel)
theorem parts_join {ns : List Str} (h : ∀ n ∈ ns, isNm n = true) : parts (PySem.Txt.join c_sl ns) = ns := by
  unfold parts
  by_cases hne : ns = []
  · subst hne
    rw [join_nil0, if_pos rfl]
  · rw [if_neg (join_ne hne h), split_names hne h]
theorem isPt_join {ns : List Str} (h : ∀ n ∈ ns, isNm n = true) : isPt (PySem.Txt.join c_sl ns) = true := by
  unfold isPt
  by_cases hne : ns = []
  · subst hne
    rw [join_nil0]; rfl
  · rw [split_names hne h, List.all_eq_true.mpr h, Bool.or_true]
theorem join_len_le {ns : List Str} (h : ∀ n ∈ ns, isNm n = true) : (PySem.Txt.join c_sl ns).length ≤ 9 * ns.length := by
  rw [len_tl, join_eq, tl_join, tl_sl]
  induction ns with
  | nil => exact Nat.zero_le _
  | cons a l ih =>
    have ha := (isNm_len (h a List.mem_cons_self)).2
    have e : (tl a).length = a.length := (len_tl a).symm
    have il := ih fun n hn => h n (List.mem_cons_of_mem _ hn)
    cases l with
    | nil =>
      show (tl a).length ≤ _
      rw [List.length_singleton]; omega
    | cons b l =>
      show (tl a ++ ([47] ++ joinL [47] ((b :: l).map tl))).length ≤ _
      have e1 : ([47] : List Nat).length = 1 := rfl
      simp only [List.length_append, List.length_cons, e1] at il ⊢
      try simp only [List.length_nil] at il ⊢
      omega
end LF

set_option Elab.async false
set_option linter.all false
set_option maxRecDepth 100000
set_option maxHeartbeats 4000000
namespace K5
open PySem PySem.Spec PyProof.Rows L2 LF
example : PySem.W.dataLe false keyD "a" "b" = true := by decide +kernel
theorem isPl_pt {p : Str} (h : isPl p = true) : isPt p = true ∧ ¬ p = "" := by
  unfold isPl at h
  rw [Bool.and_eq_true, decide_eq_true_eq] at h
  refine ⟨h.1, fun e => ?_⟩
  rw [e] at h
  exact absurd h.2.1 (by decide +kernel)
/-- the paths above a path, the root left out -/
def begs (p : Str) : List Str := (List.range ((parts p).length - 1)).map fun i => PySem.Txt.join c_sl ((parts p).take (i + 1))
def spBeg : Sp := fun vs H Q _ => ∃ z : Str, vs = [.str z] ∧ z.length ≤ 1000000 ∧ isPl z = true ∧ ∀ H' p, Same H H' → H p = none → H' p = some (.lst ((begs z).map V.str)) → Q (.ref p) H'
abbrev s_beginnings : Stmt := topS 18
abbrev N_beginnings : List Str := ["path", "parts", "many"]
theorem sc_beginnings : FnScope ["path", "parts", "many"] ["path"] (defScope s_beginnings) := ⟨rfl, rfl, rfl, by decide +kernel, rfl, by decide +kernel, by decide +kernel⟩
theorem cut_head (l : List Str) (k : Nat) : cutV (l.map V.str) none (some (k : Int)) = (l.take k).map V.str := by
  unfold cutV
  rw [HT.sIx_none, HT.sIx_nat, List.drop_zero, Nat.sub_zero, ← List.map_take]
  congr 1
  by_cases h : k ≤ (l.map V.str).length
  · rw [Nat.min_eq_left h]
  · rw [List.length_map] at h
    rw [Nat.min_eq_right (by rw [List.length_map]; omega), List.length_map, List.take_of_length_le (Nat.le_refl _), List.take_of_length_le (by omega)]
theorem isPl_parts {z : Str} (h : isPl z = true) : (∀ s ∈ parts z, isNm s = true) ∧ 1 ≤ (parts z).length ∧ (parts z).length ≤ 10 := by
  have hp := isPl_pt h
  unfold isPl at h
  rw [Bool.and_eq_true, decide_eq_true_eq] at h
  refine ⟨?_, h.2.1, h.2.2⟩
  have h1 := h.1
  unfold isPt at h1
  rw [decide_eq_false hp.2, Bool.false_or, List.all_eq_true] at h1
  unfold parts
  rw [if_neg hp.2]
  exact h1
def rJoin (K : PySem.W.Frag) : V → List V → Hp → VK → Prop := fun x xs H Q => ∃ a p, ∃ ys : List Str, x = .str a ∧ xs = [.ref p] ∧ (SqL K H p (ys.map V.str) ∨ SqT K H p (ys.map V.str)) ∧
  (ys.map (·.length)).sum + ys.length * a.length ≤ 16777216 ∧ Q (.str (PySem.Txt.join a ys)) H
section
variable {P : Program} {w : World} {K : PySem.W.Frag} {mg : Str → Option Value} {base : Heap} {tk1 tk2 : Tok}
theorem ok_beginnings {f f1 : Addr} {fd fd1 : FuncData} (F : Fun K "beginnings" "beginnings" s_beginnings f fd) (T : Txt K mg tk1 tk2) (d_split : DefAt P w K mg base "split_path" 1 f1 fd1 ["path"] spSplit) : FnOk P w K mg base CX0 2 f fd ["path"] spBeg := by
  refine F.ok sc_beginnings (fun vs H Q E h => ?_) (fun cdv A outer s H vs Q E hr h => ?_)
  · obtain ⟨z, rfl, _⟩ := h
    rfl
  refine ⟨_, (pss_cons (ps_set (i := 1) sc_beginnings.nd rfl (Or.inr rfl) (pe_callD d_split (hr.mono (by decide)) (pa_cons (pv 0) pa_nil)))
    (pss_one (ps_ret (pe_lc (own := [("many", 2)]) rfl sc_beginnings.nd (pi_range2 (by rfl) T.n_range (pa_cons pe_int (pa_cons (pe_callB call_len_seq (by rfl) T.n_len (by decide +kernel) (pa_cons (pv 1) pa_nil)) pa_nil))) (blkOk_by (N := N_beginnings) (sc := defScope s_beginnings) (by decide +kernel)) (fun _ _ _ _ _ => pg_name (i := 2) sc_beginnings.nd rfl (Or.inl rfl)) (fun _ _ _ _ _ => pts_nil) (fun _ _ _ _ _ => (pe_m1 PySem.F.slot_str_join PySem.F.type_str_join (show MtR _ "str.join" (rJoin K) from mt_join) pe_str (pe_slice (show SlR _ (rSlL K) from sl_list) (pv 1) po_none (po_some (pv 2))) rfl rfl rfl)))))), ?_⟩
  obtain ⟨z, rfl, hz, hpl, hq⟩ := h
  obtain ⟨hn, hp1, hp2⟩ := isPl_parts hpl
  refine ⟨_, rfl, z, rfl, hz, fun H1 pp s1 np hpp => ?_⟩
  refine ⟨_, rfl, pp, _, rfl, Or.inl (SqL.of hpp), ?_⟩
  rw [List.length_map]
  refine ⟨1, (parts z).length, rfl, ⟨by decide, by decide, by omega, by omega⟩, fun D hD => ?_⟩
  have hn1 : (((parts z).length : Int) - 1).toNat = (parts z).length - 1 := by omega
  rw [hn1]
  refine lc_it walk_range (fun i H' => Same H1 H' ∧ H' D = some (.lst (((begs z).take i).map V.str))) ⟨same_new hD, by rw [upd_same]; rfl⟩ (fun _ _ _ _ => trivial) ?_ ?_
  · rintro i x H2 H3 hi ⟨sm, hd⟩ ⟨rfl, rfl⟩
    refine ⟨rfl, ?_⟩
    have hb : (begs z)[i]? = some (PySem.Txt.join c_sl ((parts z).take (i + 1))) := by
      unfold begs
      rw [List.getElem?_map, List.getElem?_range hi]; rfl
    refine ⟨⟨_, rfl⟩, _, rfl, _, rfl, _, rfl, pp, _, rfl, SqL.of (sm _ _ hpp), fun ps hps => ?_⟩
    have ei : (1 : Int) + (i : Int) = ((i + 1 : Nat) : Int) := by omega
    rw [ei, cut_head]
    have hsum := sum_le (ss := (parts z).take (i + 1)) (n := 8) fun s hs => (isNm_len (hn s (List.mem_of_mem_take hs))).2
    have hlt : ((parts z).take (i + 1)).length ≤ 10 := by rw [List.length_take]; omega
    have c1 : c_sl.length = 1 := by decide +kernel
    refine ⟨_, ps, (parts z).take (i + 1), rfl, rfl, Or.inl (SqL.of upd_same), ?_, ?_⟩
    · show (((parts z).take (i + 1)).map (·.length)).sum + ((parts z).take (i + 1)).length * c_sl.length ≤ 16777216
      rw [c1]; omega
    have hnD : ps ≠ D := Ne.symm (ne_of_none hd hps)
    refine ⟨_, same_new hps _ _ hd, ?_, ?_, ?_⟩
    · rw [List.length_map, List.length_take]
      have : (begs z).length ≤ 10 := by unfold begs; rw [List.length_map, List.length_range]; omega
      exact Nat.lt_of_le_of_lt (show _ ≤ 10 by omega) (by decide)
    · intro b o e
      rw [upd_ne (ne_of_none e (s1.free hD |> fun _ => hD))]
      exact same_new hps _ _ (sm _ _ e)
    · have et : (begs z).take (i + 1) = (begs z).take i ++ [PySem.Txt.join c_sl ((parts z).take (i + 1))] := by rw [List.take_add_one, hb]; rfl
      rw [upd_same, et, List.map_append]; rfl
  · rintro H2 ⟨sm, hd⟩
    have hl : (begs z).length = (parts z).length - 1 := by unfold begs; rw [List.length_map, List.length_range]
    rw [List.take_of_length_le (by omega)] at hd
    exact hq H2 D (s1.trans sm) (s1.free hD) hd
end
end K5

set_option Elab.async false
set_option linter.all false
set_option maxRecDepth 100000
set_option maxHeartbeats 4000000
namespace K5
open PySem PySem.Spec PyProof.Rows L2 LF
def kv (es : List (Str × V)) : List (Key × V) := es.map fun e => (.inr e.1, e.2)
/-- entries that a package may have: every parent is there, a folder; in order -/
structure OkE (es : List (Str × V)) : Prop where
  pl : ∀ e ∈ es, isPl e.1 = true ∧ e.1.length ≤ 1000000
  it : ∀ e ∈ es, Plain e.2 ∧ itemV e.2 = true
  up : ∀ e ∈ es, ∀ s ∈ begs e.1, valV (kv es) (.inr s) = some .non
  le : (es.map (·.1)).Pairwise fun a b => PySem.W.dataLe false keyD a b = true
  nd : (es.map (·.1)).Nodup
  len : es.length ≤ 1000000
theorem same_unlock {H H' : Hp} {d : Addr} {u : HO} {o : Obj} (h : H d = some u) (s : Same (upd H d (.frz o u)) H') : Same H (upd H' d u) := fun b x e => by
  by_cases hb : b = d
  · subst hb
    rw [upd_same, ← e, h]
  · rw [upd_ne hb]
    exact s b x (by rw [upd_ne hb]; exact e)
theorem kv_get {es : List (Str × V)} {i : Nat} {k : Key} {v : V} (h : (kv es)[i]? = some (k, v)) : ∃ p, k = .inr p ∧ es[i]? = some (p, v) ∧ (p, v) ∈ es := by
  unfold kv at h
  rw [List.getElem?_map] at h
  cases e : es[i]? with
  | none => rw [e] at h; cases h
  | some q =>
    rw [e] at h
    obtain ⟨p, u⟩ := q
    have h2 := Option.some.inj h
    cases h2
    exact ⟨p, rfl, rfl, List.mem_of_getElem? e⟩
theorem val_mem {es : List (Str × V)} {p : Str} {v : V} (nd : (es.map (·.1)).Nodup) (h : (p, v) ∈ es) : valV (kv es) (.inr p) = some v := by
  unfold valV kv
  induction es with
  | nil => cases h
  | cons e l ih =>
    rw [List.map_cons, List.nodup_cons] at nd
    rw [List.map_cons, List.find?_cons]
    by_cases he : e.1 = p
    · have : decide (((.inr e.1 : Key), e.2).1 = (.inr p : Key)) = true := decide_eq_true (by show (.inr e.1 : Key) = .inr p; rw [he])
      rw [this]
      rcases List.mem_cons.mp h with q | q
      · rw [← q]; rfl
      · exact absurd (by rw [he]; exact List.mem_map.mpr ⟨_, q, rfl⟩) nd.1
    · have : decide (((.inr e.1 : Key), e.2).1 = (.inr p : Key)) = false := decide_eq_false (fun q => he (Sum.inr.inj q))
      rw [this]
      rcases List.mem_cons.mp h with q | q
      · exact absurd (by rw [← q]) he
      · exact ih nd.2 q
theorem begs_facts {p : Str} (h : isPl p = true) (hl : p.length ≤ 1000000) : ∀ s ∈ begs p, isPl s = true ∧ s.length ≤ 1000000 ∧ ∀ t ∈ begs s, t ∈ begs p := by
  obtain ⟨h1, h2, h3⟩ := isPl_parts h
  intro s hs
  have hs' := hs
  unfold begs at hs'
  obtain ⟨i, hi, rfl⟩ := List.mem_map.mp hs'
  have hi2 := List.mem_range.mp hi
  have hn : ∀ t ∈ (parts p).take (i + 1), isNm t = true := fun t ht => h1 t (List.mem_of_mem_take ht)
  have hpj := parts_join hn
  have hlen : ((parts p).take (i + 1)).length = i + 1 := by rw [List.length_take]; omega
  refine ⟨?_, ?_, ?_⟩
  · unfold isPl
    rw [isPt_join hn, hpj, hlen, Bool.true_and]
    exact decide_eq_true ⟨by omega, by omega⟩
  · have := join_len_le hn
    rw [hlen] at this
    omega
  · intro t ht
    unfold begs at ht
    rw [hpj, hlen] at ht
    obtain ⟨j, hj, rfl⟩ := List.mem_map.mp ht
    have hj2 := List.mem_range.mp hj
    unfold begs
    refine List.mem_map.mpr ⟨j, List.mem_range.mpr (by omega), ?_⟩
    rw [List.take_take]
    congr 2
    omega
/-- entries that a package may be made of: no file or reference lies ahead of another one; in any order, with or without the folders ahead -/
structure OkU (es : List (Str × V)) : Prop where
  pl : ∀ e ∈ es, isPl e.1 = true ∧ e.1.length ≤ 1000000
  it : ∀ e ∈ es, Plain e.2 ∧ itemV e.2 = true
  up : ∀ e ∈ es, ∀ s ∈ begs e.1, valV (kv es) (.inr s) = none ∨ valV (kv es) (.inr s) = some .non
  nd : (es.map (·.1)).Nodup
/-- folders put in where nothing is -/
def addB (a : List (Str × V)) (bs : List Str) : List (Str × V) := bs.foldl (fun a s => if s ∈ a.map (·.1) then a else a ++ [(s, .non)]) a
def fullN (es ps : List (Str × V)) : List (Str × V) := ps.foldl (fun a e => addB a (begs e.1)) es
def fullU (es : List (Str × V)) : List (Str × V) := fullN es es
def pkE (es : List (Str × V)) : List (Str × V) := (((fullU es).map (·.1)).mergeSort (PySem.W.dataLe false keyD)).map fun p => (p, (valV (kv (fullU es)) (.inr p)).getD .non)
theorem val_no {es : List (Str × V)} {p : Str} (h : p ∉ es.map (·.1)) : valV (kv es) (.inr p) = none := by
  unfold valV kv
  rw [Option.map_eq_none_iff, List.find?_eq_none]
  intro q hq
  obtain ⟨e, he, rfl⟩ := List.mem_map.mp hq
  rw [decide_eq_true_eq]
  intro z
  exact h (List.mem_map.mpr ⟨e, he, Sum.inr.inj z⟩)
/-- what is true of entries with more and more folders -/
structure Grown (es a : List (Str × V)) : Prop where
  sub : ∀ e ∈ es, e ∈ a
  new : ∀ e ∈ a, e ∈ es ∨ (e.2 = .non ∧ e.1 ∉ es.map (·.1) ∧ ∃ q ∈ es, e.1 ∈ begs q.1)
  nd : (a.map (·.1)).Nodup
theorem Grown.refl {es : List (Str × V)} (nd : (es.map (·.1)).Nodup) : Grown es es := ⟨fun _ h => h, fun _ h => Or.inl h, nd⟩
theorem Grown.add {es : List (Str × V)} {q : Str × V} (hq : q ∈ es) : ∀ (bs : List Str) (a : List (Str × V)), (∀ s ∈ bs, s ∈ begs q.1) → Grown es a → Grown es (addB a bs) ∧ (∀ e ∈ a, e ∈ addB a bs) ∧ ∀ s ∈ bs, s ∈ (addB a bs).map (·.1)
  | [], a, _, g => ⟨g, fun _ h => h, fun _ h => nomatch h⟩
  | s :: bs, a, hb, g => by
    have g1 : Grown es (if s ∈ a.map (·.1) then a else a ++ [(s, .non)]) := by
      split
      · exact g
      · rename_i hs
        refine ⟨fun e he => List.mem_append_left _ (g.sub e he), fun e he => ?_, ?_⟩
        · rcases List.mem_append.mp he with he | he
          · exact g.new e he
          · obtain rfl := List.mem_singleton.mp he
            refine Or.inr ⟨rfl, fun h => ?_, q, hq, hb s List.mem_cons_self⟩
            obtain ⟨e2, he2, e3⟩ := List.mem_map.mp h
            exact hs (List.mem_map.mpr ⟨e2, g.sub e2 he2, e3⟩)
        · rw [List.map_append, List.map_cons, List.map_nil, List.nodup_append]
          refine ⟨g.nd, by simp, fun x hx y hy e => ?_⟩
          rw [List.mem_singleton.mp hy] at e
          have e' : x = s := e
          rw [e'] at hx
          exact hs hx
    obtain ⟨i1, i2, i3⟩ := Grown.add hq bs _ (fun t ht => hb t (List.mem_cons_of_mem _ ht)) g1
    refine ⟨i1, fun e he => i2 e ?_, fun t ht => ?_⟩
    · split
      · exact he
      · exact List.mem_append_left _ he
    · rcases List.mem_cons.mp ht with rfl | ht
      · have : t ∈ (if t ∈ a.map (·.1) then a else a ++ [(t, .non)]).map (·.1) := by
          split
          · assumption
          · rw [List.map_append]; exact List.mem_append_right _ List.mem_cons_self
        obtain ⟨e, he, e3⟩ := List.mem_map.mp this
        exact List.mem_map.mpr ⟨e, i2 e he, e3⟩
      · exact i3 t ht
theorem Grown.full {es : List (Str × V)} : ∀ (ps a : List (Str × V)), (∀ q ∈ ps, q ∈ es) → Grown es a → Grown es (fullN a ps) ∧ (∀ e ∈ a, e ∈ fullN a ps) ∧ ∀ q ∈ ps, ∀ s ∈ begs q.1, s ∈ (fullN a ps).map (·.1)
  | [], a, _, g => ⟨g, fun _ h => h, fun _ h => nomatch h⟩
  | q :: ps, a, hp, g => by
    obtain ⟨g1, m1, b1⟩ := Grown.add (hp q List.mem_cons_self) (begs q.1) a (fun _ h => h) g
    obtain ⟨g2, m2, b2⟩ := Grown.full ps (addB a (begs q.1)) (fun r hr => hp r (List.mem_cons_of_mem _ hr)) g1
    refine ⟨g2, fun e he => m2 e (m1 e he), fun r hr s hs => ?_⟩
    rcases List.mem_cons.mp hr with rfl | hr
    · obtain ⟨e, he, e3⟩ := List.mem_map.mp (b1 s hs)
      exact List.mem_map.mpr ⟨e, m2 e he, e3⟩
    · exact b2 r hr s hs
end K5

set_option Elab.async false
set_option linter.all false
set_option maxRecDepth 100000
set_option maxHeartbeats 4000000
namespace K5
open PySem PySem.Spec PyProof.Rows L2 LF
abbrev pLt (a b : Str) : Bool := PySem.W.dataLt (keyD a) (keyD b)
abbrev pLe (a b : Str) : Bool := PySem.W.dataLe false keyD a b
theorem pLe_eq (a b : Str) : pLe a b = !pLt b a := by
  show PySem.W.dataLe false keyD a b = _
  rw [PySem.W.dataLe_eq]; rfl
theorem pLt_trans {a b c : Str} (h1 : pLt a b = true) (h2 : pLt b c = true) : pLt a c = true := PyProof.Rows.lex_trans _ _ _ h1 h2
theorem pLt_irrefl (a : Str) : pLt a a = false := PyProof.Rows.lex_irrefl _
theorem pLe_trans (a b c : Str) (h1 : pLe a b = true) (h2 : pLe b c = true) : pLe a c = true := by
  rw [pLe_eq] at *
  cases h : pLt c a with
  | false => rfl
  | true =>
    rcases PyProof.Rows.lex_negTrans _ (PySem.W.keyToks (keyD b)) _ h with h3 | h3
    · rw [show pLt c b = true from h3] at h2; cases h2
    · rw [show pLt b a = true from h3] at h1; cases h1
theorem pLe_total (a b : Str) : (pLe a b || pLe b a) = true := by
  rw [pLe_eq, pLe_eq]
  cases h1 : pLt b a with
  | false => rfl
  | true =>
    cases h2 : pLt a b with
    | false => rfl
    | true => exact absurd (pLt_trans h1 h2) (by rw [pLt_irrefl]; exact Bool.false_ne_true)
theorem sort_mem {l : List Str} {p : Str} : p ∈ l.mergeSort pLe ↔ p ∈ l := (List.mergeSort_perm l pLe).mem_iff
theorem full_grown {es : List (Str × V)} (h : OkU es) : Grown es (fullU es) ∧ ∀ q ∈ es, ∀ s ∈ begs q.1, s ∈ (fullU es).map (·.1) := by
  obtain ⟨a, _, b⟩ := Grown.full es es (fun _ h => h) (Grown.refl h.nd)
  exact ⟨a, b⟩
theorem pkE_keys (es : List (Str × V)) : (pkE es).map (·.1) = ((fullU es).map (·.1)).mergeSort pLe := by
  unfold pkE
  rw [List.map_map]
  exact List.map_id _
theorem mem_pkE {es : List (Str × V)} (h : OkU es) {e : Str × V} : e ∈ pkE es ↔ e ∈ fullU es := by
  have nd := (full_grown h).1.nd
  unfold pkE
  rw [List.mem_map]
  constructor
  · rintro ⟨p, hp, rfl⟩
    obtain ⟨e2, he2, rfl⟩ := List.mem_map.mp (sort_mem.mp hp)
    rw [val_mem nd (p := e2.1) (v := e2.2) he2]
    exact he2
  · intro he
    refine ⟨e.1, sort_mem.mpr (List.mem_map.mpr ⟨e, he, rfl⟩), ?_⟩
    rw [val_mem nd (p := e.1) (v := e.2) he]; rfl
theorem pkE_nd {es : List (Str × V)} (h : OkU es) : ((pkE es).map (·.1)).Nodup := by
  rw [pkE_keys]
  exact ((List.mergeSort_perm _ pLe).nodup_iff).mpr (full_grown h).1.nd
theorem full_pl {es : List (Str × V)} (h : OkU es) : ∀ e ∈ fullU es, (isPl e.1 = true ∧ e.1.length ≤ 1000000) ∧ (Plain e.2 ∧ itemV e.2 = true) ∧ ∀ s ∈ begs e.1, (s, V.non) ∈ fullU es := by
  obtain ⟨g, gb⟩ := full_grown h
  have non : ∀ q ∈ es, ∀ s ∈ begs q.1, (s, V.non) ∈ fullU es := fun q hq s hs => by
    obtain ⟨e2, he2, rfl⟩ := List.mem_map.mp (gb q hq s hs)
    have e3 : e2.2 = .non := by
      rcases g.new e2 he2 with h2 | ⟨h2, _⟩
      · have hv := val_mem h.nd (p := e2.1) (v := e2.2) h2
        rcases h.up q hq e2.1 hs with h3 | h3
        · rw [hv] at h3; cases h3
        · rw [hv] at h3; exact Option.some.inj h3
      · exact h2
    rw [← e3]; exact he2
  intro e he
  rcases g.new e he with h1 | ⟨h1, _, q, hq, hb⟩
  · exact ⟨h.pl e h1, h.it e h1, non e h1⟩
  · obtain ⟨q1, q2⟩ := h.pl q hq
    obtain ⟨b1, b2, b3⟩ := begs_facts q1 q2 e.1 hb
    refine ⟨⟨b1, b2⟩, ?_, fun s hs => non q hq s (b3 s hs)⟩
    rw [h1]
    exact ⟨Or.inl rfl, rfl⟩
theorem pkE_len (es : List (Str × V)) : (pkE es).length = (fullU es).length := by
  unfold pkE
  rw [List.length_map, List.length_mergeSort, List.length_map]
theorem pkE_ok {es : List (Str × V)} (h : OkU es) (hl : (fullU es).length ≤ 1000000) : OkE (pkE es) := by
  refine ⟨fun e he => (full_pl h e ((mem_pkE h).mp he)).1, fun e he => (full_pl h e ((mem_pkE h).mp he)).2.1, fun e he s hs => ?_, ?_, pkE_nd h, by rw [pkE_len]; exact hl⟩
  · exact val_mem (pkE_nd h) ((mem_pkE h).mpr ((full_pl h e ((mem_pkE h).mp he)).2.2 s hs))
  · rw [pkE_keys]
    exact List.pairwise_mergeSort pLe_trans pLe_total _
/-- entries in order, with all folders, are those of the package -/
theorem addB_id {a : List (Str × V)} : ∀ {bs : List Str}, (∀ s ∈ bs, s ∈ a.map (·.1)) → addB a bs = a
  | [], _ => rfl
  | s :: bs, h => by
    show addB (if s ∈ a.map (·.1) then a else a ++ [(s, .non)]) bs = a
    rw [if_pos (h s List.mem_cons_self)]
    exact addB_id fun t ht => h t (List.mem_cons_of_mem _ ht)
theorem fullN_id {es : List (Str × V)} : ∀ {ps : List (Str × V)}, (∀ q ∈ ps, ∀ s ∈ begs q.1, s ∈ es.map (·.1)) → fullN es ps = es
  | [], _ => rfl
  | q :: ps, h => by
    show fullN (addB es (begs q.1)) ps = es
    rw [addB_id (h q List.mem_cons_self)]
    exact fullN_id fun r hr => h r (List.mem_cons_of_mem _ hr)
theorem val_key {es : List (Str × V)} {p : Str} {v : V} (h : valV (kv es) (.inr p) = some v) : p ∈ es.map (·.1) := by
  by_cases hp : p ∈ es.map (·.1)
  · exact hp
  · rw [val_no hp] at h; cases h
theorem OkE.toU {es : List (Str × V)} (h : OkE es) : OkU es := ⟨h.pl, h.it, fun e he s hs => Or.inr (h.up e he s hs), h.nd⟩
theorem full_id {es : List (Str × V)} (h : ∀ e ∈ es, ∀ s ∈ begs e.1, s ∈ es.map (·.1)) : fullU es = es := fullN_id h
theorem map_val {es : List (Str × V)} (nd : (es.map (·.1)).Nodup) : (es.map (·.1)).map (fun p => (p, (valV (kv es) (.inr p)).getD .non)) = es := by
  rw [List.map_map]
  refine (List.map_congr_left fun e he => ?_).trans (List.map_id es)
  show (e.1, (valV (kv es) (.inr e.1)).getD .non) = e
  rw [val_mem nd (p := e.1) (v := e.2) he]; rfl
theorem pkE_id {es : List (Str × V)} (h : OkE es) : pkE es = es := by
  have hf := full_id (es := es) fun e he s hs => val_key (h.up e he s hs)
  unfold pkE
  rw [hf, List.mergeSort_of_pairwise h.le]
  exact map_val h.nd
end K5

set_option Elab.async false
set_option linter.all false
set_option maxRecDepth 100000
set_option maxHeartbeats 4000000
namespace K5
open PySem PySem.Spec PyProof.Rows L2 LF
def spLB : Sp := fun vs H Q _ => ∃ (d : Addr) (kvs : List (Key × V)) (p : Str), vs = [.ref d, .str p] ∧ H d = some (.dK kvs) ∧ p.length ≤ 1000000 ∧ isPl p = true ∧ (∀ s ∈ begs p, valV kvs (.inr s) = none ∨ valV kvs (.inr s) = some .non) ∧ ∀ H', Same H H' → Q (.bl false) H'
abbrev s_lies_below_leaf : Stmt := topS 32
abbrev N_lies_below_leaf : List Str := ["entries", "path", "place"]
theorem sc_lies_below_leaf : FnScope ["entries", "path", "place"] ["entries", "path"] (defScope s_lies_below_leaf) := ⟨rfl, rfl, rfl, by decide +kernel, rfl, by decide +kernel, by decide +kernel⟩
section
variable {P : Program} {w : World} {K : PySem.W.Frag} {mg : Str → Option Value} {base : Heap} {tk1 tk2 : Tok}
theorem ok_lies {f f1 : Addr} {fd fd1 : FuncData} (F : Fun K "lies_below_leaf" "lies_below_leaf" s_lies_below_leaf f fd) (n_any : mg "any" = none) (d_beg : DefAt P w K mg base "beginnings" 2 f1 fd1 ["path"] spBeg) :
    FnOk P w K mg base CX0 3 f fd ["entries", "path"] spLB := by
  refine F.ok sc_lies_below_leaf (fun vs H Q E h => ?_) (fun cdv A outer s H vs Q E hr h => ?_)
  · obtain ⟨d, kvs, p, rfl, _⟩ := h
    rfl
  have hu1 := hu_of hr
  refine ⟨_, (pss_one (ps_ret (pe_callB (cr_any rfl) (by rfl) n_any (by decide +kernel) (pa_cons (pe_lc (own := [("place", 2)]) rfl sc_lies_below_leaf.nd (pi_list (pe_callD d_beg (hr.mono (by decide)) (pa_cons (pv 1) pa_nil))) (blkOk_by (N := N_lies_below_leaf) (sc := defScope s_lies_below_leaf) (by decide +kernel)) (fun _ _ _ _ _ => pg_name (i := 2) sc_lies_below_leaf.nd rfl (Or.inl rfl)) (fun _ _ _ _ _ => pts_nil)
      (fun _ _ _ _ _ => (pe_cmpR op_notN (pe_dget1 hu1 (pv 0) (pv 2) ⟨rfl, rfl, rfl, rfl⟩) pe_non (nomark _)))) pa_nil)))), ?_⟩
  obtain ⟨d, kvs, p, rfl, hd, hp, hpl, hup, hq⟩ := h
  obtain ⟨hn, hp1, hp2⟩ := isPl_parts hpl
  refine ⟨_, rfl, p, rfl, hp, hpl, fun H1 b s1 nb hb => ?_⟩
  refine ⟨b, rfl, ⟨_, SqL.of hb⟩, fun D hD => ?_⟩
  have hbl : (begs p).length ≤ 10 := by unfold begs; rw [List.length_map, List.length_range]; omega
  refine lc_it (walk_list (xs := (begs p).map V.str)) (fun i H' => Same H1 H' ∧ H' D = some (.lst ((List.replicate i false).map V.bl))) ⟨same_new hD, by rw [upd_same]; rfl⟩ (fun i H' _ h => sqL_same h.1 (SqL.of hb)) ?_ ?_
  · rintro i x H2 H3 hi ⟨sm, hd2⟩ ⟨rfl, hx⟩
    rw [List.length_map] at hi
    rw [List.getElem?_map] at hx
    obtain ⟨s0, hs0, rfl⟩ : ∃ s0, (begs p)[i]? = some s0 ∧ x = .str s0 := by
      cases e : (begs p)[i]? with
      | none => rw [e] at hx; cases hx
      | some q => rw [e] at hx; exact ⟨q, rfl, (Option.some.inj hx).symm⟩
    have hv := hup s0 (List.mem_of_getElem? hs0)
    have hd3 := sm _ _ (s1 _ _ hd)
    refine ⟨rfl, _, rfl, d, rfl, Or.inl ⟨_, Or.inl hd3⟩, _, rfl, _, DGet.k (k := Sum.inr s0) hd3, rfl, ?_⟩
    have hv2 : (valV kvs (.inr s0)).getD .non = .non := by rcases hv with hv | hv <;> rw [hv] <;> rfl
    rw [hv2]
    refine ⟨_, hd2, ?_, fun b' o e => ?_, ?_⟩
    · rw [List.length_map, List.length_replicate]; exact Nat.lt_of_lt_of_le (show i < 20 by omega) (by decide)
    · rw [upd_ne (ne_of_none e hD)]; exact sm _ _ e
    · rw [upd_same, List.replicate_succ', List.map_append]; rfl
  · rintro H2 ⟨sm, hd2⟩
    refine ⟨D, _, rfl, SqL.of hd2, ?_⟩
    have e : (List.replicate ((begs p).map V.str).length false).any id = false := by
      rw [List.any_eq_false]
      intro x hx
      rw [(List.mem_replicate.mp hx).2]
      exact Bool.false_ne_true
    rw [e]
    exact hq H2 (s1.trans sm)
end
end K5

set_option Elab.async false
set_option linter.all false
set_option maxRecDepth 100000
set_option maxHeartbeats 4000000
namespace K5
open PySem PySem.Spec PyProof.Rows L2 LF
abbrev s_check_entries : Stmt := topS 31
abbrev N_check_entries : List Str := ["entries", "key", "wrong", "path"]
theorem sc_check_entries : FnScope ["entries", "key", "wrong", "path"] ["entries"] (defScope s_check_entries) := ⟨rfl, rfl, rfl, by decide +kernel, rfl, by decide +kernel, by decide +kernel⟩
def spCE : Sp := fun vs H Q _ => ∃ (d : Addr) (es : List (Str × V)), vs = [.ref d] ∧ H d = some (.dK (kv es)) ∧ OkU es ∧ es.length ≤ 1000000 ∧ ∀ H', Same H H' → Q .non H'
theorem keys_kv (es : List (Str × V)) : (kv es).map (fun q => kV q.1) = (es.map (·.1)).map V.str := by
  unfold kv
  rw [List.map_map, List.map_map]; rfl
section
variable {P : Program} {w : World} {K : PySem.W.Frag} {mg : Str → Option Value} {base : Heap} {tk1 tk2 : Tok}
theorem ok_check_entries {f f1 f2 f3 f4 : Addr} {fd fd1 fd2 fd3 fd4 : FuncData} (F : Fun K "check_entries" "check_entries" s_check_entries f fd) (T : Txt K mg tk1 tk2) (d_in_order : DefAt P w K mg base "in_order" 5 f1 fd1 ["paths"] (spOrder K))
    (d_place : DefAt P w K mg base "is_place" 3 f2 fd2 ["thing"] (spS isPl)) (d_item : DefAt P w K mg base "is_item" 4 f3 fd3 ["thing"] (spV itemV)) (d_lies : DefAt P w K mg base "lies_below_leaf" 3 f4 fd4 ["entries", "path"] spLB) :
    FnOk P w K mg base CX0 6 f fd ["entries"] spCE := by
  refine F.ok sc_check_entries (fun vs H Q E h => ?_) (fun cdv A outer s H vs Q E hr h => ?_)
  · obtain ⟨d, es, rfl, _⟩ := h
    rfl
  have hu1 := hu_of hr
  refine ⟨_, (pss_cons (ps_if (PW.pt (pw_or (pt_not (pt_val (pe_callB call_isi (by rfl) T.n_isinstance (by decide +kernel) (pa_cons (pv 0) (pa_cons (pe_bltn (v := .ty "dict") (by rfl) T.n_dict (by decide +kernel) rfl) pa_nil))))) (pw_or1 (pt_not (pt_val (pe_callB (cr_all rfl) (by rfl) T.n_all (by decide +kernel) (pa_cons (pe_lock (pe_lc (own := [("key", 1)]) rfl sc_check_entries.nd (pi_keys (pv 0)) (blkOk_by (N := N_check_entries) (sc := defScope s_check_entries) (by decide +kernel)) (fun _ _ _ _ _ => pg_name (i := 1) sc_check_entries.nd rfl (Or.inl rfl)) (fun _ _ _ _ _ => pts_nil)
      (fun _ _ _ _ _ => (pe_callB (show CallR _ (.builtin "isinstance") (rIsi K) from call_isi) (by rfl) T.n_isinstance (by decide +kernel) (pa_cons (pv 1) (pa_cons (pe_bltn (v := .ty "str") (by rfl) T.n_str (by decide +kernel) rfl) pa_nil)))))) pa_nil))))))) (pss_one ps_never) pss_nil)
    (pss_cons (ps_lock (ps_setLc (i := 2) (own := [("key", 1)]) rfl sc_check_entries.nd rfl rfl (sw_true rfl rfl rfl (by decide +kernel)) (pi_keys (pv 0)) (blkOk_by (N := N_check_entries) (sc := defScope s_check_entries) (by decide +kernel)) (fun _ _ _ _ _ => pg_name (i := 1) sc_check_entries.nd rfl (Or.inl rfl))
      (fun _ _ _ _ _ => pts_one (pt_not (pt_val (pe_callD d_place (hr.mono (by decide)) (pa_cons (pv 1) pa_nil))))) (fun _ _ _ _ _ => pv 1)))
    (pss_cons (ps_if (pt_cmpR op_gt (pe_callB call_len_seq (by rfl) T.n_len (by decide +kernel) (pa_cons (pv 2) pa_nil)) pe_int (nomark _)) (pss_one ps_never) pss_nil)
    (pss_one (ps_for PassesOwn.never rfl (pi_list (pe_callD d_in_order (hr.mono (by decide)) (pa_cons (pe_callTy (call_listD rfl) (by rfl) T.n_list (by decide +kernel) (pa_cons (pv 0) pa_nil)) pa_nil))) (pg_name (i := 3) sc_check_entries.nd rfl (Or.inl rfl))
      (pss_one (ps_if (PW.pt (pw_or (pt_not (pt_val (pe_callD d_item (hr.mono (by decide)) (pa_cons (pe_dget hu1 (pv 0) (pv 3) (fun _ _ => rfl)) pa_nil)))) (pw_or1 (pt_val (pe_callD d_lies (hr.mono (by decide)) (pa_cons (pv 0) (pa_cons (pv 3) pa_nil))))))) (pss_one ps_never) pss_nil))))))), ?_⟩
  obtain ⟨d, es, rfl, hd, ok, hlen, hq⟩ := h
  have hbig := sizeLine_big
  have hkl : (kv es).length = es.length := by unfold kv; rw [List.length_map]
  refine ⟨_, rfl, _, .ty "dict", _, _, true, rfl, .ty _, .base (.dK hd), kit_ty (by decide +kernel), ?_⟩
  refine ⟨_, rfl, iteF ?_⟩
  -- every key is a text
  refine ⟨d, _, hd, True.intro, fun od => ?_⟩
  refine ⟨_, rfl, d, od, rfl, Or.inl ⟨kv es, upd_same, fun D hD => ?_⟩⟩
  have hl0 : (upd H d (.frz od (.dK (kv es)))) d = some (.frz od (.dK (kv es))) := upd_same
  have hs0 : ∀ H', Same (upd H d (.frz od (.dK (kv es)))) H' → Same H (upd H' d (.dK (kv es))) := fun H' s' => same_unlock hd s'
  generalize (upd H d (.frz od (.dK (kv es)))) = L at hl0 hs0 hD
  refine lc_it walk_keys (fun i H' => Same L H' ∧ H' D = some (.lst ((List.replicate i true).map V.bl))) ⟨same_new hD, by rw [upd_same]; rfl⟩ (fun i H' _ h => h.1 _ _ hl0) ?_ ?_
  · rintro i x H1 H2 hi ⟨sm, hd1⟩ ⟨rfl, k, v, hk, rfl⟩
    obtain ⟨p, rfl, _, hm⟩ := kv_get hk
    refine ⟨rfl, _, rfl, _, .ty "str", _, _, true, rfl, .ty _, .base (.str p), kit_str, _, hd1, ?_, fun b' o e => ?_, ?_⟩
    · rw [List.length_map, List.length_replicate]; omega
    · rw [upd_ne (ne_of_none e hD)]; exact sm _ _ e
    · rw [upd_same, List.replicate_succ', List.map_append]; rfl
  rintro H1 ⟨sm1, hd1⟩
  refine ⟨sm1 _ _ hl0, ?_⟩
  have S1 := hs0 _ sm1
  have nDd : D ≠ d := Ne.symm (ne_of_none hl0 hD)
  have hD1 : (upd H1 d (.dK (kv es))) D = some (.lst ((List.replicate (kv es).length true).map V.bl)) := by rw [upd_ne nDd]; exact hd1
  generalize (upd H1 d (.dK (kv es))) = G1 at S1 hD1
  refine ⟨D, _, rfl, SqL.of hD1, ?_⟩
  have e1 : (List.replicate (kv es).length true).all id = true := by
    rw [List.all_eq_true]
    intro x hx
    rw [(List.mem_replicate.mp hx).2]; rfl
  rw [e1]
  refine ⟨_, rfl, iteF ?_⟩
  -- wrong
  have hdG := S1 _ _ hd
  refine ⟨d, _, hdG, True.intro, fun od2 => ?_⟩
  refine ⟨_, rfl, d, od2, rfl, Or.inl ⟨kv es, upd_same, fun D2 hD2 => ?_⟩⟩
  have hl2 : (upd G1 d (.frz od2 (.dK (kv es)))) d = some (.frz od2 (.dK (kv es))) := upd_same
  have hs2 : ∀ H', Same (upd G1 d (.frz od2 (.dK (kv es)))) H' → Same G1 (upd H' d (.dK (kv es))) := fun H' s' => same_unlock hdG s'
  generalize (upd G1 d (.frz od2 (.dK (kv es)))) = L2' at hl2 hs2 hD2
  refine lc_it walk_keys (fun i H' => Same L2' H' ∧ H' D2 = some (.lst [])) ⟨same_new hD2, upd_same⟩ (fun i H' _ h => h.1 _ _ hl2) ?_ ?_
  · rintro i x H2 H3 hi ⟨sm, hd2⟩ ⟨rfl, k, v, hk, rfl⟩
    obtain ⟨p, rfl, _, hm⟩ := kv_get hk
    obtain ⟨hp1, hp2⟩ := ok.pl _ hm
    refine ⟨rfl, _, rfl, p, rfl, hp2, fun H4 s4 => ⟨_, rfl, ?_⟩⟩
    rw [hp1]
    exact iteF ⟨sm.trans s4, s4 _ _ hd2⟩
  rintro H2 ⟨sm2, hd2⟩
  refine ⟨sm2 _ _ hl2, ?_⟩
  have S2 := hs2 _ sm2
  have nD2 : D2 ≠ d := Ne.symm (ne_of_none hl2 hD2)
  have hD3 : (upd H2 d (.dK (kv es))) D2 = some (.lst []) := by rw [upd_ne nD2]; exact hd2
  generalize (upd H2 d (.dK (kv es))) = G2 at S2 hD3
  refine ⟨_, rfl, D2, [], rfl, Or.inl (SqL.of hD3), _, _, rfl, rfl, _, rfl, ?_⟩
  refine ifD (fun h => absurd h (by decide)) (fun _ => ?_)
  -- the loop
  have hdG2 := S2 _ _ hdG
  refine ⟨_, rfl, d, _, rfl, Or.inl hdG2, fun q hq1 => ?_⟩
  rw [keys_kv]
  refine ⟨q, es.map (·.1), rfl, SqL.of upd_same, fun x hx => ?_, fun H3 p s3 np hp => ?_⟩
  · obtain ⟨e, he, rfl⟩ := List.mem_map.mp hx
    exact (ok.pl e he).2
  have S3 : Same H H3 := ((S1.trans S2).trans (same_new hq1)).trans s3
  generalize hks : (es.map (·.1)).mergeSort (PySem.W.dataLe false keyD) = ks at hp
  have hkm : ∀ p ∈ ks, ∃ v, (p, v) ∈ es := fun p hp => by
    rw [← hks] at hp
    obtain ⟨e, he, rfl⟩ := List.mem_map.mp (sort_mem.mp hp)
    exact ⟨e.2, he⟩
  refine ⟨p, rfl, ⟨_, SqL.of hp⟩, for_list (K := K) (a := p) (xs := ks.map V.str) (fun i σ H' => ∃ v3, σ = [some (.ref d), none, some (.ref D2), v3] ∧ Same H3 H') ⟨_, rfl, Same.refl H3⟩ (fun i σ H' _ ⟨_, _, sm⟩ => sqL_same sm (SqL.of hp)) ?_ ?_⟩
  · rintro i x σ H' hi ⟨v3, rfl, sm⟩
    rw [List.getElem?_map] at hi
    cases e : ks[i]? with
    | none => rw [e] at hi; cases hi
    | some pth =>
      rw [e] at hi
      cases hi
      obtain ⟨v, hm⟩ := hkm pth (List.mem_of_getElem? e)
      obtain ⟨hp1, hp2⟩ := ok.pl _ hm
      obtain ⟨hi1, hi2⟩ := ok.it _ hm
      have hv := val_mem ok.nd hm
      have hd4 := sm _ _ (S3 _ _ hd)
      refine ⟨_, rfl, _, rfl, d, v, rfl, by have := DGet.k (k := Sum.inr pth) hd4; rw [hv] at this; exact this, v, rfl, hi1, fun H4 s4 => ⟨_, rfl, ?_⟩⟩
      rw [hi2]
      refine iteF ?_
      refine ⟨_, rfl, _, rfl, d, _, pth, rfl, s4 _ _ hd4, hp2, hp1, ok.up _ hm, fun H5 s5 => ⟨_, rfl, iteF ?_⟩⟩
      exact ⟨_, rfl, (sm.trans s4).trans s5⟩
  · rintro σ H' ⟨v3, rfl, sm⟩
    exact hq H' (S3.trans sm)
end
end K5

set_option Elab.async false
set_option linter.all false
set_option maxRecDepth 100000
set_option maxHeartbeats 4000000
namespace LF
open PySem PySem.Spec PyProof.Rows L2
/-- a dict's comprehension over any walk: Pv by the turn and the heap -/
theorem dc_it {J : It} {n : Nat} {G : Hp → Prop} {Y : Nat → Hp → V → Hp → Prop} (wk : Walk J n G Y) {g : TG} {tt : TT} {tk tv : TE} {vs : List Nat} {σ : L2.St} {Ha : Hp} {D : Addr} {Qd : Hp → Prop} (Pv : Nat → Hp → Prop) (start : Pv 0 (upd Ha D (.dK [])))
    (ok : ∀ i Hb, i ≤ n → Pv i Hb → G Hb)
    (turn : ∀ i x Hb Hc, i < n → Pv i Hb → Y i Hb x Hc → g x (wipe σ vs) Hc fun σ2 H2 => wipe σ2 vs = wipe σ vs ∧ tt σ2 H2 fun b H3 =>
      if b = true then tk σ2 H3 fun y H4 => tv σ2 H4 fun z H5 => ∃ kvs k, y = kV k ∧ H5 D = some (.dK kvs) ∧ kvs.length < sizeLine ∧ Pv (i + 1) (upd H5 D (.dK (putK kvs k z))) else Pv (i + 1) H3)
    (fin : ∀ Hb, Pv n Hb → Qd Hb) :
    ∃ W : Nat → Nat → Hp → Prop, (∃ m, W 0 m (upd Ha D (.dK []))) ∧ ∀ i m Hb, W i m Hb →
      (J.stop i Hb ∧ Qd Hb) ∨ (J.go i Hb ∧ ∃ Nx : Hp → Prop, (∀ Hc, Nx Hc → ∃ m', m' < m ∧ W (i + 1) m' Hc) ∧ ∀ x Hc, J.yld i Hb x Hc → g x (wipe σ vs) Hc fun σ2 H2 => wipe σ2 vs = wipe σ vs ∧ tt σ2 H2 fun b H3 =>
        if b = true then tk σ2 H3 fun y H4 => tv σ2 H4 fun z H5 => ∃ kvs k, y = kV k ∧ H5 D = some (.dK kvs) ∧ kvs.length < sizeLine ∧ Nx (upd H5 D (.dK (putK kvs k z))) else Nx H3) := by
  refine ⟨fun i m Hb => m + i = n ∧ Pv i Hb, ⟨n, Nat.add_zero n, start⟩, fun i m Hb hw => ?_⟩
  obtain ⟨hm, hp⟩ := hw
  have hi : i ≤ n := by omega
  rcases Nat.lt_or_ge i n with hlt | hge
  · exact Or.inr ⟨wk.goes i Hb hlt (ok i Hb hi hp), Pv (i + 1), fun Hc hc => ⟨n - (i + 1), by omega, by omega, hc⟩, fun x Hc y => turn i x Hb Hc hlt hp (wk.yields i Hb x Hc hlt (ok i Hb hi hp) y)⟩
  · obtain rfl : i = n := by omega
    exact Or.inl ⟨wk.stops Hb (ok i Hb hi hp), fin Hb hp⟩
end LF
namespace K5
open PySem PySem.Spec PyProof.Rows L2 LF
abbrev s_with_parents : Stmt := topS 33
abbrev N_with_parents : List Str := ["entries", "full", "path", "place"]
theorem sc_with_parents : FnScope ["entries", "full", "path", "place"] ["entries"] (defScope s_with_parents) := ⟨rfl, rfl, rfl, by decide +kernel, rfl, by decide +kernel, by decide +kernel⟩
def spWP : Sp := fun vs H Q _ => ∃ (d : Addr) (es : List (Str × V)), vs = [.ref d] ∧ H d = some (.dK (kv es)) ∧ OkU es ∧ (fullU es).length ≤ 1000000 ∧ ∀ H' p, Same H H' → H p = none → H' p = some (.dK (kv (pkE es))) → Q (.ref p) H'
theorem addB_app (a : List (Str × V)) (x y : List Str) : addB a (x ++ y) = addB (addB a x) y := List.foldl_append
theorem fullN_app (a : List (Str × V)) (x y : List (Str × V)) : fullN a (x ++ y) = fullN (fullN a x) y := List.foldl_append
theorem addB_ge : ∀ (bs : List Str) (a : List (Str × V)), a.length ≤ (addB a bs).length
  | [], _ => Nat.le_refl _
  | s :: bs, a => by
    refine Nat.le_trans ?_ (addB_ge bs (if s ∈ a.map (·.1) then a else a ++ [(s, .non)]))
    split
    · exact Nat.le_refl _
    · rw [List.length_append]; exact Nat.le_add_right _ _
theorem fullN_ge : ∀ (ps a : List (Str × V)), a.length ≤ (fullN a ps).length
  | [], _ => Nat.le_refl _
  | q :: ps, a => Nat.le_trans (addB_ge (begs q.1) a) (fullN_ge ps _)
theorem key_val {es : List (Str × V)} {p : Str} (h : p ∈ es.map (·.1)) : ∃ v, valV (kv es) (.inr p) = some v := by
  cases hv : valV (kv es) (.inr p) with
  | some v => exact ⟨v, rfl⟩
  | none =>
    unfold valV kv at hv
    rw [Option.map_eq_none_iff, List.find?_eq_none] at hv
    obtain ⟨e, he, rfl⟩ := List.mem_map.mp h
    have := hv _ (List.mem_map.mpr ⟨e, he, rfl⟩)
    rw [decide_eq_true_eq] at this
    exact absurd rfl this
theorem put_next {es : List (Str × V)} {i : Nat} {p : Str} {v : V} (nd : (es.map (·.1)).Nodup) (h : es[i]? = some (p, v)) : putK (kv (es.take i)) (.inr p) v = kv (es.take (i + 1)) := by
  have hno : p ∉ (es.take i).map (·.1) := by
    intro hm
    obtain ⟨q, hq, hqp⟩ := List.mem_map.mp hm
    obtain ⟨j, hj, hjq⟩ := List.mem_iff_getElem.mp hq
    rw [List.length_take] at hj
    have hji : j < i := by omega
    have hil := (List.getElem?_eq_some_iff.mp h).1
    have hjl : j < es.length := by omega
    rw [List.getElem_take] at hjq
    have h1 : (es.map (·.1))[j]'(by rw [List.length_map]; exact hjl) = p := by rw [List.getElem_map, hjq, hqp]
    have h2 : (es.map (·.1))[i]'(by rw [List.length_map]; exact hil) = p := by rw [List.getElem_map, (List.getElem?_eq_some_iff.mp h).2]
    exact List.pairwise_iff_getElem.mp nd j i (by rw [List.length_map]; exact hjl) (by rw [List.length_map]; exact hil) hji (h1.trans h2.symm)
  rw [putK_new _ (val_no hno), List.take_add_one, h]
  unfold kv
  rw [List.map_append]; rfl
section
variable {P : Program} {w : World} {K : PySem.W.Frag} {mg : Str → Option Value} {base : Heap} {tk1 tk2 : Tok}
theorem ok_with_parents {f f1 f2 : Addr} {fd fd1 fd2 : FuncData} (F : Fun K "with_parents" "with_parents" s_with_parents f fd) (T : Txt K mg tk1 tk2) (d_in_order : DefAt P w K mg base "in_order" 5 f1 fd1 ["paths"] (spOrder K))
    (d_beg : DefAt P w K mg base "beginnings" 2 f2 fd2 ["path"] spBeg) : FnOk P w K mg base CX0 6 f fd ["entries"] spWP := by
  refine F.ok sc_with_parents (fun vs H Q E h => ?_) (fun cdv A outer s H vs Q E hr h => ?_)
  · obtain ⟨d, es, rfl, _⟩ := h
    rfl
  have hu1 := hu_of hr
  refine ⟨_, (pss_cons (ps_set (i := 1) sc_with_parents.nd rfl (Or.inr rfl) (pe_callTy call_dictD (by rfl) T.n_dict (by decide +kernel) (pa_cons (pv 0) pa_nil)))
    (pss_cons (ps_lock (ps_for PassesOwn.never rfl (pi_keys (pv 0)) (pg_name (i := 2) sc_with_parents.nd rfl (Or.inl rfl)) (pss_one (ps_for PassesOwn.never rfl (pi_list (pe_callD d_beg (hr.mono (by decide)) (pa_cons (pv 2) pa_nil))) (pg_name (i := 3) sc_with_parents.nd rfl (Or.inl rfl)) (pss_one (ps_expr (pe_dsetd (pv 1) (pv 3) pe_non ⟨rfl, rfl, rfl, rfl⟩)))))))
    (pss_one (ps_ret (pe_dc (own := [("path", 2)]) rfl sc_with_parents.nd (pi_list (pe_callD d_in_order (hr.mono (by decide)) (pa_cons (pe_callTy (call_listD rfl) (by rfl) T.n_list (by decide +kernel) (pa_cons (pv 1) pa_nil)) pa_nil))) (blkOk_by (N := N_with_parents) (sc := defScope s_with_parents) (by decide +kernel)) (fun _ _ _ _ _ => pg_name (i := 2) sc_with_parents.nd rfl (Or.inl rfl)) (fun _ _ _ _ _ => pts_nil) (fun _ _ _ _ _ => pv 2) (fun _ _ _ _ _ => pe_dget hu1 (pv 1) (pv 2) (fun _ _ => rfl))))))), ?_⟩
  obtain ⟨d, es, rfl, hd, ok, hlen, hq⟩ := h
  have hbig := sizeLine_big
  have hel : es.length ≤ (fullU es).length := fullN_ge es es
  have hkl : ∀ l : List (Str × V), (kv l).length = l.length := fun l => by unfold kv; rw [List.length_map]
  obtain ⟨gr, _⟩ := full_grown ok
  refine ⟨_, rfl, d, _, rfl, Or.inl hd, fun e he => ?_⟩
  have ned : d ≠ e := ne_of_none hd he
  have hd1 : (upd H e (.dK (kv es))) d = some (.dK (kv es)) := same_new he _ _ hd
  have he1 : (upd H e (.dK (kv es))) e = some (.dK (kv es)) := upd_same
  have S1 : Same H (upd H e (.dK (kv es))) := same_new he
  generalize (upd H e (.dK (kv es))) = G at hd1 he1 S1
  refine ⟨d, _, hd1, True.intro, fun od => ?_⟩
  refine ⟨_, rfl, d, od, rfl, Or.inl ⟨kv es, upd_same, ?_⟩⟩
  have hl0 : (upd G d (.frz od (.dK (kv es)))) d = some (.frz od (.dK (kv es))) := upd_same
  have hle : (upd G d (.frz od (.dK (kv es)))) e = some (.dK (kv es)) := by rw [upd_ne ned.symm]; exact he1
  have hLG : ∀ b o, b ≠ d → G b = some o → (upd G d (.frz od (.dK (kv es)))) b = some o := fun b o n e => by rw [upd_ne n]; exact e
  generalize (upd G d (.frz od (.dK (kv es)))) = L at hl0 hle hLG
  refine for_it walk_keys (fun i σ H' => ∃ v2 v3, σ = [some (.ref d), some (.ref e), v2, v3] ∧ Keep e L H' ∧ H' e = some (.dK (kv (fullN es (es.take i))))) ⟨_, _, rfl, Keep.refl e L, hle⟩ (fun i σ H' _ ⟨_, _, _, kp, _⟩ => kp _ _ ned hl0) ?_ ?_
  · rintro i x σ H1 H2 hi ⟨v2, v3, rfl, kp, he1⟩ ⟨rfl, k, v, hk, rfl⟩
    obtain ⟨p, rfl, hie, hm⟩ := kv_get hk
    obtain ⟨hp1, hp2⟩ := ok.pl _ hm
    have en : fullN es (es.take (i + 1)) = addB (fullN es (es.take i)) (begs p) := by rw [List.take_add_one, hie, fullN_app]; rfl
    have hfl : (addB (fullN es (es.take i)) (begs p)).length ≤ 1000000 := by
      rw [← en]
      have h1 := fullN_ge (es.drop (i + 1)) (fullN es (es.take (i + 1)))
      rw [← fullN_app, List.take_append_drop] at h1
      exact Nat.le_trans h1 hlen
    generalize fullN es (es.take i) = A at he1 en hfl
    refine ⟨_, rfl, p, rfl, hp2, hp1, fun H3 b s3 nb hb => ?_⟩
    have nbe : b ≠ e := fun q => by rw [q, he1] at nb; cases nb
    refine ⟨b, rfl, ⟨_, SqL.of hb⟩, for_list (K := K) (a := b) (xs := (begs p).map V.str) (fun j σ H' => ∃ v3, σ = [some (.ref d), some (.ref e), some (.str p), v3] ∧ Keep e H3 H' ∧ H' e = some (.dK (kv (addB A ((begs p).take j))))) ⟨_, rfl, Keep.refl e H3, s3 _ _ he1⟩ (fun j σ H' _ ⟨_, _, k', _⟩ => SqL.of (k' _ _ nbe hb)) ?_ ?_⟩
    · rintro j x σ H4 hj ⟨v3, rfl, k4, he4⟩
      rw [List.getElem?_map] at hj
      obtain ⟨s0, hs0', rfl⟩ : ∃ s0, (begs p)[j]? = some s0 ∧ x = .str s0 := by
        cases e' : (begs p)[j]? with
        | none => rw [e'] at hj; cases hj
        | some q => rw [e'] at hj; exact ⟨q, rfl, (Option.some.inj hj).symm⟩
      have ej : addB A ((begs p).take (j + 1)) = if s0 ∈ (addB A ((begs p).take j)).map (·.1) then addB A ((begs p).take j) else addB A ((begs p).take j) ++ [(s0, .non)] := by rw [List.take_add_one, hs0', addB_app]; rfl
      have hBl : (addB A ((begs p).take j)).length ≤ 1000000 := by
        have h1 := addB_ge ((begs p).drop j) (addB A ((begs p).take j))
        rw [← addB_app, List.take_append_drop] at h1
        exact Nat.le_trans h1 hfl
      generalize addB A ((begs p).take j) = B at he4 ej hBl
      refine ⟨_, rfl, e, rfl, Or.inl ⟨_, Or.inl he4⟩, _, rfl, kv B, .inr s0, he4, rfl, by rw [hkl]; omega, fun v hv2 => ⟨_, rfl, k4, ?_⟩, fun hno => ⟨_, rfl, fun c o n eo => ?_, ?_⟩⟩
      · rw [ej, if_pos (val_key hv2)]; exact he4
      · rw [upd_ne n]; exact k4 c o n eo
      · have hni : s0 ∉ B.map (·.1) := fun hm => by
          obtain ⟨v, hv⟩ := key_val hm
          rw [hv] at hno; cases hno
        rw [upd_same, ej, if_neg hni, putK_new _ hno]
        unfold kv
        rw [List.map_append]; rfl
    · rintro σ H4 ⟨v3, rfl, k4, he4⟩
      rw [List.length_map, List.take_length, ← en] at he4
      exact ⟨_, _, rfl, (kp.trans (Same.keep s3)).trans k4, he4⟩
  rintro σ H1 ⟨v2, v3, rfl, kp, he2⟩
  rw [hkl, List.take_length] at he2
  refine ⟨kp _ _ ned hl0, ?_⟩
  have S2 : Same H (upd H1 d (.dK (kv es))) := fun b o eo => by
    by_cases hb : b = d
    · subst hb
      rw [hd] at eo
      rw [upd_same, eo]
    · rw [upd_ne hb]
      exact kp b o (ne_of_none eo he) (hLG b o hb (S1 b o eo))
  have he3 : (upd H1 d (.dK (kv es))) e = some (.dK (kv (fullU es))) := by rw [upd_ne ned.symm]; exact he2
  generalize (upd H1 d (.dK (kv es))) = G2 at S2 he3
  refine ⟨_, rfl, e, _, rfl, Or.inl he3, fun q hq1 => ?_⟩
  rw [keys_kv]
  refine ⟨q, (fullU es).map (·.1), rfl, SqL.of upd_same, fun x hx => ?_, fun H3 p s3 np hp => ?_⟩
  · obtain ⟨e', he', rfl⟩ := List.mem_map.mp hx
    exact (full_pl ok e' he').1.2
  have S3 : Same G2 H3 := (same_new hq1).trans s3
  have he4 := S3 _ _ he3
  have hpk : ∀ i, (pkE es)[i]? = (((fullU es).map (·.1)).mergeSort (PySem.W.dataLe false keyD))[i]?.map fun p => (p, (valV (kv (fullU es)) (.inr p)).getD .non) := fun i => by unfold pkE; rw [List.getElem?_map]
  have hkm : ∀ p ∈ ((fullU es).map (·.1)).mergeSort (PySem.W.dataLe false keyD), ∃ v, (p, v) ∈ fullU es := fun p hp => by
    obtain ⟨e, he, rfl⟩ := List.mem_map.mp (sort_mem.mp hp)
    exact ⟨e.2, he⟩
  have hksl : (((fullU es).map (·.1)).mergeSort (PySem.W.dataLe false keyD)).length = (pkE es).length := by unfold pkE; rw [List.length_map]
  generalize ((fullU es).map (·.1)).mergeSort (PySem.W.dataLe false keyD) = ks at hp hpk hkm hksl
  have hkpl := pkE_len es
  refine ⟨p, rfl, ⟨_, SqL.of hp⟩, fun D hD => ?_⟩
  refine dc_it (walk_list (xs := ks.map V.str)) (fun i H' => Same H3 H' ∧ H' D = some (.dK (kv ((pkE es).take i)))) ⟨same_new hD, upd_same⟩ (fun i H' _ h => sqL_same h.1 (SqL.of hp)) ?_ ?_
  · rintro i x H4 H5 hi ⟨s4, hD4⟩ ⟨rfl, hx⟩
    rw [List.getElem?_map] at hx
    cases e' : ks[i]? with
    | none => rw [e'] at hx; cases hx
    | some pth =>
      rw [e'] at hx
      cases hx
      obtain ⟨v, hm⟩ := hkm pth (List.mem_of_getElem? e')
      have hv := val_mem gr.nd hm
      have hpe : (pkE es)[i]? = some (pth, v) := by rw [hpk, e']; show some (pth, (valV (kv (fullU es)) (.inr pth)).getD .non) = _; rw [hv]; rfl
      have he5 := s4 _ _ he4
      have hil := (List.getElem?_eq_some_iff.mp hpe).1
      refine ⟨rfl, _, rfl, _, rfl, _, rfl, e, v, rfl, by have := DGet.k (k := Sum.inr pth) he5; rw [hv] at this; exact this, _, .inr pth, rfl, hD4, ?_, fun b o eb => ?_, ?_⟩
      · rw [hkl, List.length_take]; omega
      · rw [upd_ne (ne_of_none eb hD)]; exact s4 _ _ eb
      · rw [upd_same, put_next (pkE_nd ok) hpe]
  · rintro H4 ⟨s4, hD4⟩
    rw [List.length_map, hksl, List.take_length] at hD4
    have S := (S2.trans S3).trans s4
    exact hq H4 D S ((S2.trans S3).free hD) hD4
end
end K5

set_option Elab.async false
set_option linter.all false
set_option maxRecDepth 100000
set_option maxHeartbeats 4000000
namespace LF
open PySem PySem.Spec PyProof.Rows L2
/-! a dict comprehension with two clauses, {k: v for a in p if .. for b in q if ..} -/
abbrev dcx (kx vx ga pa gb pb : Expr) (fa fb : List Expr) (sc : Scope) (pz : Pos) : Expr := .DictComp kx vx [⟨ga, pa, fa, 0⟩, ⟨gb, pb, fb, 0⟩] sc pz
/-- the tests of a clause -/
abbrev tsts (fs : List Expr) (ev : Env) : Sem Bool := forIn fs true fun c r => if r = true then do let ok ← isTrue c ev (eval c ev); pure (ForInStep.yield ok) else pure (ForInStep.yield r)
theorem dcTurnA (kx vx ga pa gb pb : Expr) (fa fb : List Expr) (sc : Scope) (pz : Pos) (jt ac : Value) (ev : Env) :
    compTurn (dcx kx vx ga pa gb pb fa fb sc pz) 0 jt ac ev = (standAt pa.pos >>= fun _ => pyNext jt >>= fun r => match r with
      | none => pure (.done .next)
      | some v => letOwnedTupleGo ga jt v >>= fun _ => assign ga ev v >>= fun _ => tsts fa ev >>= fun ok => (if ok = true then
          eval pb ev >>= fun x => standAt pb.pos >>= fun _ => foldedSetIterable pb ev x >>= fun x => holding [x] (pyIter x) >>= fun jt1 => runOwn (.compStart (dcx kx vx ga pa gb pb fa fb sc pz) 1 jt1 ac ev) ev >>= fun _ =>
            again (.compLoop (dcx kx vx ga pa gb pb fa fb sc pz) 0 jt ac ev)
          else again (.compLoop (dcx kx vx ga pa gb pb fa fb sc pz) 0 jt ac ev))) := by rfl
theorem dcTurnB (kx vx ga pa gb pb : Expr) (fa fb : List Expr) (sc : Scope) (pz : Pos) (jt : Value) (D : Addr) (ev : Env) :
    compTurn (dcx kx vx ga pa gb pb fa fb sc pz) 1 jt (.ref D) ev = (standAt pb.pos >>= fun _ => pyNext jt >>= fun r => match r with
      | none => pure (.done .next)
      | some v => letOwnedTupleGo gb jt v >>= fun _ => assign gb ev v >>= fun _ => tsts fb ev >>= fun ok => (if ok = true then
          (eval kx ev >>= fun kv => holding [kv] (eval vx ev) >>= fun vv => standAt { kx.pos with endLine := vx.pos.endLine, endCol := vx.pos.endCol } >>= fun _ => holding [kv, vv] (dictSet D kv vv)) >>= fun _ =>
            again (.compLoop (dcx kx vx ga pa gb pb fa fb sc pz) 1 jt (.ref D) ev)
          else again (.compLoop (dcx kx vx ga pa gb pb fa fb sc pz) 1 jt (.ref D) ev))) := by rfl
section
variable {prog : Program} {w : World} {A : Around} {R : Result → Shared → Prop} {s : Shared} {kx vx ga pa gb pb : Expr} {fa fb : List Expr} {sc : Scope} {pz : Pos} {jt : Value} {D : Addr} {ev : Env}
abbrev nby (prog : Program) (w : World) (A : Around) (R : Result → Shared → Prop) (ev : Env) : Value → Shared → Prop := notedBy (model prog w) A ev fun e z => R (.error e) z
theorem dcLoopA (hf : ∀ x, foldedSetIterable pb ev x = pure x) (J : Nat → Shared → Prop)
    (turn : ∀ n z, J n z → wpAny (model prog w) A (pyNext jt) (fun r z1 => match r with
      | none => R (.ok .next) z1
      | some v => wpAny (model prog w) A (letOwnedTupleGo ga jt v) (fun _ z2 => wpAny (model prog w) A (assign ga ev v) (fun _ z3 => wpAny (model prog w) A (tsts fa ev) (fun ok z4 =>
          if ok = true then wpAny (model prog w) A (eval pb ev) (fun x z5 => wpAny (model prog w) A (pyIter x) (fun jt1 z6 =>
              codeAny (model prog w) A (.compStart (dcx kx vx ga pa gb pb fa fb sc pz) 1 jt1 (.ref D) ev) (fun r y => match r with
                | .ok _ => ∃ m, m < n ∧ J m y
                | .error _ => False) z6) (nby prog w A R ev) z5) (nby prog w A R ev) z4
          else ∃ m, m < n ∧ J m z4) (nby prog w A R ev) z3) (nby prog w A R ev) z2) (nby prog w A R ev) z1) (nby prog w A R ev) z)
    (n : Nat) (h : J n s) : codeAny (model prog w) A (.compLoop (dcx kx vx ga pa gb pb fa fb sc pz) 0 jt (.ref D) ev) R s := by
  refine codeAny_loop rfl J (fun n z hJ => ?_) n h
  show wpAny _ A ((compTurn (dcx kx vx ga pa gb pb fa fb sc pz) 0 jt (.ref D) ev).onRaise (fun x => do noteFrame x ev; theTreesLotGoes x)) _ _ z
  refine wpAny_noted ?_
  rw [dcTurnA]
  refine wpAny_bind (wpAny_standAt (wpAny_bind (wpAny_mono (turn n z hJ) (fun r z1 h1 => ?_) fun _ _ k => k)))
  cases r with
  | none => exact wpAny_pure h1
  | some v =>
    refine wpAny_bind (wpAny_mono h1 (fun _ z2 h2 => wpAny_bind (wpAny_mono h2 (fun _ z3 h3 => wpAny_bind (wpAny_mono h3 (fun ok z4 h4 => ?_) fun _ _ k => k)) fun _ _ k => k)) fun _ _ k => k)
    cases ok with
    | false => exact wpAny_pure ⟨rfl, h4⟩
    | true =>
      refine wpAny_bind (wpAny_mono h4 (fun x z5 h5 => wpAny_bind (wpAny_standAt (wpAny_bind (wpAny_of_eq (hf x) (wpAny_bind (wpAny_holding (wpAny_mono h5 (fun jt1 z6 h6 => ?_) fun _ _ k => k))))))) fun _ _ k => k)
      refine wpAny_bind (wpAny_runOwn ?_)
      rw [Around.mark_none]
      refine codeAny_mono h6 fun r y hr => ?_
      cases r with
      | ok f => exact wpAny_pure ⟨rfl, hr⟩
      | error e => exact hr.elim
theorem dcLoopB (J : Nat → Shared → Prop)
    (turn : ∀ n z, J n z → wpAny (model prog w) A (pyNext jt) (fun r z1 => match r with
      | none => R (.ok .next) z1
      | some v => wpAny (model prog w) A (letOwnedTupleGo gb jt v) (fun _ z2 => wpAny (model prog w) A (assign gb ev v) (fun _ z3 => wpAny (model prog w) A (tsts fb ev) (fun ok z4 =>
          if ok = true then wpAny (model prog w) A (eval kx ev) (fun kv z5 => wpAny (model prog w) A (eval vx ev) (fun vv z6 =>
              wpAny (model prog w) A (dictSet D kv vv) (fun _ z7 => ∃ m, m < n ∧ J m z7) (nby prog w A R ev) z6) (nby prog w A R ev) z5) (nby prog w A R ev) z4
          else ∃ m, m < n ∧ J m z4) (nby prog w A R ev) z3) (nby prog w A R ev) z2) (nby prog w A R ev) z1) (nby prog w A R ev) z)
    (n : Nat) (h : J n s) : codeAny (model prog w) A (.compLoop (dcx kx vx ga pa gb pb fa fb sc pz) 1 jt (.ref D) ev) R s := by
  refine codeAny_loop rfl J (fun n z hJ => ?_) n h
  show wpAny _ A ((compTurn (dcx kx vx ga pa gb pb fa fb sc pz) 1 jt (.ref D) ev).onRaise (fun x => do noteFrame x ev; theTreesLotGoes x)) _ _ z
  refine wpAny_noted ?_
  rw [dcTurnB]
  refine wpAny_bind (wpAny_standAt (wpAny_bind (wpAny_mono (turn n z hJ) (fun r z1 h1 => ?_) fun _ _ k => k)))
  cases r with
  | none => exact wpAny_pure h1
  | some v =>
    refine wpAny_bind (wpAny_mono h1 (fun _ z2 h2 => wpAny_bind (wpAny_mono h2 (fun _ z3 h3 => wpAny_bind (wpAny_mono h3 (fun ok z4 h4 => ?_) fun _ _ k => k)) fun _ _ k => k)) fun _ _ k => k)
    cases ok with
    | false => exact wpAny_pure ⟨rfl, h4⟩
    | true =>
      exact wpAny_bind (wpAny_bind (wpAny_mono h4 (fun kv z5 h5 => wpAny_bind (wpAny_holding (wpAny_mono h5 (fun vv z6 h6 => wpAny_bind (wpAny_standAt (wpAny_holding (wpAny_mono h6 (fun _ z7 h7 => wpAny_pure ⟨rfl, h7⟩) fun _ _ k => k)))) fun _ _ k => k))) fun _ _ k => k))
theorem dcStartB (h0 : codeAny (model prog w) A (.compLoop (dcx kx vx ga pa gb pb fa fb sc pz) 1 jt (.ref D) ev) R s)
    (h : wpAny (model prog w) A (pyIter jt) (fun jt' z => codeAny (model prog w) A (.compLoop (dcx kx vx ga pa gb pb fa fb sc pz) 1 jt' (.ref D) ev) R z) (nby prog w A R ev) s) :
    codeAny (model prog w) A (.compStart (dcx kx vx ga pa gb pb fa fb sc pz) 1 jt (.ref D) ev) R s := by
  refine codeAny_of_tree ?_
  show wpAny _ _ ((compStart (dcx kx vx ga pa gb pb fa fb sc pz) 1 jt (.ref D) ev).onRaise (fun x => do noteFrame x ev; standAt theWindowsPlace)) _ _ s
  refine wpAny_notedAt ?_
  unfold compStart
  show wpAny _ _ (ask >>= _) _ _ s
  refine wpAny_bind (wpAny_askSetting (wpAny_ite ?_))
  split
  · first
      | exact wpAny_bind (wpAny_pure (wpAny_pure (And.intro rfl h0)))
      | exact wpAny_pure (And.intro rfl h0)
  · first
      | exact wpAny_bind (wpAny_rule (wpAny_bind (wpAny_standAt (wpAny_bind (wpAny_mono h (fun jt' z k => wpAny_pure (And.intro rfl k)) fun _ _ x => x)))))
      | (refine wpAny_bind (wpAny_rule ?_); show wpAny _ _ (standAt pb.pos >>= _) _ _ s; exact wpAny_bind (wpAny_standAt (wpAny_bind (wpAny_mono h (fun jt' z k => wpAny_pure (And.intro rfl k)) fun _ _ x => x))))
end
end LF

set_option Elab.async false
set_option linter.all false
set_option maxRecDepth 100000
set_option maxHeartbeats 4000000
namespace LF
open PySem PySem.Spec PyProof.Rows L2
/-- what one turn of the second clause must bring: G is asked of the heap behind it -/
abbrev dcIn (tk tv : TE) (D : Addr) (σ : L2.St) (H : Hp) (G : Hp → Prop) : Prop := tk σ H fun y H1 => tv σ H1 fun z H2 => ∃ kvs k, y = kV k ∧ H2 D = some (.dK kvs) ∧ kvs.length < sizeLine ∧ G (upd H2 D (.dK (putK kvs k z)))
/-- the second clause, from the slots σ: Out is asked behind its last turn -/
def dcB (wb : TI) (gb : TG) (tb : TT) (tk tv : TE) (vb : List Nat) (D : Addr) (σ : L2.St) (H : Hp) (Out : Hp → Prop) : Prop := wb σ H fun J H1 => ∃ W : Nat → Nat → Hp → Prop, (∃ m, W 0 m H1) ∧ ∀ j k H, W j k H →
  (J.stop j H ∧ Out H) ∨ (J.go j H ∧ ∃ N : Hp → Prop, (∀ H', N H' → ∃ k', k' < k ∧ W (j + 1) k' H') ∧ ∀ x H', J.yld j H x H' → gb x (wipe σ vb) H' fun σ1 H2 => wipe σ1 vb = wipe σ vb ∧ tb σ1 H2 fun b H3 => if b = true then dcIn tk tv D σ1 H3 N else N H3)
def tDc2 (wa : TI) (ga : TG) (ta : TT) (wb : TI) (gb : TG) (tb : TT) (tk tv : TE) (va vb : List Nat) : TE := fun σ H Q => wa σ H fun J H1 => ∀ D, H1 D = none → ∃ W : Nat → Nat → Hp → Prop, (∃ m, W 0 m (upd H1 D (.dK []))) ∧ ∀ i m H, W i m H →
  (J.stop i H ∧ Q (.ref D) H) ∨ (J.go i H ∧ ∃ N : Hp → Prop, (∀ H', N H' → ∃ m', m' < m ∧ W (i + 1) m' H') ∧ ∀ x H', J.yld i H x H' → ga x (wipe σ va) H' fun σ1 H2 => wipe σ1 va = wipe σ va ∧ ta σ1 H2 fun b H3 => if b = true then dcB wb gb tb tk tv vb D σ1 H3 N else N H3)
section
variable {X : Cx}
/-- what is shown of each part of the block, wherever it stands -/
abbrev atBlk (X : Cx) (sc : Scope) (φ : Cx → Prop) : Prop := ∀ (s : Shared) (H : Hp) (C : Addr) (cl : List (Str × Addr)) (fp : List Addr), φ (X.blk s H sc (compEnvC sc cl C X.env) fp)
theorem dc2_run {pins : List (Addr × Obj)} {s : Shared} {σ : L2.St} {H : Hp} {Q : VK} {kx vx ea pa eb pb : Expr} {fa fb : List Expr} {sc : Scope} {own : List (Str × Nat)} {vb : List Nat} {pz pz' : Pos} {wa wb : TI} {ga gb : TG} {ta tb : TT} {tk tv : TE} {use : Option (Value → Sem Unit)} {Qf : Value → Shared → Prop}
    (hc : X.calm = true) (hN : X.N.Nodup) (I : Inv X pins σ H s) (hi : PI X ea pa wa) (bo : BlkOk X.N X.env.scope sc own) (hv : ∀ i ∈ vb, i ∈ own.map (·.2))
    (hga : atBlk X sc fun Y => PG Y ea ga) (hta : atBlk X sc fun Y => PTs Y fa ta) (hib : atBlk X sc fun Y => PI Y eb pb wb) (hgb : atBlk X sc fun Y => PG Y eb gb) (htb : atBlk X sc fun Y => PTs Y fb tb)
    (hk : atBlk X sc fun Y => PE Y kx tk) (hx : atBlk X sc fun Y => PE Y vx tv) (fla : ∀ x, foldedSetIterable pa X.env x = pure x) (flb : ∀ ev x, foldedSetIterable pb ev x = pure x)
    (h : tDc2 wa ga ta wb gb tb tk tv (own.map (·.2)) vb σ H Q)
    (back : ∀ D C y m H', Inv X pins σ H' y → Q (.ref D) H' → y.heap.Ns C m → FpOk X pins H' C → compPost (model X.prog X.w) X.A X.xe use Qf (.ref D) C (.ok .next) y) :
    wpAny (model X.prog X.w) X.A (comprehension (dcx kx vx ea pa eb pb fa fb sc pz) sc X.env pz' newDict false (eval pa X.env) use) Qf X.xe s := by
  have cells : ∀ y ∈ sc.names, y.2 = .free → ∃ c, X.env.cells.lookup y.1 = some c := fun y hy e => (bo.free y hy e).elim (fun k => I.ok.has _ (.inl k)) (fun k => I.ok.has _ (.inr k))
  refine wpAny_comprehension_free (use := use) rfl fla (closure_ok cells) bo.kind (fun y hy e => by rw [bo.uniq y hy, e]) (thn (hi.run pins s σ H _ I h) fun va' z1 k1 => thn k1 fun it' z2 k2 => ?_)
  obtain ⟨ia, fpa, na, Ja, Ha, ei, Ia, Ta, sa, fa0, qa⟩ := k2
  subst ei
  refine wpAny_newObj_type (newEnv_comp ?_)
  generalize eD : z2.heap.objs.size = D
  obtain ⟨W, ⟨m0, w0⟩, turnA⟩ := qa D (Ia.hok.fresh (Nat.le_of_eq eD))
  generalize ez3 : ({ z2 with heap := z2.heap.push { cls := .type "dict", data := .dict #[] } } : Shared) = z3
  have hp3 : z3.heap = z2.heap.push { cls := .type "dict", data := .dict #[] } := by rw [← ez3]
  have I3 : Inv X pins σ (upd Ha D (.dK [])) z3 := by
    rw [← ez3]
    refine Ia.laid (t' := z2.toks) (fun _ _ e => Heap.get?_push_of_some _ e) (Nat.le_of_eq eD) ?_
    rw [← eD]
    exact dk_empty z2.heap Ia.big
  have lo : ∀ b ∈ fpa, b < z2.heap.objs.size := fun b hb => let ⟨_, e, _⟩ := Ta.obj _ _ sa b hb; Heap.lt_size e
  have fa3 : ∀ b ∈ fpa, FpOk X pins (upd Ha D (.dK [])) b ∧ b < z3.heap.objs.size := fun b hb => by
    refine ⟨⟨?_, (fa0 b hb).2⟩, by rw [hp3, Heap.size_push]; exact Nat.lt_succ_of_lt (lo b hb)⟩
    rw [upd_ne (by rw [← eD]; exact Nat.ne_of_lt (lo b hb))]
    exact (fa0 b hb).1
  have sa3 : na 0 z3.heap := Ta.keep _ _ _ sa fun _ _ _ e => by rw [hp3]; exact Heap.get?_push_of_some _ e
  have Ib := block_start I3 bo hN fa3
  show codeAny _ _ (.compStart (dcx kx vx ea pa eb pb fa fb sc pz) 0 (.ref ia) (.ref D) (compEnvC sc (cellsFrom (z3.heap.objs.size + 1) sc.names (cloFrom X.env.cells sc.names [])) z3.heap.objs.size X.env))
    (compPost (model X.prog X.w) X.A X.xe use Qf (.ref D) z3.heap.objs.size) { z3 with heap := pushCells (z3.heap.push { cls := .type "dict", data := .dict #[] }) sc.names }
  generalize cellsFrom (z3.heap.objs.size + 1) sc.names (cloFrom X.env.cells sc.names []) = cl at Ib ⊢
  have pga := hga z3 (upd Ha D (.dK [])) z3.heap.objs.size cl fpa
  have pta := hta z3 (upd Ha D (.dK [])) z3.heap.objs.size cl fpa
  have pib := hib z3 (upd Ha D (.dK [])) z3.heap.objs.size cl fpa
  have pgb := hgb z3 (upd Ha D (.dK [])) z3.heap.objs.size cl fpa
  have ptb := htb z3 (upd Ha D (.dK [])) z3.heap.objs.size cl fpa
  have pk := hk z3 (upd Ha D (.dK [])) z3.heap.objs.size cl fpa
  have px := hx z3 (upd Ha D (.dK [])) z3.heap.objs.size cl fpa
  have nfa : ∀ b ∈ fpa, (upd Ha D (.dK [])) b = none := fun b hb => (fa3 b hb).1.1
  generalize ece : compEnvC sc cl z3.heap.objs.size X.env = ce at Ib pga pta pib pgb ptb pk px ⊢
  have ceL : ce.locals = z3.heap.objs.size := by subst ece; rfl
  generalize eH3 : upd Ha D (.dK []) = H3 at I3 Ib pga pta pib pgb ptb pk px w0 nfa fa3
  generalize ez4 : ({ z3 with heap := pushCells (z3.heap.push { cls := .type "dict", data := .dict #[] }) sc.names } : Shared) = z4 at Ib ⊢
  have sa4 : na 0 z4.heap := Ta.keep _ _ _ sa3 fun _ _ _ e => by rw [← ez4]; exact pushCells_keeps _ _ _ _ (Heap.get?_push_of_some _ e)
  generalize eY : X.blk z3 H3 sc ce fpa = Y at Ib pga pta pib pgb ptb pk px
  have cY : Y.calm = true := by rw [← eY]; exact hc
  have stay : ∀ {σ' : L2.St} {H' : Hp} {y : Shared}, Inv Y [] σ' H' y → (∀ b ∈ fpa, H' b = none) → ∀ b ∈ fpa, FpOk Y [] H' b := fun {σ' H' y} I' hn b hb => by
    subst eY
    exact ⟨hn b hb, (I'.ok.exf b hb).1, I'.ok.exfs b hb, .inl hb, fun x c e => (I'.ok.exf b hb).2 x c e, fun p hp => absurd (show p ∈ ([] : List (Addr × Obj)) ++ [] from hp) (by simp)⟩
  let st0 := wipe σ (own.map (·.2))
  let Turn : Nat → Shared → Prop := fun n y => ∃ i H', Inv Y [] st0 H' y ∧ na i y.heap ∧ (∀ b ∈ fpa, H' b = none) ∧ W i n H'
  have eP : model Y.prog Y.w = model X.prog X.w := by subst eY; rfl
  have eA : Y.A = X.A := by subst eY; rfl
  have loopA : codeAny (model X.prog X.w) X.A (.compLoop (dcx kx vx ea pa eb pb fa fb sc pz) 0 (.ref ia) (.ref D) ce) (compPost (model X.prog X.w) X.A X.xe use Qf (.ref D) z3.heap.objs.size) z4 := by
    refine dcLoopA (flb ce) Turn ?_ m0 ⟨0, H3, Ib, sa4, nfa, w0⟩
    rintro n z5 ⟨i, H5, I5, s5, n5, w5⟩
    rcases turnA i n H5 w5 with ⟨stop, qq⟩ | ⟨go, N, hNx, step⟩
    · subst eY
      refine thnF (Ta.done (X.blk z3 H3 sc ce fpa) rfl rfl rfl hc i [] z5 _ H5 (fun _ _ => False) I5 (stay I5 n5) s5 stop) fun r z6 ⟨hr, I6⟩ => ?_
      subst hr
      have I7 : Inv X pins σ H5 z6 := I3.call' (ch := fpa) I6.os I6.base I6.hok I6.bare fun b hb => ⟨(fa3 b hb).1.2.2.2.1, (fa3 b hb).1.2.1, (fa3 b hb).1.2.2.2.2.1, (fa3 b hb).1.2.2.2.2.2⟩
      have nC : H5 z3.heap.objs.size = none := by have q0 : H5 ce.locals = none := I6.free; rw [ceL] at q0; exact q0
      obtain ⟨m, hn, _⟩ := I6.loc
      have hn' : z6.heap.Ns ce.locals m := hn
      rw [ceL] at hn'
      exact back D z3.heap.objs.size z6 m H5 I7 qq hn' (I3.fpOk (Nat.le_refl _) nC)
    · subst eY
      refine thnF (Ta.item (X.blk z3 H3 sc ce fpa) rfl rfl rfl hc i [] z5 _ H5 (fun _ _ => False) I5 (stay I5 n5) s5 go) fun r z6 ⟨u, hr, k6⟩ => ?_
      subst hr
      refine thnF k6 fun _ z7 ⟨x, H7, I7, r7, y7, s7, n7⟩ => ?_
      have I7p := I7.pinned (stay I7 n7) (Ta.obj _ _ s7)
      refine thnF (pga.run _ z7 _ H7 x u _ I7p r7 (step x H7 y7)) fun _ z8 ⟨σ8, H8, I8, hw8, q8⟩ => ?_
      refine thnF (pta.run _ z8 σ8 H8 _ I8 q8) fun b z9 ⟨H9, I9, q9⟩ => ?_
      -- behind the turn, from slots that still know what the block knew
      have ends : ∀ {τ : L2.St} {y : Shared} {H' : Hp}, Inv (X.blk z3 H3 sc ce fpa) ([] ++ pinsAt fpa z7.heap) τ H' y → st0.length = τ.length → (∀ (j : Nat) v, st0[j]? = some (some v) → τ[j]? = some (some v)) → N H' → ∃ m, m < n ∧ Turn m y := fun {τ y H'} I' hl hkn nx => by
        obtain ⟨m', lt, w'⟩ := hNx H' nx
        have same : ∀ b ∈ fpa, ∀ o, z7.heap.get? b = some o → y.heap.get? b = some o ∧ H' b = none := fun b hb o e => let q := I'.pin (b, o) (List.mem_append_right _ (List.mem_append_right _ (mem_pinsAt hb e))); ⟨q.1, q.2.1⟩
        refine ⟨m', lt, i + 1, H', (I'.unpinned (pins := [])).weak hl hkn, Ta.keep _ _ _ s7 fun b hb o e => (same b hb o e).1, fun b hb => ?_, w'⟩
        obtain ⟨o, e, _⟩ := Ta.obj _ _ s7 b hb
        exact (same b hb o e).2
      have ln8 : st0.length = σ8.length := by show (wipe σ _).length = _; rw [← hw8, wipe_length]
      have kn8 : ∀ (j : Nat) v, st0[j]? = some (some v) → σ8[j]? = some (some v) := fun j v e => (wipe_some (show (wipe σ8 _)[j]? = _ by rw [hw8]; exact e)).1
      have kn9 : ∀ (j : Nat) v, st0[j]? = some (some v) → (wipe σ8 vb)[j]? = some (some v) := fun j v e => by
        obtain ⟨e1, e2⟩ := wipe_some (show (wipe σ8 (own.map (·.2)))[j]? = some (some v) by rw [hw8]; exact e)
        rw [wipe_out fun q => e2 (hv j q)]
        exact e1
      cases b with
      | false => exact ends I9 ln8 kn8 q9
      | true =>
        refine thnF (pib.run _ z9 σ8 H9 _ I9 q9) fun vv' z10 k10 => thnF k10 fun it'' z11 k11 => ?_
        obtain ⟨ib, fpb, nb, Jb, Hb, ej, I11, Tb, s11, fb0, Wb, ⟨mb, wb0⟩, turnB⟩ := k11
        subst ej
        have stayB : ∀ {H' : Hp}, (∀ b ∈ fpb, H' b = none) → ∀ b ∈ fpb, FpOk (X.blk z3 H3 sc ce fpa) ([] ++ pinsAt fpa z7.heap) H' b := fun hn b hb => ⟨hn b hb, (fb0 b hb).2⟩
        let TurnB : Nat → Shared → Prop := fun k y => ∃ j H', Inv (X.blk z3 H3 sc ce fpa) ([] ++ pinsAt fpa z7.heap) (wipe σ8 vb) H' y ∧ nb j y.heap ∧ (∀ b ∈ fpb, H' b = none) ∧ Wb j k H'
        have loopB : codeAny (model X.prog X.w) X.A (.compLoop (dcx kx vx ea pa eb pb fa fb sc pz) 1 (.ref ib) (.ref D) ce) (fun r y => match r with
            | .ok _ => ∃ m, m < n ∧ Turn m y
            | .error _ => False) z11 := by
          refine dcLoopB TurnB ?_ mb ⟨0, Hb, I11.weak (wipe_length _ _) (fun j v e => (wipe_some e).1), s11, fun b hb => (fb0 b hb).1, wb0⟩
          rintro k z12 ⟨j, H12, I12, s12, n12, w12⟩
          rcases turnB j k H12 w12 with ⟨stop1, nx1⟩ | ⟨go1, N1, hN1, step1⟩
          · refine thnF (Tb.done (X.blk z3 H3 sc ce fpa) rfl rfl rfl hc j _ z12 (wipe σ8 vb) H12 (fun _ _ => False) I12 (stayB n12) s12 stop1) fun r z13 ⟨hr, I13⟩ => ?_
            subst hr
            exact ends I13 (ln8.trans (wipe_length σ8 vb).symm) kn9 nx1
          · refine thnF (Tb.item (X.blk z3 H3 sc ce fpa) rfl rfl rfl hc j _ z12 (wipe σ8 vb) H12 (fun _ _ => False) I12 (stayB n12) s12 go1) fun r z13 ⟨u1, hr, k13⟩ => ?_
            subst hr
            refine thnF k13 fun _ z14 ⟨x1, H14, I14, r14, y14, s14, n14⟩ => ?_
            refine thnF (pgb.run _ z14 (wipe σ8 vb) H14 x1 u1 _ (I14.pinned (stayB n14) (Tb.obj _ _ s14)) r14 (step1 x1 H14 y14)) fun _ z15 ⟨σ15, H15, I15, hw15, q15⟩ => ?_
            refine thnF (ptb.run _ z15 σ15 H15 _ I15 q15) fun b1 z16 ⟨H16, I16, q16⟩ => ?_
            have endsB : ∀ {y : Shared} {H' : Hp}, Inv (X.blk z3 H3 sc ce fpa) (([] ++ pinsAt fpa z7.heap) ++ pinsAt fpb z14.heap) σ15 H' y → N1 H' → ∃ m, m < k ∧ TurnB m y := fun {y H'} I' nx => by
              obtain ⟨m', lt, w'⟩ := hN1 H' nx
              have same : ∀ b ∈ fpb, ∀ o, z14.heap.get? b = some o → y.heap.get? b = some o ∧ H' b = none := fun b hb o e => let q := I'.pin (b, o) (List.mem_append_right _ (List.mem_append_right _ (mem_pinsAt hb e))); ⟨q.1, q.2.1⟩
              refine ⟨m', lt, j + 1, H', I'.unpinned.weak (by rw [← hw15, wipe_length]) (fun j' v e => (wipe_some (show (wipe σ15 vb)[j']? = some (some v) by rw [hw15]; exact e)).1), Tb.keep _ _ _ s14 fun b hb o e => (same b hb o e).1, fun b hb => ?_, w'⟩
              obtain ⟨o, e, _⟩ := Tb.obj _ _ s14 b hb
              exact (same b hb o e).2
            cases b1 with
            | false => exact endsB I16 q16
            | true =>
              refine thnF (pk.run _ z16 σ15 H16 _ I16 q16) fun uk z17 ⟨yk, H17, I17, r17, q17⟩ => ?_
              refine thnF (px.run _ z17 σ15 H17 _ I17 q17) fun uv z18 ⟨yv, H18, I18, r18, kvs, ky, ek, hD18, hz18, nx⟩ => ?_
              subst ek
              exact d_dictSet (X := X.blk z3 H3 sc ce fpa) I18 hD18 hz18 r17 r18 fun z19 I19 => endsB I19 nx
        exact dcStartB loopB (Tb.self X.A 0 _ _ _ s11 loopB)
  exact codeAny_compStart_dict loopA (Ta.self X.A 0 _ _ _ sa4 loopA)
theorem pe_dc2 {kx vx ea pa eb pb : Expr} {fa fb : List Expr} {sc : Scope} {own : List (Str × Nat)} {vb : List Nat} {pz : Pos} {wa wb : TI} {ga gb : TG} {ta tb : TT} {tk tv : TE}
    (hc : X.calm = true) (hN : X.N.Nodup) (hi : PI X ea pa wa) (bo : BlkOk X.N X.env.scope sc own) (hv : ∀ i ∈ vb, i ∈ own.map (·.2))
    (hga : ∀ (z : Shared) (G : Hp) (c : Addr) (cs : List (Str × Addr)) (fs : List Addr), PG (X.blk z G sc (compEnvC sc cs c X.env) fs) ea ga) (hta : ∀ (z : Shared) (G : Hp) (c : Addr) (cs : List (Str × Addr)) (fs : List Addr), PTs (X.blk z G sc (compEnvC sc cs c X.env) fs) fa ta) (hib : ∀ (z : Shared) (G : Hp) (c : Addr) (cs : List (Str × Addr)) (fs : List Addr), PI (X.blk z G sc (compEnvC sc cs c X.env) fs) eb pb wb) (hgb : ∀ (z : Shared) (G : Hp) (c : Addr) (cs : List (Str × Addr)) (fs : List Addr), PG (X.blk z G sc (compEnvC sc cs c X.env) fs) eb gb) (htb : ∀ (z : Shared) (G : Hp) (c : Addr) (cs : List (Str × Addr)) (fs : List Addr), PTs (X.blk z G sc (compEnvC sc cs c X.env) fs) fb tb)
    (hk : ∀ (z : Shared) (G : Hp) (c : Addr) (cs : List (Str × Addr)) (fs : List Addr), PE (X.blk z G sc (compEnvC sc cs c X.env) fs) kx tk) (hx : ∀ (z : Shared) (G : Hp) (c : Addr) (cs : List (Str × Addr)) (fs : List Addr), PE (X.blk z G sc (compEnvC sc cs c X.env) fs) vx tv) (fla : ∀ x, foldedSetIterable pa X.env x = pure x := by intro _; rfl) (flb : ∀ ev x, foldedSetIterable pb ev x = pure x := by intro _ _; rfl) :
    PE X (dcx kx vx ea pa eb pb fa fb sc pz) (tDc2 wa ga ta wb gb tb tk tv (own.map (·.2)) vb) := by
  refine ⟨fun pins s σ H Q I h => ?_⟩
  have e0 : eval (dcx kx vx ea pa eb pb fa fb sc pz) X.env = comprehension (dcx kx vx ea pa eb pb fa fb sc pz) sc X.env (firstIterPos [⟨ea, pa, fa, 0⟩, ⟨eb, pb, fb, 0⟩] pz) newDict false (eval pa X.env) none := by rfl
  rw [e0]
  refine dc2_run hc hN I hi bo hv hga hta hib hgb htb hk hx fla flb h fun D C y m H' I' q hn f => ⟨m, hn, fun h'' sb => ?_⟩
  obtain ⟨f0, f1, f2, f3, f4, f5⟩ := f
  exact ⟨.ref D, H', I'.turned (t' := y.toks) (fun b o hb e => (sb.2 b hb).trans e) f0 f1 f3 f4 f5, rfl, q⟩
end
end LF

set_option Elab.async false
set_option linter.all false
set_option maxRecDepth 100000
set_option maxHeartbeats 4000000
namespace K5
open PySem PySem.Spec PyProof.Rows L2 TL LF
/-! the parent of a path and its last name -/
def par (p : Str) : Str := PySem.Txt.join c_sl (parts p).dropLast
def lastN (p : Str) : Str := (parts p).getLast?.getD ""
theorem jp {z : Str} (h : ¬ z = "") : PySem.Txt.join c_sl (parts z) = z := by
  unfold parts
  rw [if_neg h, TL.join_eq]
  exact PySem.StrLaws.join_split _ _
theorem jSnocL (n : List Nat) : ∀ (l : List (List Nat)), l ≠ [] → joinL [47] (l ++ [n]) = joinL [47] l ++ 47 :: n
  | [], h => absurd rfl h
  | [p], _ => rfl
  | p :: q :: r, _ => by
    show p ++ ([47] ++ joinL [47] ((q :: r) ++ [n])) = (p ++ ([47] ++ joinL [47] (q :: r))) ++ 47 :: n
    rw [jSnocL n (q :: r) (by simp)]
    simp [List.append_assoc]
theorem jSnoc {init : List Str} (n : Str) (hne : init ≠ []) : tl (PySem.Txt.join c_sl (init ++ [n])) = tl (PySem.Txt.join c_sl init) ++ 47 :: tl n := by
  rw [TL.join_eq, TL.join_eq, tl_join, tl_join, tl_sl, List.map_append]
  exact jSnocL (tl n) _ (by simpa using hne)
theorem atMem {x : Str} {i : Nat} (h : StrLaws.At x c_sl x.length i) : 47 ∈ (tl x).drop i := by
  have h1 := (at_iff (by rw [tl_sl]; simp) i).mp h
  rw [tl_sl] at h1
  have h2 : ((tl x).drop i).take 1 = [47] := eq_of_beq h1
  exact List.mem_of_mem_take (by rw [h2]; exact List.mem_singleton_self _)
theorem rpOne {n : Str} (hn : 47 ∉ tl n) : PySem.Txt.rpartition n c_sl = ((Str.ofString "", Str.ofString "", n) : Str × Str × Str) := by
  unfold PySem.Txt.rpartition
  rcases StrLaws.last_spec n c_sl with ⟨h1, _⟩ | ⟨i, h1, h2, _⟩
  · rw [h1]; rfl
  · exact absurd (List.mem_of_mem_drop (atMem h2)) hn
theorem rpMany {init : List Str} {n : Str} (hi : init ≠ []) (hn : 47 ∉ tl n) : PySem.Txt.rpartition (PySem.Txt.join c_sl (init ++ [n])) c_sl = (PySem.Txt.join c_sl init, c_sl, n) := by
  have et := jSnoc n hi
  generalize hx : PySem.Txt.join c_sl (init ++ [n]) = x at et
  generalize hy : PySem.Txt.join c_sl init = y at et
  have hat : StrLaws.At x c_sl x.length (tl y).length := by
    refine (at_iff (by rw [tl_sl]; simp) _).mpr ?_
    rw [et, tl_sl, List.drop_left]
    rfl
  unfold PySem.Txt.rpartition
  rcases StrLaws.last_spec x c_sl with ⟨_, h2⟩ | ⟨i, h1, h2, h3⟩
  · exact absurd hat (h2 _)
  · have hle : (tl y).length ≤ i := Nat.le_of_not_lt fun q => h3 _ q hat
    have hie : i = (tl y).length := by
      refine Nat.le_antisymm (Nat.le_of_not_lt fun q => ?_) hle
      have hm := atMem h2
      have e : i = (tl y).length + (1 + (i - (tl y).length - 1)) := by omega
      rw [et, e, ← List.drop_drop, List.drop_left, ← List.drop_drop] at hm
      exact hn (List.mem_of_mem_drop hm)
    rw [h1]
    have e1 : Builtin.Str.strSub x 0 i = y := by
      apply ext_tl
      rw [tl_strSub, hie, List.drop_zero, Nat.sub_zero, et, List.take_left]
    have e2 : Builtin.Str.strSub x (i + c_sl.length) x.length = n := by
      apply ext_tl
      have hl : c_sl.length = 1 := by decide +kernel
      rw [tl_strSub_end, hie, hl, et, ← List.drop_drop, List.drop_left]; rfl
    show (Builtin.Str.strSub x 0 i, c_sl, Builtin.Str.strSub x (i + c_sl.length) x.length) = _
    rw [e1, e2]
theorem isPl_snoc {p : Str} (h : isPl p = true) : ∃ init n, parts p = init ++ [n] ∧ (∀ s ∈ init, isNm s = true) ∧ isNm n = true ∧ p = PySem.Txt.join c_sl (init ++ [n]) := by
  obtain ⟨h1, h2, _⟩ := isPl_parts h
  have hne : parts p ≠ [] := fun e => by rw [e] at h2; simp at h2
  have e := (List.dropLast_concat_getLast hne).symm
  refine ⟨(parts p).dropLast, (parts p).getLast hne, e, fun s hs => h1 s (List.dropLast_subset _ hs), h1 _ (List.getLast_mem hne), ?_⟩
  rw [← e]; exact (jp (isPl_pt h).2).symm
theorem rpPl {p : Str} (h : isPl p = true) : ∃ s, PySem.Txt.rpartition p c_sl = (par p, s, lastN p) := by
  obtain ⟨init, n, e, h1, h2, h3⟩ := isPl_snoc h
  have ep : par p = PySem.Txt.join c_sl init := by unfold par; rw [e, List.dropLast_concat]
  have en : lastN p = n := by unfold lastN; rw [e]; simp
  rw [ep, en]
  have hn : 47 ∉ tl n := isNm_sl h2
  by_cases hi : init = []
  · subst hi
    have ej : PySem.Txt.join c_sl ([] ++ [n]) = n := by
      apply ext_tl
      rw [TL.join_eq, tl_join]; rfl
    rw [h3, ej, join_nil0]
    exact ⟨_, rpOne hn⟩
  · rw [h3]
    exact ⟨_, rpMany hi hn⟩
theorem par_begs {p : Str} (h : isPl p = true) : par p = "" ∨ par p ∈ begs p := by
  obtain ⟨init, n, e, h1, h2, h3⟩ := isPl_snoc h
  have ep : par p = PySem.Txt.join c_sl init := by unfold par; rw [e, List.dropLast_concat]
  by_cases hi : init = []
  · exact Or.inl (by rw [ep, hi]; exact join_nil0)
  · refine Or.inr ?_
    have hl : 1 ≤ init.length := List.length_pos_iff.mpr hi
    unfold begs
    rw [List.mem_map]
    refine ⟨init.length - 1, ?_, ?_⟩
    · rw [List.mem_range, e, List.length_append]; simp; omega
    · rw [ep, e, show init.length - 1 + 1 = init.length by omega, List.take_left]
theorem parts_par {p : Str} (h : isPl p = true) : parts (par p) = (parts p).dropLast := by
  obtain ⟨init, n, e, h1, h2, h3⟩ := isPl_snoc h
  unfold par
  rw [e, List.dropLast_concat]
  exact parts_join h1
/-- fewer names come first -/
theorem lenLt {a b : Str} (h : (parts a).length < (parts b).length) : PySem.W.dataLt (keyD a) (keyD b) = true := by
  unfold keyD
  rw [PySem.W.dataLt_pair (by simp [PySem.W.alike]) (by simp only [PySem.W.alike]; exact alike_strs _ _), PySem.W.dataLt_int]
  have e1 : PyData.eqv (.int (parts a).length) (.int (parts b).length) = false := by
    show (((parts a).length : Int) == ((parts b).length : Int)) = _
    have h' : ¬ ((parts a).length : Int) = ((parts b).length : Int) := by omega
    simp [h']
  rw [e1, if_neg Bool.false_ne_true]
  exact decide_eq_true (by omega)
theorem memVal {es : List (Str × V)} (nd : (es.map (·.1)).Nodup) {z : Str} {v : V} (hv : valV (kv es) (.inr z) = some v) : (z, v) ∈ es := by
  by_cases hp : z ∈ es.map (·.1)
  · obtain ⟨e, he, rfl⟩ := List.mem_map.mp hp
    have := val_mem nd (p := e.1) (v := e.2) he
    rw [hv] at this
    rw [Option.some.inj this]; exact he
  · rw [val_no hp] at hv; cases hv
/-- a parent stands ahead of its path -/
theorem par_ahead {es : List (Str × V)} (ok : OkE es) {i : Nat} {p : Str} {v : V} (h : es[i]? = some (p, v)) : par p = "" ∨ (par p, V.non) ∈ es.take i := by
  have hm := List.mem_of_getElem? h
  obtain ⟨hp1, hp2⟩ : isPl p = true ∧ p.length ≤ 1000000 := ok.pl _ hm
  rcases par_begs hp1 with h0 | h0
  · exact Or.inl h0
  · refine Or.inr ?_
    have hv := ok.up _ hm _ h0
    have hm2 := memVal ok.nd hv
    obtain ⟨j, hj, hje⟩ := List.mem_iff_getElem.mp hm2
    have hi := (List.getElem?_eq_some_iff.mp h).1
    have hie : es[i] = (p, v) := (List.getElem?_eq_some_iff.mp h).2
    have hpl := parts_par hp1
    have hn : 1 ≤ (parts p).length := (isPl_parts hp1).2.1
    have hlt : (parts (par p)).length < (parts p).length := by rw [hpl, List.length_dropLast]; omega
    have hji : j < i := by
      refine Nat.lt_of_not_le fun hij => ?_
      rcases Nat.lt_or_eq_of_le hij with hij | hij
      · have := List.pairwise_iff_getElem.mp ok.le i j (by rw [List.length_map]; exact hi) (by rw [List.length_map]; exact hj) hij
        rw [List.getElem_map, List.getElem_map, hie, hje, PySem.W.dataLe_eq] at this
        have h2 : PySem.W.dataLt (keyD (par p)) (keyD p) = true := lenLt hlt
        simp only at this
        rw [h2] at this
        cases this
      · subst hij
        rw [hie] at hje
        have : par p = p := (Prod.mk.inj hje).1.symm
        rw [this] at hlt
        exact Nat.lt_irrefl _ hlt
    rw [← hje]
    exact List.mem_iff_getElem.mpr ⟨j, by rw [List.length_take]; omega, by rw [List.getElem_take]⟩
end K5

set_option Elab.async false
set_option linter.all false
set_option maxRecDepth 100000
set_option maxHeartbeats 4000000
namespace LF
open PySem PySem.Spec PyProof.Rows L2
section
variable {J : It} {n : Nat} {G : Hp → Prop} {Y : Nat → Hp → V → Hp → Prop}
theorem dcB_it (wk : Walk J n G Y) {gb : TG} {tb : TT} {tk tv : TE} {vb : List Nat} {D : Addr} {σ : L2.St} {H0 : Hp} {Out : Hp → Prop} (Pv : Nat → Hp → Prop) (start : Pv 0 H0) (stays : ∀ i H, i ≤ n → Pv i H → G H)
    (turn : ∀ i x H H', i < n → Pv i H → Y i H x H' → gb x (wipe σ vb) H' fun σ1 H2 => wipe σ1 vb = wipe σ vb ∧ tb σ1 H2 fun b H3 => if b = true then dcIn tk tv D σ1 H3 (Pv (i + 1)) else Pv (i + 1) H3) (done : ∀ H, Pv n H → Out H) :
    ∃ W : Nat → Nat → Hp → Prop, (∃ m, W 0 m H0) ∧ ∀ j k H, W j k H →
      (J.stop j H ∧ Out H) ∨ (J.go j H ∧ ∃ N : Hp → Prop, (∀ H', N H' → ∃ k', k' < k ∧ W (j + 1) k' H') ∧ ∀ x H', J.yld j H x H' → gb x (wipe σ vb) H' fun σ1 H2 => wipe σ1 vb = wipe σ vb ∧ tb σ1 H2 fun b H3 => if b = true then dcIn tk tv D σ1 H3 N else N H3) := by
  refine ⟨fun i m H => m = n - i ∧ i ≤ n ∧ Pv i H, ⟨n, by simp, Nat.zero_le _, start⟩, ?_⟩
  rintro i m H ⟨rfl, hi, p⟩
  rcases Nat.lt_or_eq_of_le hi with lt | rfl
  · exact .inr ⟨wk.goes i H lt (stays i H hi p), Pv (i + 1), fun H' p' => ⟨n - (i + 1), by omega, rfl, lt, p'⟩, fun x H' y => turn i x H H' lt p (wk.yields i H x H' lt (stays i H hi p) y)⟩
  · exact .inl ⟨wk.stops H (stays i H hi p), done H p⟩
theorem dc2_it (wk : Walk J n G Y) {ga : TG} {ta : TT} {wb : TI} {gb : TG} {tb : TT} {tk tv : TE} {va vb : List Nat} {D : Addr} {σ : L2.St} {H0 : Hp} {Out : Hp → Prop} (Pv : Nat → Hp → Prop) (start : Pv 0 (upd H0 D (.dK []))) (stays : ∀ i H, i ≤ n → Pv i H → G H)
    (turn : ∀ i x H H', i < n → Pv i H → Y i H x H' → ga x (wipe σ va) H' fun σ1 H2 => wipe σ1 va = wipe σ va ∧ ta σ1 H2 fun b H3 => if b = true then dcB wb gb tb tk tv vb D σ1 H3 (Pv (i + 1)) else Pv (i + 1) H3) (done : ∀ H, Pv n H → Out H) :
    ∃ W : Nat → Nat → Hp → Prop, (∃ m, W 0 m (upd H0 D (.dK []))) ∧ ∀ i m H, W i m H →
      (J.stop i H ∧ Out H) ∨ (J.go i H ∧ ∃ N : Hp → Prop, (∀ H', N H' → ∃ m', m' < m ∧ W (i + 1) m' H') ∧ ∀ x H', J.yld i H x H' → ga x (wipe σ va) H' fun σ1 H2 => wipe σ1 va = wipe σ va ∧ ta σ1 H2 fun b H3 => if b = true then dcB wb gb tb tk tv vb D σ1 H3 N else N H3) := by
  refine ⟨fun i m H => m = n - i ∧ i ≤ n ∧ Pv i H, ⟨n, by simp, Nat.zero_le _, start⟩, ?_⟩
  rintro i m H ⟨rfl, hi, p⟩
  rcases Nat.lt_or_eq_of_le hi with lt | rfl
  · exact .inr ⟨wk.goes i H lt (stays i H hi p), Pv (i + 1), fun H' p' => ⟨n - (i + 1), by omega, rfl, lt, p'⟩, fun x H' y => turn i x H H' lt p (wk.yields i H x H' lt (stays i H hi p) y)⟩
  · exact .inl ⟨wk.stops H (stays i H hi p), done H p⟩
end
end LF

set_option Elab.async false
set_option linter.all false
set_option maxRecDepth 100000
set_option maxHeartbeats 4000000
namespace K5
open PySem PySem.Spec PyProof.Rows L2 LF
/-! the files and plain folders among entries -/
def isRef : V → Bool
  | .str _ => true
  | _ => false
/-- the folders above a reference -/
def tornE (es : List (Str × V)) : List Str := es.flatMap fun e => if isRef e.2 = true then begs e.1 else []
def keepE (es : List (Str × V)) (e : Str × V) : Bool := !isRef e.2 && !decide (e.1 ∈ tornE es)
def solidE (es : List (Str × V)) : List (Str × V) := es.filter (keepE es)
theorem plain_str {K : PySem.W.Frag} {H : Hp} {x : V} (h : Plain x) : ∃ t b, TyX K H x t ∧ PySem.W.kitOne K t (.type "str") = some b ∧ b = isRef x := by
  rcases h with rfl | ⟨i, rfl⟩ | ⟨z, rfl, hz⟩
  · exact ⟨_, _, .base .non, kit_no (t := "NoneType") (by simp [notStr]), rfl⟩
  · exact ⟨_, _, .base (.int i), kit_no (t := "int") (by simp [notStr]), rfl⟩
  · exact ⟨_, _, .base (.str z), kit_str, rfl⟩
theorem begs_num (p : Str) : (begs p).length = (parts p).length - 1 := by unfold begs; rw [List.length_map, List.length_range]
theorem valPut {kvs : List (Key × V)} {k q : Key} {v : V} : (valV (putK kvs k v) q).isSome = ((valV kvs q).isSome || decide (q = k)) := by
  by_cases h : q = k
  · rw [valV_put, if_pos h, decide_eq_true h, Bool.or_true]; rfl
  · rw [valV_put, if_neg h, decide_eq_false h, Bool.or_false]
def spSolid : Sp := fun vs H Q _ => ∃ (d : Addr) (es : List (Str × V)), vs = [.ref d] ∧ H d = some (.dK (kv es)) ∧ OkE es ∧ es.length ≤ 1000 ∧ ∀ H' p, Same H H' → H p = none → H' p = some (.dK (kv (solidE es))) → Q (.ref p) H'
abbrev s_solid_entries : Stmt := topS 34
abbrev N_solid_entries : List Str := ["entries", "torn", "path", "place"]
theorem sc_solid_entries : FnScope ["entries", "torn", "path", "place"] ["entries"] (defScope s_solid_entries) := ⟨rfl, rfl, rfl, by decide +kernel, rfl, by decide +kernel, by decide +kernel⟩
section
variable {P : Program} {w : World} {K : PySem.W.Frag} {mg : Str → Option Value} {base : Heap} {tk1 tk2 : Tok}
theorem filt_next {es : List (Str × V)} {g : Str × V → Bool} {i : Nat} {e : Str × V} (h : es[i]? = some e) : (es.take (i + 1)).filter g = (es.take i).filter g ++ (if g e = true then [e] else []) := by
  rw [List.take_add_one, h, List.filter_append]
  congr 1
  cases hg : g e <;> simp [hg]
theorem put_filt {es : List (Str × V)} {g : Str × V → Bool} {i : Nat} {p : Str} {v : V} (nd : (es.map (·.1)).Nodup) (h : es[i]? = some (p, v)) : putK (kv ((es.take i).filter g)) (.inr p) v = kv ((es.take i).filter g ++ [(p, v)]) := by
  have hno : p ∉ ((es.take i).filter g).map (·.1) := by
    intro hm
    obtain ⟨q, hq, hqp⟩ := List.mem_map.mp hm
    obtain ⟨j, hj, hjq⟩ := List.mem_iff_getElem.mp (List.mem_filter.mp hq).1
    rw [List.length_take] at hj
    have hil := (List.getElem?_eq_some_iff.mp h).1
    rw [List.getElem_take] at hjq
    have h1 : (es.map (·.1))[j]'(by rw [List.length_map]; omega) = p := by rw [List.getElem_map, hjq, hqp]
    have h2 : (es.map (·.1))[i]'(by rw [List.length_map]; exact hil) = p := by rw [List.getElem_map, (List.getElem?_eq_some_iff.mp h).2]
    exact List.pairwise_iff_getElem.mp nd j i (by rw [List.length_map]; omega) (by rw [List.length_map]; exact hil) (by omega) (h1.trans h2.symm)
  rw [putK_new _ (val_no hno)]
  unfold kv
  rw [List.map_append]; rfl
theorem ok_solid {f f1 : Addr} {fd fd1 : FuncData} (F : Fun K "solid_entries" "solid_entries" s_solid_entries f fd) (T : Txt K mg tk1 tk2)
    (d_beg : DefAt P w K mg base "beginnings" 2 f1 fd1 ["path"] spBeg) : FnOk P w K mg base CX0 3 f fd ["entries"] spSolid := by
  refine F.ok sc_solid_entries (fun vs H Q E h => ?_) (fun cdv A outer s H vs Q E hr h => ?_)
  · obtain ⟨d, es, rfl, _⟩ := h
    rfl
  have hu1 := hu_of hr
  refine ⟨_, (pss_cons (ps_set (i := 1) sc_solid_entries.nd rfl (Or.inr rfl) (pe_lock (pe_dc2 (own := [("path", 2), ("place", 3)]) (vb := [3]) rfl sc_solid_entries.nd (pi_keys (pv 0)) (blkOk_by (N := N_solid_entries) (sc := defScope s_solid_entries) (by decide +kernel)) (by decide)
      (fun _ _ _ _ _ => pg_name (i := 2) sc_solid_entries.nd rfl (Or.inl rfl))
      (fun _ _ _ _ _ => pts_one (pt_val (pe_callB (show CallR _ (.builtin "isinstance") (rIsi K) from call_isi) (by rfl) T.n_isinstance (by decide +kernel) (pa_cons (pe_dget hu1 (pv 0) (pv 2) (fun _ _ => rfl)) (pa_cons (pe_bltn (v := .ty "str") (by rfl) T.n_str (by decide +kernel) rfl) pa_nil)))))
      (fun _ _ _ _ _ => (show PI _ _ _ (iList K _) from pi_list (pe_callD d_beg (hr.mono (by decide)) (pa_cons (pv 2) pa_nil)))) (fun _ _ _ _ _ => pg_name (i := 3) sc_solid_entries.nd rfl (Or.inl rfl)) (fun _ _ _ _ _ => pts_nil) (fun _ _ _ _ _ => pv 3) (fun _ _ _ _ _ => pe_bl))))
    (pss_one (ps_ret (pe_lock (pe_dc (own := [("path", 2)]) rfl sc_solid_entries.nd (pi_keys (pv 0)) (blkOk_by (N := N_solid_entries) (sc := defScope s_solid_entries) (by decide +kernel)) (fun _ _ _ _ _ => pg_name (i := 2) sc_solid_entries.nd rfl (Or.inl rfl))
      (fun _ _ _ _ _ => pts_one (PW.pt (pw_and (pt_not (pt_val (pe_callB (show CallR _ (.builtin "isinstance") (rIsi K) from call_isi) (by rfl) T.n_isinstance (by decide +kernel) (pa_cons (pe_dget hu1 (pv 0) (pv 2) (fun _ _ => rfl)) (pa_cons (pe_bltn (v := .ty "str") (by rfl) T.n_str (by decide +kernel) rfl) pa_nil))))) (pw_and1 (pt_cmp (pc_dnotin hu1 (pv 2) (pv 1)))))))
      (fun _ _ _ _ _ => pv 2) (fun _ _ _ _ _ => pe_dget hu1 (pv 0) (pv 2) (fun _ _ => rfl))))))), ?_⟩
  obtain ⟨d, es, rfl, hd, ok, hlen, hq⟩ := h
  have hbig := sizeLine_big
  have hkl : (kv es).length = es.length := by unfold kv; rw [List.length_map]
  refine ⟨d, _, hd, True.intro, fun od => ?_⟩
  refine ⟨_, rfl, d, od, rfl, Or.inl ⟨kv es, upd_same, fun D hD => ?_⟩⟩
  have hl0 : (upd H d (.frz od (.dK (kv es)))) d = some (.frz od (.dK (kv es))) := upd_same
  have hs0 : ∀ H', Same (upd H d (.frz od (.dK (kv es)))) H' → Same H (upd H' d (.dK (kv es))) := fun H' s' => same_unlock hd s'
  generalize (upd H d (.frz od (.dK (kv es)))) = L at hl0 hs0 hD
  have nDd : D ≠ d := Ne.symm (ne_of_none hl0 hD)
  refine dc2_it walk_keys (fun i H' => Same L H' ∧ ∃ ts : List (Key × V), H' D = some (.dK ts) ∧ ts.length ≤ 10 * i ∧ ∀ q, (valV ts (.inr q)).isSome = decide (q ∈ tornE (es.take i))) ⟨same_new hD, [], upd_same, Nat.le_refl _, fun q => rfl⟩ (fun i H' _ h => h.1 _ _ hl0) ?_ ?_
  · rintro i x H1 H2 hi ⟨sm, ts, hts, htl, htv⟩ ⟨rfl, k, v, hk, rfl⟩
    obtain ⟨p, rfl, hie, hm⟩ := kv_get hk
    obtain ⟨hp1, hp2⟩ : isPl p = true ∧ p.length ≤ 1000000 := ok.pl _ hm
    obtain ⟨hi1, hi2⟩ := ok.it _ hm
    have hv := val_mem ok.nd hm
    have etake : tornE (es.take (i + 1)) = tornE (es.take i) ++ (if isRef v = true then begs p else []) := by
      rw [List.take_add_one, hie]; unfold tornE; rw [List.flatMap_append]; simp
    obtain ⟨t, b, ty, hkit, hb⟩ := plain_str (K := K) (H := H2) hi1
    refine ⟨rfl, _, rfl, _, rfl, d, v, rfl, .inl ⟨kv es, .inr p, .inr ⟨od, sm _ _ hl0⟩, rfl, hv.symm⟩, v, .ty "str", _, _, b, rfl, .ty _, ty, hkit, b, rfl, ?_⟩
    subst hb
    cases hr0 : isRef v with
    | false =>
      refine iteF ⟨sm, ts, hts, by omega, fun q => ?_⟩
      rw [htv q, etake, hr0, if_neg Bool.false_ne_true, List.append_nil]
    | true =>
      refine iteT ⟨_, rfl, p, rfl, hp2, hp1, fun H3 bl s3 nb hb => ⟨bl, rfl, ⟨_, SqL.of hb⟩, ?_⟩⟩
      have hlb : (begs p).length ≤ 9 := by rw [begs_num]; have := (isPl_parts hp1).2.2; omega
      have hi9 : i < 1000 := by omega
      refine dcB_it (walk_list (xs := (begs p).map V.str)) (fun j H' => Same H3 (upd H' D (.dK ts)) ∧ ∃ us : List (Key × V), H' D = some (.dK us) ∧ us.length ≤ 10 * i + j ∧ ∀ q, (valV us (.inr q)).isSome = decide (q ∈ tornE (es.take i) ++ (begs p).take j)) ⟨?_, ts, s3 _ _ hts, by omega, fun q => by rw [htv q, List.take_zero, List.append_nil]⟩ ?_ ?_ ?_
      · intro a o e
        by_cases ha : a = D
        · subst ha; rw [upd_same, ← e, s3 _ _ hts]
        · rw [upd_ne ha]; exact e
      · rintro j H' _ ⟨s4, us, hus, _⟩
        have nbD : bl ≠ D := fun e => by subst e; rw [s3 _ _ hts] at hb; cases hb
        have := s4 _ _ hb
        rw [upd_ne nbD] at this
        exact SqL.of this
      · rintro j x H4 H5 hj ⟨s4, us, hus, hul, huv⟩ ⟨rfl, hx⟩
        rw [List.length_map] at hj
        rw [List.getElem?_map, List.getElem?_eq_getElem hj] at hx
        obtain rfl := (Option.some.inj hx).symm
        refine ⟨rfl, _, rfl, us, .inr ((begs p)[j]), rfl, hus, by omega, ?_, _, upd_same, ?_, fun q => ?_⟩
        · rw [upd_upd]; exact s4
        · have := length_putK us (.inr ((begs p)[j])) (.bl true); omega
        · rw [valPut, huv q, List.take_add_one, List.getElem?_eq_getElem hj]
          have e1 : decide ((Sum.inr q : Key) = Sum.inr ((begs p)[j])) = decide (q = (begs p)[j]) := key_rr _ _
          rw [e1, ← List.append_assoc]
          show _ = decide (q ∈ (tornE (es.take i) ++ (begs p).take j) ++ [(begs p)[j]])
          by_cases h1 : q ∈ tornE (es.take i) ++ (begs p).take j
          · rw [decide_eq_true h1, decide_eq_true (List.mem_append_left _ h1)]; rfl
          · by_cases h2 : q = (begs p)[j]
            · have h3 : q ∈ (tornE (es.take i) ++ (begs p).take j) ++ [(begs p)[j]] := List.mem_append.mpr (Or.inr (List.mem_singleton.mpr h2))
              rw [decide_eq_true h2, decide_eq_true h3, Bool.or_true]
            · rw [decide_eq_false h1, decide_eq_false h2, decide_eq_false (fun h => (List.mem_append.mp h).elim h1 fun h => h2 (List.mem_singleton.mp h))]; rfl
      · rintro H4 ⟨s4, us, hus, hul, huv⟩
        rw [List.length_map] at huv hul
        refine ⟨?_, us, hus, by omega, fun q => ?_⟩
        · intro a o e
          have na : a ≠ D := fun ea => by subst ea; rw [hD] at e; cases e
          have := s4 _ _ (s3 _ _ (sm _ _ e))
          rw [upd_ne na] at this; exact this
        · rw [huv q, etake, hr0, if_pos rfl, List.take_length]
  rintro H1 ⟨sm, ts, hts, htl, htv⟩
  rw [hkl, List.take_length] at htv
  refine ⟨sm _ _ hl0, ?_⟩
  have S1 := hs0 _ sm
  have hts1 : (upd H1 d (.dK (kv es))) D = some (.dK ts) := by rw [upd_ne nDd]; exact hts
  generalize (upd H1 d (.dK (kv es))) = G1 at S1 hts1
  have hdG := S1 _ _ hd
  -- the second one
  refine ⟨d, _, hdG, True.intro, fun od2 => ?_⟩
  refine ⟨_, rfl, d, od2, rfl, Or.inl ⟨kv es, upd_same, fun D2 hD2 => ?_⟩⟩
  have hl2 : (upd G1 d (.frz od2 (.dK (kv es)))) d = some (.frz od2 (.dK (kv es))) := upd_same
  have hs2 : ∀ H', Same (upd G1 d (.frz od2 (.dK (kv es)))) H' → Same G1 (upd H' d (.dK (kv es))) := fun H' s' => same_unlock hdG s'
  have hts2 : (upd G1 d (.frz od2 (.dK (kv es)))) D = some (.dK ts) := by rw [upd_ne nDd]; exact hts1
  have hfr : G1 D2 = none := by
    by_cases e : D2 = d
    · subst e; rw [hl2] at hD2; cases hD2
    · rw [upd_ne e] at hD2; exact hD2
  generalize (upd G1 d (.frz od2 (.dK (kv es)))) = L2' at hl2 hs2 hD2 hts2
  have nD2 : D2 ≠ d := Ne.symm (ne_of_none hl2 hD2)
  refine dc_it walk_keys (fun i H' => Same L2' H' ∧ H' D2 = some (.dK (kv ((es.take i).filter (keepE es))))) ⟨same_new hD2, upd_same⟩ (fun i H' _ h => h.1 _ _ hl2) ?_ ?_
  · rintro i x H1 H2 hi ⟨sm, hd2⟩ ⟨rfl, k, v, hk, rfl⟩
    obtain ⟨p, rfl, hie, hm⟩ := kv_get hk
    obtain ⟨hi1, hi2⟩ := ok.it _ hm
    have hv := val_mem ok.nd hm
    obtain ⟨t, b, ty, hkit, hb⟩ := plain_str (K := K) (H := H2) hi1
    have hds := sm _ _ hl2
    have step := filt_next (g := keepE es) hie
    have hfl : (kv ((es.take i).filter (keepE es))).length ≤ es.length := by
      unfold kv; rw [List.length_map]
      exact Nat.le_trans (List.length_filter_le _ _) (by rw [List.length_take]; omega)
    refine ⟨rfl, _, rfl, _, rfl, d, v, rfl, .inl ⟨kv es, .inr p, .inr ⟨od2, hds⟩, rfl, hv.symm⟩, v, .ty "str", _, _, b, rfl, .ty _, ty, hkit, b, rfl, ?_⟩
    subst hb
    cases hr0 : isRef v with
    | true =>
      have hk0 : keepE es (p, v) = false := by unfold keepE; rw [hr0]; rfl
      rw [hk0, if_neg Bool.false_ne_true, List.append_nil] at step
      refine iteF (iteF ⟨sm, ?_⟩)
      rw [step]; exact hd2
    | false =>
      refine iteT ⟨_, rfl, _, rfl, D, _, rfl, DGet.k (k := Sum.inr p) (sm _ _ hts2), _, rfl, ?_⟩
      have hk0 : keepE es (p, v) = !decide (p ∈ tornE es) := by unfold keepE; rw [hr0]; rfl
      rw [htv p, ← hk0]
      cases hk1 : keepE es (p, v) with
      | false =>
        rw [hk1, if_neg Bool.false_ne_true, List.append_nil] at step
        refine iteF ⟨sm, ?_⟩
        rw [step]; exact hd2
      | true =>
        rw [hk1, if_pos rfl] at step
        refine iteT ⟨_, rfl, _, rfl, _, rfl, d, v, rfl, .inl ⟨kv es, .inr p, .inr ⟨od2, hds⟩, rfl, hv.symm⟩, _, .inr p, rfl, hd2, by omega, same_upd hD2 sm, ?_⟩
        rw [upd_same, put_filt ok.nd hie, step]
  · rintro H1 ⟨sm, hd2⟩
    rw [hkl, List.take_length] at hd2
    refine ⟨sm _ _ hl2, ?_⟩
    have S2 := hs2 _ sm
    exact hq _ D2 (S1.trans S2) (S1.free hfr) (by rw [upd_ne nD2]; exact hd2)
end
end K5

set_option Elab.async false
set_option linter.all false
set_option maxRecDepth 100000
set_option maxHeartbeats 4000000
namespace K5
open PySem PySem.Spec PyProof.Rows L2 LF
/-! the names directly in each folder -/
abbrev Room3 := Str × Addr × List Str
def rkv (rs : List Room3) : List (Key × V) := rs.map fun r => (.inr r.1, .ref r.2.1)
/-- rooms laid at r: a dict of lists -/
structure Rooms (H : Hp) (r : Addr) (rs : List Room3) : Prop where
  d : H r = some (.dK (rkv rs))
  l : ∀ x ∈ rs, H x.2.1 = some (.lst (x.2.2.map V.str))
theorem Rooms.same {H H' : Hp} {r : Addr} {rs : List Room3} (h : Rooms H r rs) (s : Same H H') : Rooms H' r rs := ⟨s _ _ h.d, fun x hx => s _ _ (h.l x hx)⟩
def bare3 (rs : List Room3) : List (Str × List Str) := rs.map fun r => (r.1, r.2.2)
def roomStep (rs : List (Str × List Str)) (e : Str × V) : List (Str × List Str) := (rs.map fun r => if r.1 = par e.1 then (r.1, r.2 ++ [lastN e.1]) else r) ++ (if e.2 = .non then [(e.1, [])] else [])
def roomsE (es : List (Str × V)) : List (Str × List Str) := es.foldl roomStep [("", [])]
theorem roomsE_next {es : List (Str × V)} {i : Nat} {e : Str × V} (h : es[i]? = some e) : roomsE (es.take (i + 1)) = roomStep (roomsE (es.take i)) e := by
  unfold roomsE
  rw [List.take_add_one, h, List.foldl_append]; rfl
theorem room_keys (es : List (Str × V)) : (roomsE es).map (·.1) = (Str.ofString "") :: (es.filter fun e => decide (e.2 = .non)).map (·.1) := by
  have gen : ∀ (es : List (Str × V)) (rs : List (Str × List Str)), (es.foldl roomStep rs).map (·.1) = rs.map (·.1) ++ (es.filter fun e => decide (e.2 = .non)).map (·.1) := by
    intro es
    induction es with
    | nil => intro rs; simp
    | cons e l ih =>
      intro rs
      rw [List.foldl_cons, ih]
      have e1 : (roomStep rs e).map (·.1) = rs.map (·.1) ++ (if e.2 = .non then [e.1] else []) := by
        unfold roomStep
        rw [List.map_append, List.map_map]
        congr 1
        · refine List.map_congr_left fun r _ => ?_
          show (if r.1 = par e.1 then (r.1, r.2 ++ [lastN e.1]) else r).1 = r.1
          split <;> rfl
        · split <;> rfl
      rw [e1, List.filter_cons]
      by_cases h : e.2 = .non
      · rw [if_pos h, if_pos (decide_eq_true h)]; simp
      · rw [if_neg h, if_neg (by rw [decide_eq_false h]; exact Bool.false_ne_true)]; simp
  exact gen es _
theorem room_nd {es : List (Str × V)} (ok : OkE es) (i : Nat) : ((roomsE (es.take i)).map (·.1)).Nodup := by
  rw [room_keys, List.nodup_cons]
  constructor
  · intro h
    obtain ⟨e, he, h0⟩ := List.mem_map.mp h
    have hm := List.mem_of_mem_take (List.mem_filter.mp he).1
    exact (isPl_pt (ok.pl e hm).1).2 h0
  · have h1 : ((es.take i).map (·.1)).Nodup := by rw [List.map_take]; exact ok.nd.sublist (List.take_sublist _ _)
    exact h1.sublist (List.filter_sublist.map _)
theorem val_rkv {rs : List Room3} (nd : (rs.map (·.1)).Nodup) {x : Room3} (h : x ∈ rs) : valV (rkv rs) (.inr x.1) = some (.ref x.2.1) := by
  have := val_mem (es := rs.map fun r => (r.1, V.ref r.2.1)) (p := x.1) (v := .ref x.2.1) (by rw [List.map_map]; exact nd) (List.mem_map.mpr ⟨x, h, rfl⟩)
  unfold kv at this
  rw [List.map_map] at this
  exact this
theorem val_rkv_no {rs : List Room3} {p : Str} (h : p ∉ rs.map (·.1)) : valV (rkv rs) (.inr p) = none := by
  have := val_no (es := rs.map fun r => (r.1, V.ref r.2.1)) (p := p) (by rw [List.map_map]; exact h)
  unfold kv at this
  rw [List.map_map] at this
  exact this
/-- a name put behind those of one folder -/
def addRoom (rs : List Room3) (f n : Str) : List Room3 := rs.map fun r => if r.1 = f then (r.1, r.2.1, r.2.2 ++ [n]) else r
theorem addRoom_kv (rs : List Room3) (f n : Str) : rkv (addRoom rs f n) = rkv rs := by
  unfold rkv addRoom
  rw [List.map_map]
  refine List.map_congr_left fun r _ => ?_
  show (Sum.inr (if r.1 = f then (r.1, r.2.1, r.2.2 ++ [n]) else r).1, V.ref (if r.1 = f then (r.1, r.2.1, r.2.2 ++ [n]) else r).2.1) = _
  split <;> rfl
theorem addRoom_ad (rs : List Room3) (f n : Str) : (addRoom rs f n).map (·.2.1) = rs.map (·.2.1) := by
  unfold addRoom
  rw [List.map_map]
  refine List.map_congr_left fun r _ => ?_
  show (if r.1 = f then (r.1, r.2.1, r.2.2 ++ [n]) else r).2.1 = _
  split <;> rfl
theorem addRoom_bare (rs : List Room3) (f n : Str) : bare3 (addRoom rs f n) = (bare3 rs).map fun r => if r.1 = f then (r.1, r.2 ++ [n]) else r := by
  unfold bare3 addRoom
  rw [List.map_map, List.map_map]
  refine List.map_congr_left fun r _ => ?_
  show ((if r.1 = f then (r.1, r.2.1, r.2.2 ++ [n]) else r).1, (if r.1 = f then (r.1, r.2.1, r.2.2 ++ [n]) else r).2.2) = (if r.1 = f then (r.1, r.2.2 ++ [n]) else (r.1, r.2.2))
  split <;> rfl
theorem nd_inj {α β : Type} {f : α → β} {l : List α} (nd : (l.map f).Nodup) {a b : α} (ha : a ∈ l) (hb : b ∈ l) (h : f a = f b) : a = b := by
  induction l with
  | nil => cases ha
  | cons x l ih =>
    rw [List.map_cons, List.nodup_cons] at nd
    rcases List.mem_cons.mp ha with rfl | ha
    · rcases List.mem_cons.mp hb with rfl | hb
      · rfl
      · exact absurd (List.mem_map.mpr ⟨b, hb, h.symm⟩) nd.1
    · rcases List.mem_cons.mp hb with rfl | hb
      · exact absurd (List.mem_map.mpr ⟨a, (by assumption), h⟩) nd.1
      · exact ih nd.2 ha hb
theorem Rooms.add {H : Hp} {r : Addr} {rs : List Room3} (h : Rooms H r rs) (nk : (rs.map (·.1)).Nodup) (na : (rs.map (·.2.1)).Nodup) {x : Room3} (hx : x ∈ rs) (n : Str) :
    Rooms (upd H x.2.1 (.lst (x.2.2.map V.str ++ [.str n]))) r (addRoom rs x.1 n) := by
  have nr : r ≠ x.2.1 := ne_of h.d (h.l x hx) (by intro z; cases z)
  refine ⟨by rw [upd_ne nr, addRoom_kv]; exact h.d, fun y hy => ?_⟩
  obtain ⟨z, hz, rfl⟩ := List.mem_map.mp hy
  by_cases hzx : z.1 = x.1
  · obtain rfl := nd_inj nk hz hx hzx
    rw [if_pos rfl]
    show upd H z.2.1 _ z.2.1 = some (.lst ((z.2.2 ++ [n]).map V.str))
    rw [upd_same, List.map_append]; rfl
  · rw [if_neg hzx]
    have : z.2.1 ≠ x.2.1 := fun e => hzx (by rw [nd_inj na hz hx e])
    rw [upd_ne this]
    exact h.l z hz
def spWithin : Sp := fun vs H Q _ => ∃ (d : Addr) (es : List (Str × V)), vs = [.ref d] ∧ H d = some (.dK (kv es)) ∧ OkE es ∧ es.length ≤ 1000 ∧ ∀ H' p rs, Same H H' → H p = none → Rooms H' p rs → bare3 rs = roomsE es → Q (.ref p) H'
abbrev s_names_within : Stmt := topS 35
abbrev N_names_within : List Str := ["entries", "rooms", "path", "folder", "slash", "name"]
theorem sc_names_within : FnScope ["entries", "rooms", "path", "folder", "slash", "name"] ["entries"] (defScope s_names_within) := ⟨rfl, rfl, rfl, by decide +kernel, rfl, by decide +kernel, by decide +kernel⟩
section
variable {P : Program} {w : World} {K : PySem.W.Frag} {mg : Str → Option Value} {base : Heap} {tk1 tk2 : Tok}
theorem room_len (es : List (Str × V)) : (roomsE es).length ≤ es.length + 1 := by
  have h := congrArg List.length (room_keys es)
  rw [List.length_map, List.length_cons, List.length_map] at h
  have := List.length_filter_le (fun e : Str × V => decide (e.2 = .non)) es
  omega
theorem room_size : ∀ (es : List (Str × V)), ∀ r ∈ roomsE es, r.2.length ≤ es.length := by
  have gen : ∀ (es : List (Str × V)) (rs : List (Str × List Str)) (n : Nat), (∀ r ∈ rs, r.2.length ≤ n) → ∀ r ∈ es.foldl roomStep rs, r.2.length ≤ n + es.length := by
    intro es
    induction es with
    | nil => intro rs n h r hr; exact h r hr
    | cons e l ih =>
      intro rs n h r hr
      rw [List.foldl_cons] at hr
      have := ih (roomStep rs e) (n + 1) (fun q hq => ?_) r hr
      · rw [List.length_cons]; omega
      · unfold roomStep at hq
        rcases List.mem_append.mp hq with hq | hq
        · obtain ⟨y, hy, rfl⟩ := List.mem_map.mp hq
          have hy2 := h y hy
          split
          · show (y.2 ++ [lastN e.1]).length ≤ n + 1
            rw [List.length_append]; simp; omega
          · omega
        · split at hq
          · obtain rfl := List.mem_singleton.mp hq; exact Nat.zero_le _
          · cases hq
  intro es r hr
  have := gen es [("", [])] 0 (fun q hq => by obtain rfl := List.mem_singleton.mp hq; exact Nat.le_refl _) r hr
  omega
theorem ok_within {f : Addr} {fd : FuncData} (F : Fun K "names_within" "names_within" s_names_within f fd) (T : Txt K mg tk1 tk2) : FnOk P w K mg base CX0 1 f fd ["entries"] spWithin := by
  refine F.ok sc_names_within (fun vs H Q E h => ?_) (fun cdv A outer s H vs Q E hr h => ?_)
  · obtain ⟨d, es, rfl, _⟩ := h
    rfl
  have hu1 := hu_of hr
  refine ⟨_, (pss_cons (ps_set (i := 1) sc_names_within.nd rfl (Or.inl rfl) (pe_disp (pps_cons pe_str (pe_lst pa_nil) pps_nil) rfl rfl (fun h => nomatch h) (by decide)))
    (pss_cons (ps_lock (ps_for PassesOwn.never rfl (pi_keys (pv 0)) (pg_name (i := 2) sc_names_within.nd rfl (Or.inl rfl)) (pss_cons (ps_asg (pe_rpartition (pv 2) pe_str) (pg_tup (by rfl) (pgs_cons (pg_name (i := 3) sc_names_within.nd rfl (Or.inl rfl)) (pgs_cons (pg_name (i := 4) sc_names_within.nd rfl (Or.inl rfl)) (pgs_cons (pg_name (i := 5) sc_names_within.nd rfl (Or.inl rfl)) pgs_nil)))))
    (pss_cons (ps_expr (pe_bm PySem.F.plainAttrs_list PySem.F.slot_list_append PySem.F.type_list_append mt_append (pe_dget hu1 (pv 1) (pv 3) (fun _ _ => rfl)) (pa_cons (pv 5) pa_nil)))
    (pss_one (ps_if (pt_cmpR op_isN (pe_dget hu1 (pv 0) (pv 2) (fun _ _ => rfl)) pe_non (nomark _)) (pss_one (ps_dput hu1 (pv 1) (pv 2) (pe_lst pa_nil) rfl)) pss_nil))))))
    (pss_one (ps_ret (pv 1))))), ?_⟩
  obtain ⟨d, es, rfl, hd, ok, hlen, hq⟩ := h
  have hbig := sizeLine_big
  have hkl : (kv es).length = es.length := by unfold kv; rw [List.length_map]
  intro p hp
  refine ⟨Nat.zero_le _, fun l hl => ?_⟩
  have npl : p ≠ l := ne_of_none upd_same hl
  have hl0 : H l = none := by rw [upd_ne npl.symm] at hl; exact hl
  refine ⟨by rw [upd_ne npl, upd_same], [(.inr "", .ref l)], rfl, (by show 1 ≤ 15; decide), ?_⟩
  have npd : d ≠ p := ne_of_none hd hp
  have nld : d ≠ l := ne_of_none hd hl0
  -- the rooms at first
  generalize eG : upd (upd (upd H p (.dK [])) l (.lst [])) p (.dK (mergeK [] [(.inr "", .ref l)])) = G
  have sG : Same H G := by
    intro a o e
    rw [← eG, upd_ne (ne_of_none e hp), upd_ne (ne_of_none e hl0), upd_ne (ne_of_none e hp)]; exact e
  have rG : Rooms G p [((Str.ofString ""), l, [])] := by
    refine ⟨by rw [← eG, upd_same]; rfl, fun x hx => ?_⟩
    obtain rfl := List.mem_singleton.mp hx
    rw [← eG, upd_ne npl.symm, upd_same]; rfl
  have hdG := sG _ _ hd
  refine ⟨d, _, hdG, True.intro, fun od => ?_⟩
  refine ⟨_, rfl, d, od, rfl, Or.inl ⟨kv es, upd_same, ?_⟩⟩
  have hs0 : ∀ H', Same (upd H d (.frz od (.dK (kv es)))) H' → Same H (upd H' d (.dK (kv es))) := fun H' s' => same_unlock hd s'
  have hlk : (upd H d (.frz od (.dK (kv es)))) d = some (.frz od (.dK (kv es))) := upd_same
  have fr0 : ∀ a, H a = none → (upd H d (.frz od (.dK (kv es)))) a = none := fun a e => by rw [upd_ne (Ne.symm (ne_of_none hd e))]; exact e
  have sL : Same (upd H d (.frz od (.dK (kv es)))) (upd G d (.frz od (.dK (kv es)))) := by
    intro a o e
    by_cases ha : a = d
    · subst ha; rw [upd_same] at e ⊢; exact e
    · rw [upd_ne ha] at e ⊢; exact sG _ _ e
  have rL : Rooms (upd G d (.frz od (.dK (kv es)))) p [((Str.ofString ""), l, [])] := by
    refine ⟨by rw [upd_ne npd.symm]; exact rG.d, fun x hx => ?_⟩
    have := rG.l x hx
    obtain rfl := List.mem_singleton.mp hx
    rw [upd_ne nld.symm]; exact this
  generalize (upd G d (.frz od (.dK (kv es)))) = G1 at sL rL
  generalize eL : (upd H d (.frz od (.dK (kv es)))) = L at hs0 hlk fr0 sL
  refine for_it walk_keys (fun i σ H' => ∃ (rs : List Room3) (v2 v3 v4 v5 : Option V), σ = [some (.ref d), some (.ref p), v2, v3, v4, v5] ∧ Same L H' ∧ Rooms H' p rs ∧ bare3 rs = roomsE (es.take i) ∧ (rs.map (·.2.1)).Nodup ∧ ∀ x ∈ rs, H x.2.1 = none)
    ⟨_, none, none, none, none, rfl, sL, rL, rfl, by simp, fun x hx => by obtain rfl := List.mem_singleton.mp hx; exact hl0⟩ (fun i σ H' _ ⟨_, _, _, _, _, _, sm, _⟩ => sm _ _ hlk) ?_ ?_
  · rintro i x σ H1 H2 hi ⟨rs, v2, v3, v4, v5, rfl, sm, rm, br, na, fr⟩ ⟨rfl, k, v, hk, rfl⟩
    obtain ⟨pth, rfl, hie, hm⟩ := kv_get hk
    obtain ⟨hp1, hp2⟩ : isPl pth = true ∧ pth.length ≤ 1000000 := ok.pl _ hm
    have hv := val_mem ok.nd hm
    have hkeys : rs.map (·.1) = (roomsE (es.take i)).map (·.1) := by rw [← br]; unfold bare3; rw [List.map_map]; rfl
    have nk : (rs.map (·.1)).Nodup := by rw [hkeys]; exact room_nd ok i
    have hln : rs.length ≤ es.length + 1 := by
      have h1 := congrArg List.length hkeys
      rw [List.length_map, List.length_map] at h1
      have h2 := room_len (es.take i)
      rw [List.length_take] at h2; omega
    -- the parent's list
    have hpar : par pth ∈ rs.map (·.1) := by
      rw [hkeys, room_keys]
      rcases par_ahead ok hie with h0 | h0
      · rw [h0]; exact List.mem_cons_self
      · exact List.mem_cons_of_mem _ (List.mem_map.mpr ⟨_, List.mem_filter.mpr ⟨h0, decide_eq_true rfl⟩, rfl⟩)
    obtain ⟨rm3, hx3, hpe⟩ := List.mem_map.mp hpar
    obtain ⟨s0, hrp⟩ := rpPl hp1
    refine ⟨_, rfl, ⟨_, rfl⟩, pth, c_sl, rfl, rfl, sl_ne, by omega, fun t ht => ?_⟩
    rw [hrp]
    refine ⟨t, _, rfl, SqT.of upd_same, rfl, _, _, rfl, _, _, rfl, _, _, rfl, rfl, ?_⟩
    have smt : Same H2 (upd H2 t (.tup [.str (par pth), .str s0, .str (lastN pth)])) := same_new ht
    have rmt := rm.same smt
    have sm1 := sm.trans smt
    generalize (upd H2 t (.tup [.str (par pth), .str s0, .str (lastN pth)])) = H3 at smt rmt sm1
    have hvr : valV (rkv rs) (.inr (par pth)) = some (.ref rm3.2.1) := by rw [← hpe]; exact val_rkv nk hx3
    have hlst := rmt.l _ hx3
    have nm_len : rm3.2.2.length ≤ 1000 := by
      have h1 : (rm3.1, rm3.2.2) ∈ roomsE (es.take i) := by rw [← br]; exact List.mem_map.mpr ⟨rm3, hx3, rfl⟩
      have : rm3.2.2.length ≤ (es.take i).length := room_size _ _ h1
      rw [List.length_take] at this
      omega
    refine ⟨_, rfl, _, rfl, p, .ref rm3.2.1, rfl, by have := DGet.k (k := Sum.inr (par pth)) rmt.d; rw [hvr] at this; exact this, .inl ⟨rfl, _, SqL.of hlst⟩, _, rfl, rm3.2.1, _, _, rfl, rfl, hlst, by rw [List.length_map]; omega, ?_⟩
    have rma := rmt.add nk na hx3 (lastN pth)
    have sma : Same L (upd H3 rm3.2.1 (.lst (rm3.2.2.map V.str ++ [.str (lastN pth)]))) := same_upd (fr0 _ (fr _ hx3)) sm1
    generalize (upd H3 rm3.2.1 (.lst (rm3.2.2.map V.str ++ [.str (lastN pth)]))) = H4 at rma sma
    have bra : bare3 (addRoom rs (par pth) (lastN pth)) = (roomsE (es.take i)).map fun r => if r.1 = par pth then (r.1, r.2 ++ [lastN pth]) else r := by rw [addRoom_bare, br]
    rw [hpe] at rma
    have naa : ((addRoom rs (par pth) (lastN pth)).map (·.2.1)).Nodup := by rw [addRoom_ad]; exact na
    have fra : ∀ x ∈ addRoom rs (par pth) (lastN pth), H x.2.1 = none := fun x hx => by
      obtain ⟨y, hy, rfl⟩ := List.mem_map.mp hx
      have := fr y hy
      split <;> exact this
    refine ⟨_, rfl, _, rfl, d, v, rfl, .inl ⟨kv es, .inr pth, .inr ⟨od, sma _ _ hlk⟩, rfl, hv.symm⟩, rfl, _, rfl, ?_⟩
    have next := roomsE_next hie
    refine ifD (fun hnon => ?_) (fun hnon => ?_)
    · refine ⟨Nat.zero_le _, fun l2 hl2 => ?_⟩
      have nl2p : p ≠ l2 := ne_of_none rma.d hl2
      have hl2L : L l2 = none := sma.free hl2
      have hl2H : H l2 = none := by
        by_cases e : l2 = d
        · subst e; rw [hlk] at hl2L; cases hl2L
        · rw [← eL, upd_ne e] at hl2L; exact hl2L
      have rml := rma.same (same_new (o := .lst []) hl2)
      have sml := sma.trans (same_new (o := .lst []) hl2)
      have hkno : pth ∉ rs.map (·.1) := by
        rw [hkeys, room_keys, List.mem_cons]
        rintro (h0 | h0)
        · exact (isPl_pt hp1).2 h0
        · obtain ⟨e, he, h1⟩ := List.mem_map.mp h0
          have := put_filt (g := fun e => decide (e.2 = .non)) ok.nd hie
          have hn2 : ((es.take (i + 1)).map (·.1)).Nodup := by rw [List.map_take]; exact ok.nd.sublist (List.take_sublist _ _)
          rw [List.take_add_one, hie, List.map_append, List.nodup_append] at hn2
          exact hn2.2.2 pth (List.mem_map.mpr ⟨e, (List.mem_filter.mp he).1, h1⟩) pth (by simp) rfl
      have hvno : valV (rkv (addRoom rs (par pth) (lastN pth))) (.inr pth) = none := by rw [addRoom_kv]; exact val_rkv_no hkno
      refine ⟨_, rfl, _, rfl, p, _, rfl, DPut.k (k := Sum.inr pth) rml.d ?_, ?_⟩
      · rw [addRoom_kv]; unfold rkv; rw [List.length_map]; omega
      · rw [putK_new _ hvno]
        refine ⟨addRoom rs (par pth) (lastN pth) ++ [(pth, l2, [])], _, _, _, _, rfl, ?_, ⟨?_, ?_⟩, ?_, ?_, ?_⟩
        · refine same_upd (fr0 _ hp) sml
        · rw [upd_same]; unfold rkv; rw [List.map_append]; rfl
        · intro x hx
          rcases List.mem_append.mp hx with hx | hx
          · have nx : x.2.1 ≠ p := ne_of (rml.l x hx) rml.d (by intro z; cases z)
            rw [upd_ne nx]; exact rml.l x hx
          · obtain rfl := List.mem_singleton.mp hx
            rw [upd_ne nl2p.symm, upd_same]; rfl
        · rw [next]
          unfold roomStep
          rw [if_pos (show ((pth, v) : Str × V).2 = .non from hnon)]
          show bare3 (_ ++ _) = _
          unfold bare3
          rw [List.map_append]
          congr 1
        · rw [List.map_append, List.nodup_append]
          refine ⟨naa, by simp, fun a ha b hb => ?_⟩
          obtain ⟨x, hx, rfl⟩ := List.mem_map.mp ha
          obtain rfl : b = l2 := List.mem_singleton.mp hb
          exact ne_of_none (rma.l x hx) hl2
        · intro x hx
          rcases List.mem_append.mp hx with hx | hx
          · exact fra x hx
          · obtain rfl := List.mem_singleton.mp hx; exact hl2H
    · refine ⟨_, _, _, _, _, rfl, sma, rma, ?_, naa, fra⟩
      rw [next, bra]
      unfold roomStep
      rw [if_neg (show ¬ ((pth, v) : Str × V).2 = .non from hnon), List.append_nil]
  · rintro σ H1 ⟨rs, v2, v3, v4, v5, rfl, sm, rm, br, na, fr⟩
    rw [hkl, List.take_length] at br
    refine ⟨sm _ _ hlk, _, rfl, ?_⟩
    refine hq _ p rs (hs0 _ sm) hp ⟨by rw [upd_ne npd.symm]; exact rm.d, fun x hx => ?_⟩ br
    rw [upd_ne (Ne.symm (ne_of_none hd (fr x hx)))]
    exact rm.l x hx
end
end K5

set_option Elab.async false
set_option linter.all false
set_option maxRecDepth 100000
set_option maxHeartbeats 4000000
namespace PySem
namespace BadPathX
open PySem.W PySem.Calls PyProof.Rows PySem.HandSPX
/-! ### the text of __init__ -/
def iA (p1 p2 : Pos) : Arguments := { posonlyargs := [], args := [{ arg := "self", annotation := none, pos := p1 }, { arg := "path", annotation := none, pos := p2 }], vararg := none, kwonlyargs := [], kw_defaults := [], kwarg := none, defaults := [] }
def iB (q1 q2 q3 q4 : Pos) : List Stmt := [.Assign [.Attribute (.Name "self" q1) "path" q2] (.Name "path" q3) q4]
def iS : Scope := { kind := .function, names := [(PySem.Str.ofString "self", .local), (PySem.Str.ofString "path", .local)], isGenerator := false, isCoroutine := false, more := [] }
/-- what the written part says of Low, at C, and of its __init__, at fI -/
structure PathTxt (K : Frag) (mg : Str → Option Value) (C fI : Addr) : Prop where
  gC : mg "BadPath" = some (.ref C)
  cls : ∃ nm q N bs bm sn sub ab col dd k0 k1 k2 k3 k5, K.lookup C = some (excClassObj nm q C N bs bm true sn sub ab col dd k0 k1 k2 k3 k5 "ValueError.__new__") ∧ refsVE bm = true
  sa : findIn K (.ref C) "__setattr__" = some (some (.builtin "object.__setattr__"))
  ga : findIn K (.ref C) "__getattribute__" = some (some (.builtin "BaseException.__getattribute__"))
  gg : findIn K (.ref C) "__getattr__" = some none
  noN : findIn K (.ref C) "path" = some none
  iC : findIn K (.ref C) "__init__" = some (some (.ref fI))
  tC : typeIn K (.ref fI) = some (.type "function")
  kC : keepIn K (.ref C) = true
  exC : subIn K (.ref C) (.type "BaseException") = some true
  tyC : typeIn K (.ref C) = some (.type "type")
  hdC : hasDictIn K C = true
  te : exmOne K (.ref C) (.ref C) = some true
  fn : ∃ (oc : Value) (od : Option Addr) (doc pm : Value) (an : Option Addr) (cdv ct : Value) (osl : Array (Option Value)) (p1 p2 q1 q2 q3 q4 : Pos),
    K.lookup fI = some ⟨oc, od, .func (fnOf "__init__" "BadPath.__init__" (iA p1 p2) (iB q1 q2 q3 q4) iS .none .none doc pm an cdv ct), osl⟩ ∧ codeIn K cdv "BadPath.__init__" = true
theorem one_size (v : Value) : [v].length ≤ sizeLine := by
  rw [sizeLine_eq]
  exact (by decide : 1 ≤ 16777216)
theorem kept_but {K : Frag} {h h' : Heap} {x : Addr} (X : K.In h) (hx : K.lookup x = none) (k : ∀ b o, b ≠ x → h.get? b = some o → h'.get? b = some o) : K.In h' := fun a o e =>
  k a o (fun z => by rw [z, hx] at e; cases e) (X a o e)
theorem ldC {M : Model} {s : Shared} {name : Str} {scope : Scope} {L a : Addr} {cd : Value} {m : Str → Option Value} {x : Str} {pos : Pos} {v : Value} {Q : Value → Shared → Prop} {A : Around} {E : Value → Shared → Prop} (hn : s.heap.Ns L m) (hv : m x = some v) (h : Q v s)
    (hk : scope.kind = .function := by rfl) (hl : (envOfC name scope L a cd).kindOf x = some .local := by rfl) (hd : (x == ("__debug__" : Str)) = false := by decide) :
    wpAny M A (eval (.Name x pos) (envOfC name scope L a cd)) Q E s := wpAny_Name (wpAny_loadName_local hk hl hn hv h) hd
/-- what __init__ leaves of a fresh exception at x -/
structure InitEnd (h h' : Heap) (x C dx t1 : Addr) (v : Value) : Prop where
  keep : ∀ b o, b ≠ x → h.get? b = some o → h'.get? b = some o
  obj : h'.get? x = some { cls := .ref C, dict := some dx, data := .fields #[.ref t1, .none, .none, .none, .bool false, .none] }
  dbig : h.objs.size ≤ dx
  dne : dx ≠ x
  ns : h'.Ns1 dx (fun y => if y = "path" then some v else none)
/-- a made Low -/
structure OwnMade (h h' : Heap) (e C d : Addr) (v : Value) : Prop where
  keep : ∀ b o, h.get? b = some o → h'.get? b = some o
  new : h.objs.size ≤ e
  obj : ∃ oe vs, h'.get? e = some oe ∧ oe.cls = .ref C ∧ oe.dict = some d ∧ oe.data = .fields vs ∧ vs[1]? = some .none
  dbig : h.objs.size ≤ d
  dne : d ≠ e
  ns : h'.Ns1 d (fun y => if y = "path" then some v else none)
section
variable {prog : Program} {w : World} {A : Around} {E : Value → Shared → Prop} {R : Result → Shared → Prop} {s : Shared} {K : Frag} {mg : Str → Option Value} {C fI : Addr}
theorem low_init (T : PathTxt K mg C fI) {x t0 : Addr} {v : Value} (X : K.In s.heap) (hlim : s.heap.NoLimit) (hx : s.heap.get? x = some (excO C t0)) (hnx : K.lookup x = none) (hroom : A.depth < recursionLimit)
    (hq : ∀ h' tk dx, InitEnd s.heap h' x C dx t0 v → R (.ok (.ret .none)) { s with heap := h', toks := tk }) :
    codeAny (model prog w) A (.call (.ref fI) ⟨[.ref x, v], []⟩) R s := by
  obtain ⟨oc, od, doc, pm, an, cdv, ct, osl, p1, p2, q1, q2, q3, q4, ho, hcd⟩ := T.fn
  obtain ⟨nm, q, N, bs, bm, sn, sub, ab, col, dd, k0, k1, k2, k3, k5, hC, hbm⟩ := T.cls
  have hcl : clsIn K C = some { name := nm, bases := bs, mro := .ref C :: bm, ns := N, qualname := q, hasDict := true, slotNames := sn, subclasses := sub, abstract := ab, collection := col, hasDel := false } := by unfold clsIn; rw [hC] <;> rfl
  refine Att.call_fn (binds := [("self", .ref x), ("path", v)]) X hlim ho hcd hroom (BindsTo.of_eq (by first | rfl | with_unfolding_all rfl)) (by first | rfl | decide | with_unfolding_all rfl) (fun s₁ IC => ?_) rfl rfl rfl
  obtain ⟨h₁, tk₁, rfl⟩ := IC.toInCall.same
  have k : ∀ b o, s.heap.get? b = some o → h₁.get? b = some o := IC.toInCall.keep
  have hn := IC.toInCall.ns
  have hxL : s.heap.objs.size ≠ x := Nat.ne_of_gt (Heap.lt_size hx)
  have X₁ : K.In h₁ := X.keeps k
  have hx₁ := k _ _ hx
  -- self.by = by
  show wpAny _ _ (execs _ _) _ _ _
  refine wpAny_execs_cons (plainObj_wpAny_Assign_Attribute ?_)
  refine ldC (v := v) hn (by first | rfl | with_unfolding_all rfl | kernel_rfl) (ldC (v := .ref x) hn (by first | rfl | with_unfolding_all rfl | kernel_rfl) ?_)
  refine set_plain X₁ (ox := excO C t0) (od := none) ⟨hx₁, rfl, rfl, trivial⟩ T.sa ?_
  refine exc_osa X₁ hx₁ hcl (show refsVE (.ref C :: bm) = true from hbm) rfl T.noN (fun h₃ tk₃ dx k₃ dn dne hx₃ hn₃ => ?_)
  show wpAny _ _ (execs _ _) _ _ _
  have z : s.heap.objs.size < h₁.objs.size := hn.lt
  exact wpAny_execs_nil (hq h₃ tk₃ dx ⟨fun b o hb e => k₃ b o hb (k b o e), hx₃, Nat.le_of_lt (Nat.lt_of_lt_of_le z dn), dne, hn₃⟩)
theorem low_made (T : PathTxt K mg C fI) {v : Value} (X : K.In s.heap) (hlim : s.heap.NoLimit) (hroom : A.depth + 1 < recursionLimit)
    (hq : ∀ h' tk e d, OwnMade s.heap h' e C d v → R (.ok (.ret (.ref e))) { s with heap := h', toks := tk }) :
    codeAny (model prog w) A (.call (.ref C) ⟨[v], []⟩) R s := by
  obtain ⟨nm, q, N, bs, bm, sn, sub, ab, col, dd, k0, k1, k2, k3, k5, hC, hbm⟩ := T.cls
  obtain ⟨hp, g, dr, tk, os⟩ := s
  have k : ∀ b o, hp.get? b = some o → ((hp.push (kdv_tup [v])).push (excO C hp.objs.size)).get? b = some o := fun b o e => Heap.get?_push_of_some _ (Heap.get?_push_of_some _ e)
  have hget : ((hp.push (kdv_tup [v])).push (excO C hp.objs.size)).get? (hp.objs.size + 1) = some (excO C hp.objs.size) := by heap_get
  have hnx : K.lookup (hp.objs.size + 1) = none := by
    cases e : K.lookup (hp.objs.size + 1) with
    | none => rfl
    | some o =>
      have z : hp.get? (hp.objs.size + 1) = some o := X _ _ e
      exact absurd (Nat.lt_of_succ_lt (Heap.lt_size z)) (Nat.lt_irrefl _)
  refine call_own F.excBase_ValueError (fun X => refsVE_contains X bm hbm) (X _ _ hC) (looks_findIn X T.iC) (fun self => bind_fn X self T.tC) (one_size v) ?_
  refine low_init (s := ⟨(hp.push (kdv_tup [v])).push (excO C hp.objs.size), g, dr, tk, os⟩) T (X.keeps k) (hlim.keeps k) hget hnx ?_ fun h' tk' dx ⟨k', hx, dn, dne, hns⟩ => ?_
  · show A.depth + 1 < recursionLimit
    exact hroom
  · have old : ∀ b o, hp.get? b = some o → h'.get? b = some o := fun b o e => k' b o (Nat.ne_of_lt (Nat.lt_succ_of_lt (Heap.lt_size e))) (k b o e)
    have z : hp.objs.size + 1 + 1 ≤ dx := by
      first
        | (simpa only [Heap.size_push] using dn)
        | exact dn
        | (have q := dn; rw [Heap.size_push, Heap.size_push] at q; exact q)
    exact ⟨rfl, hq h' tk' (hp.objs.size + 1) dx ⟨old, Nat.le_succ _, ⟨_, _, hx, rfl, rfl, rfl, rfl⟩, Nat.le_trans (Nat.le_trans (Nat.le_succ _) (Nat.le_succ _)) z, dne, hns⟩⟩
end
end BadPathX
end PySem
namespace L2
open PySem PySem.Spec PyProof.Rows
theorem relO_path {v : V} {v' : Value} (r : RelV v v') (f : Str) : RelO (List.lookup f [(("path" : Str), v)]) (if f = "path" then some v' else none) := by
  by_cases hw : f = "path"
  · subst hw
    rw [if_pos rfl]
    have q : List.lookup ("path" : Str) [(("path" : Str), v)] = some v := by simp [List.lookup]
    rw [q]
    exact r
  · rw [if_neg hw]
    have qw : (f == ("path" : Str)) = false := by simpa using hw
    have q2 : List.lookup f [(("path" : Str), v)] = none := by simp [List.lookup, qw]
    rw [q2]
    trivial
section
variable {X : Cx} {C fI : Addr}
/-- Low(e) -/
def tMkPath (C : Addr) (ta : TA) : St → Hp → XK → Prop := fun σ H Q => ta σ H fun vs H1 => ∃ v, vs = [v] ∧ ∀ d, H1 d = none → Q (.ref C) (some d) (upd H1 d (.xd [(("path" : Str), v)]))
theorem pmk_path {a : Expr} {ta : TA} {p pos : Pos} {k : Nat} (T : PySem.BadPathX.PathTxt X.K X.mg C fI) (hr : Room k X.A) (ha : PA X [a] ta) (hg : Gl X "BadPath" := by rfl)
    (he : starEach (a :: []) X.env = (false, eval a X.env) :: starEach [] X.env := by rfl) (hpl : (backTo pos (starEach [] X.env)).any (·.1) = false := by rfl) :
    PMk X (.Call (.Name "BadPath" p) [a] [] pos) (tMkPath C ta) := by
  intro pins s σ H Q I h
  refine wpAny_Call_Name_kw (ld_glob I hg T.gC ?_)
  refine PySem.W.callWith_K (h₀ := X.base) I.ok.mod.kin T.kC (thn (ha.run pos pins s σ H _ I h) fun us s1 hh => ?_) he hpl
  obtain ⟨vs, H1, I1, r1, v, ev, q1⟩ := hh
  subst ev
  refine ⟨I1.kIn, ?_⟩
  cases r1 with
  | cons rv rn =>
    rename_i v' us'
    cases rn
    show wpAny _ _ (call (.ref C) [v']) _ _ _
    have hlim := I1.nolimit
    obtain ⟨hp, g, dr, tk, os⟩ := s1
    refine wpAny_call (PySem.BadPathX.low_made T I1.kIn hlim (by have := hr.dp; omega) fun h' tk' e d M => ?_)
    show MkP X pins σ Q (.ref e) ⟨h', g, dr, tk', os⟩
    obtain ⟨oe, fv, hoe, hc, hd, hdat, h1⟩ := M.obj
    have hns := M.ns
    obtain ⟨G', g1, g2⟩ := restrict h' fun b => decide (b ≠ e)
    have gk : ∀ b, b ≠ e → G'.get? b = h'.get? b := fun b hb => g1 b (decide_eq_true hb)
    have ge : G'.get? e = none := g2 e (by simp)
    have old : ∀ b o, hp.get? b = some o → G'.get? b = some o := fun b o q => (gk b (Nat.ne_of_lt (Nat.lt_of_lt_of_le (Heap.lt_size q) M.new))).trans (M.keep b o q)
    have ob : ObjOk X.prog X.w (upd H1 d (.xd [(("path" : Str), v)])) G' d (.xd [(("path" : Str), v)]) :=
      ⟨_, hns.at (fun o q => (gk d M.dne).trans q), fun f => relO_path rv f⟩
    have J : Inv X pins σ (upd H1 d (.xd [(("path" : Str), v)])) ⟨G', g, dr, tk', os⟩ := I1.laid (t' := tk') old M.dbig ob
    refine ⟨e, oe, fv, ⟨G', g, dr, tk', os⟩, _, .ref C, some d, rfl, J, fun b o q => ?_, ge, hoe, ⟨hc, hd⟩, hdat, h1, ?_, rfl, I1.bare, raises_own T.exC T.tyC, q1 d (I1.hok.fresh M.dbig)⟩
    · by_cases hb : b = e
      · have q' : G'.get? b = some o := q
        rw [hb, ge] at q'; cases q'
      · exact (gk b hb).symm.trans q
    · rw [upd_ne (Ne.symm M.dne)]
      exact I1.hok.fresh M.new
/-- raise Low(e) -/
def tRaisePath (C : Addr) (W : WX) (ta : TA) : TS := fun _ σ H => tMkPath C ta σ H fun cls d H' => W cls d σ H'
theorem ps_raisePath {a : Expr} {ta : TA} {W : WX} {p pos pos2 : Pos} {k : Nat} (hc : X.calm = true) (T : PySem.BadPathX.PathTxt X.K X.mg C fI) (hr : Room k X.A) (tk : Takes X W) (ha : PA X [a] ta) (hg : Gl X "BadPath" := by rfl)
    (he : starEach (a :: []) X.env = (false, eval a X.env) :: starEach [] X.env := by rfl) (hpl : (backTo pos (starEach [] X.env)).any (·.1) = false := by rfl) :
    PS X (.Raise (some (.Call (.Name "BadPath" p) [a] [] pos)) none pos2) (tRaisePath C W ta) := ps_raise hc tk (pmk_path T hr ha hg he hpl)
/-- low.by, low the exception that the suite holds (at a; its class cls, its dict d) -/
def tPathOf (C : Addr) (a : Addr) (cls : Value) (d : Option Addr) (te : TE) : TE := fun σ H Q => te σ H fun x H1 => x = .ref a ∧ cls = .ref C ∧ ∃ (dd : Addr) (v : V), d = some dd ∧ H1 dd = some (.xd [(("path" : Str), v)]) ∧ Q v H1
theorem pe_pathOf {a : Addr} {oe : Obj} {cls : Value} {d : Option Addr} {pn : List (Addr × Obj)} {e : Expr} {te : TE} {pos : Pos} (T : PySem.BadPathX.PathTxt X.K X.mg C fI) (hz : Zc cls d oe) (hf : ∃ vs, oe.data = .fields vs) (he : PE (X.suite a ((a, oe) :: pn)) e te)
    (hb : attributeBase e "path" X.env (eval e X.env) = eval e X.env := by rfl) :
    PE (X.suite a ((a, oe) :: pn)) (.Attribute e "path" pos) (tPathOf C a cls d te) := by
  refine ⟨fun pins s σ H Q I h => ?_⟩
  refine attr_of hb (thn (he.run pins s σ H _ I h) fun u s1 hh => ?_)
  obtain ⟨x, H1, I1, rx, ex, ec, dd, v, ed, ea, q⟩ := hh
  subst ex
  obtain rfl : u = Value.ref a := rx
  subst ec
  subst ed
  obtain ⟨ha, _⟩ := I1.pin (a, oe) (List.mem_append_left _ List.mem_cons_self)
  obtain ⟨vs, hd⟩ := hf
  have hx : ObjOk X.prog X.w H1 s1.heap dd (.xd [(("path" : Str), v)]) := I1.hok dd _ ea
  obtain ⟨mA, hns, hr⟩ := hx
  obtain ⟨od, ho, hl⟩ := lookIn_ns hns
  have l : List.lookup ("path" : Str) [(("path" : Str), v)] = some v := by simp [List.lookup]
  obtain ⟨u, hu, ru⟩ := RelO.some_of (v := v) (o := mA "path") (by rw [← l]; exact hr "path")
  have J : PySem.W.InstAt s1.heap a oe C (some od) := ⟨ha, hz.1, by unfold PySem.W.notCls; rw [hd] <;> rfl, by rw [hz.2]; exact ho⟩
  exact HandSPX.exc_get I1.kIn J T.ga T.gg T.exC (PySem.W.findObj_own T.hdC T.noN rfl (by rw [hl, hu])) (handed_of ru) ⟨v, H1, I1.tok _, ru, q⟩
end
end L2

namespace L2
open PySem PySem.Spec PyProof.Rows
/-- an if whose test is known -/
theorem if_true_of {c : Bool} {A B : Prop} (hc : c = true) (h : A) : if c = true then A else B := by
  rw [if_pos hc]
  exact h
theorem if_false_of {c : Bool} {A B : Prop} (hc : c = false) (h : B) : if c = true then A else B := by
  rw [hc, if_neg Bool.false_ne_true]
  exact h
end L2

set_option Elab.async false
set_option linter.all false
set_option maxRecDepth 100000
set_option maxHeartbeats 4000000
namespace LF
open PySem PySem.Spec PySem.Calls PyProof.Rows PySem.HandSPX
open PySem.Builtin PySem.Builtin.ObjectAttr
open PySem.W (Looks InstAt)
section
variable {prog : Program} {w : World} {A : Around} {R : Result → Shared → Prop} {hh : Heap} {gg : Array GenState} {dw : Drawn} {tt : Nat} {oo : OsState} {K : PySem.W.Frag}
/-- the first field of an own error that stands right above a builtin one -/
theorem put_field {B : String} {tail : List Value} {fld : Str} {tk : Tok} {u : Value} {e C : Addr} {fv : Array Value} {cls : ClassData} (SB : StoreFacts B tail "object.__setattr__" "object") (hob : tail.contains (.type "object") = true)
    (inK : K.In hh) (he : hh.get? e = some { cls := .ref C, data := .fields fv }) (hcls : PySem.W.clsIn K C = some cls) (hmro : cls.mro = .ref C :: tail) (hdct : cls.hasDict = true) (hno : PySem.W.findIn K (.ref C) fld = some none)
    (k : ∀ h' tk' dx, (∀ b o, b ≠ e → hh.get? b = some o → h'.get? b = some o) → hh.objs.size ≤ dx → dx ≠ e → h'.get? e = some { cls := .ref C, dict := some dx, data := .fields fv } →
      h'.Ns1 dx (fun y => if y = fld then some u else none) → R (.ok (.ret .none)) ⟨h', gg, dw, tk', oo⟩) :
    codeAny (model prog w) A (.call (.builtin "object.__setattr__") ⟨[.ref e, .str fld tk, u], []⟩) R ⟨hh, gg, dw, tt, oo⟩ := by
  have J : InstAt hh e { cls := .ref C, data := .fields fv } C none := ⟨he, rfl, rfl, trivial⟩
  have SO := PySem.F.store_object
  have nemp : cls.mro.isEmpty = false := by rw [hmro]; rfl
  have hobj : cls.mro.contains (.type "object") = true := by rw [hmro, List.contains_cons, hob, Bool.or_true]
  have apart : e ≠ hh.objs.size := Nat.ne_of_lt (Heap.lt_size he)
  have inst : Looks (model prog w) hh (isInstance (.ref e) (.type "object")) true :=
    J.type.andThen (PySem.W.looks_mroIn inK (by unfold PySem.W.mroIn; rw [hcls, Option.bind_some, if_neg (by rw [nemp]; decide), hobj]))
  have lmro : Looks (model prog w) hh (mroOf (.ref C)) cls.mro := (PySem.W.looks_clsIn inK hcls).andThen .now
  have ltak : Looks (model prog w) hh (storeTaker? none) none := .now
  have lcls : Looks (model prog w) hh (classData C) cls := PySem.W.looks_clsIn inK hcls
  refine codeAny_call_builtin SO.slot.plain SO.entry (@PySem.W.check_slot (model prog w) _ _ ⟨hh, gg, dw, tt, oo⟩ "object.__setattr__" "object" "__setattr__" (.ref e) [.str fld tk, u] [] _ SO.kind SO.split inst (SO.args (.ref e) (.str fld tk) u) ?_)
  rw [PySem.W.osa_eq, refuse_eq]
  refine wpAny_bind (wpAny_bind (J.type.at (wpAny_bind (lmro.at ?_))))
  rw [hmro, refuseLoop_ref, SB.passes (.ref e)]
  refine wpAny_pure (wpAny_bind (J.type.at (wpAny_bind ((PySem.W.looks_findIn inK hno).at (wpAny_bind (ltak.at ?_))))))
  show wpAny _ _ (storeInOwnDict (.ref e) (.ref C) (.str fld tk) fld u false) _ _ _
  obtain ⟨c1, c2, c3, c4, c5, c6, c7, c8, c9, c10, c11⟩ := cls
  dsimp only at hdct
  subst hdct
  unfold storeInOwnDict ownDictForStores
  repeat (first
    | with_reducible refine store_in_new ?_ ?_
    | with_reducible refine wpAny_loadPart_at he ?_
    | with_reducible refine lcls.at ?_
    | wp_step)
  · exact ⟨_, #[], _, (Heap.get?_update_ne _ _ _ _ apart.symm).trans (Heap.get?_push_at rfl rfl), rfl, fun z hz => absurd hz (by simp), fun _ => rfl⟩
  · intro h' tk' ns' but
    have he1 : (hh.push { cls := .type "dict", data := .dict #[] }).get? e = some { cls := .ref C, data := .fields fv } := Heap.get?_push_of_some _ he
    refine k h' tk' hh.objs.size (fun b o hb ho => ?_) (Nat.le_refl _) apart.symm ?_ ns'
    · exact (but.2 b (Nat.ne_of_lt (Heap.lt_size ho))).trans ((Heap.get?_update_ne _ _ _ _ hb).trans (Heap.get?_push_of_some _ ho))
    · exact (but.2 e apart).trans (Heap.get?_update_self _ he1 rfl)
end
end LF

set_option Elab.async false
set_option linter.all false
set_option maxRecDepth 100000
set_option maxHeartbeats 4000000
namespace PySem
namespace TooManyX
open PySem.W PySem.Calls PyProof.Rows PySem.HandSPX
abbrev ovTail : List Value := [.type "OverflowError", .type "ArithmeticError", .type "Exception", .type "BaseException", .type "object"]
/-! ### the text of __init__ -/
def iA (p1 p2 : Pos) : Arguments := { posonlyargs := [], args := [{ arg := "self", annotation := none, pos := p1 }, { arg := "limit", annotation := none, pos := p2 }], vararg := none, kwonlyargs := [], kw_defaults := [], kwarg := none, defaults := [] }
def iB (q1 q2 q3 q4 : Pos) : List Stmt := [.Assign [.Attribute (.Name "self" q1) "limit" q2] (.Name "limit" q3) q4]
def iS : Scope := { kind := .function, names := [(PySem.Str.ofString "self", .local), (PySem.Str.ofString "limit", .local)], isGenerator := false, isCoroutine := false, more := [] }
/-- what the written part says of Low, at C, and of its __init__, at fI -/
structure ManyTxt (K : Frag) (mg : Str → Option Value) (C fI : Addr) : Prop where
  gC : mg "TooMany" = some (.ref C)
  cls : ∃ nm q N bs bm sn sub ab col dd k0 k1 k2 k3 k5, K.lookup C = some (excClassObj nm q C N bs bm true sn sub ab col dd k0 k1 k2 k3 k5 "OverflowError.__new__") ∧ bm = ovTail
  sa : findIn K (.ref C) "__setattr__" = some (some (.builtin "object.__setattr__"))
  ga : findIn K (.ref C) "__getattribute__" = some (some (.builtin "BaseException.__getattribute__"))
  gg : findIn K (.ref C) "__getattr__" = some none
  noN : findIn K (.ref C) "limit" = some none
  iC : findIn K (.ref C) "__init__" = some (some (.ref fI))
  tC : typeIn K (.ref fI) = some (.type "function")
  kC : keepIn K (.ref C) = true
  exC : subIn K (.ref C) (.type "BaseException") = some true
  tyC : typeIn K (.ref C) = some (.type "type")
  hdC : hasDictIn K C = true
  te : exmOne K (.ref C) (.ref C) = some true
  fn : ∃ (oc : Value) (od : Option Addr) (doc pm : Value) (an : Option Addr) (cdv ct : Value) (osl : Array (Option Value)) (p1 p2 q1 q2 q3 q4 : Pos),
    K.lookup fI = some ⟨oc, od, .func (fnOf "__init__" "TooMany.__init__" (iA p1 p2) (iB q1 q2 q3 q4) iS .none .none doc pm an cdv ct), osl⟩ ∧ codeIn K cdv "TooMany.__init__" = true
theorem one_size (v : Value) : [v].length ≤ sizeLine := by
  rw [sizeLine_eq]
  exact (by decide : 1 ≤ 16777216)
theorem kept_but {K : Frag} {h h' : Heap} {x : Addr} (X : K.In h) (hx : K.lookup x = none) (k : ∀ b o, b ≠ x → h.get? b = some o → h'.get? b = some o) : K.In h' := fun a o e =>
  k a o (fun z => by rw [z, hx] at e; cases e) (X a o e)
theorem ldC {M : Model} {s : Shared} {name : Str} {scope : Scope} {L a : Addr} {cd : Value} {m : Str → Option Value} {x : Str} {pos : Pos} {v : Value} {Q : Value → Shared → Prop} {A : Around} {E : Value → Shared → Prop} (hn : s.heap.Ns L m) (hv : m x = some v) (h : Q v s)
    (hk : scope.kind = .function := by rfl) (hl : (envOfC name scope L a cd).kindOf x = some .local := by rfl) (hd : (x == ("__debug__" : Str)) = false := by decide) :
    wpAny M A (eval (.Name x pos) (envOfC name scope L a cd)) Q E s := wpAny_Name (wpAny_loadName_local hk hl hn hv h) hd
/-- what __init__ leaves of a fresh exception at x -/
structure InitEnd (h h' : Heap) (x C dx t1 : Addr) (v : Value) : Prop where
  keep : ∀ b o, b ≠ x → h.get? b = some o → h'.get? b = some o
  obj : h'.get? x = some { cls := .ref C, dict := some dx, data := .fields #[.ref t1, .none, .none, .none, .bool false, .none] }
  dbig : h.objs.size ≤ dx
  dne : dx ≠ x
  ns : h'.Ns1 dx (fun y => if y = "limit" then some v else none)
/-- a made Low -/
structure OwnMade (h h' : Heap) (e C d : Addr) (v : Value) : Prop where
  keep : ∀ b o, h.get? b = some o → h'.get? b = some o
  new : h.objs.size ≤ e
  obj : ∃ oe vs, h'.get? e = some oe ∧ oe.cls = .ref C ∧ oe.dict = some d ∧ oe.data = .fields vs ∧ vs[1]? = some .none
  dbig : h.objs.size ≤ d
  dne : d ≠ e
  ns : h'.Ns1 d (fun y => if y = "limit" then some v else none)
section
variable {prog : Program} {w : World} {A : Around} {E : Value → Shared → Prop} {R : Result → Shared → Prop} {s : Shared} {K : Frag} {mg : Str → Option Value} {C fI : Addr}
theorem low_init (T : ManyTxt K mg C fI) {x t0 : Addr} {v : Value} (X : K.In s.heap) (hlim : s.heap.NoLimit) (hx : s.heap.get? x = some (excO C t0)) (hnx : K.lookup x = none) (hroom : A.depth < recursionLimit)
    (hq : ∀ h' tk dx, InitEnd s.heap h' x C dx t0 v → R (.ok (.ret .none)) { s with heap := h', toks := tk }) :
    codeAny (model prog w) A (.call (.ref fI) ⟨[.ref x, v], []⟩) R s := by
  obtain ⟨oc, od, doc, pm, an, cdv, ct, osl, p1, p2, q1, q2, q3, q4, ho, hcd⟩ := T.fn
  obtain ⟨nm, q, N, bs, bm, sn, sub, ab, col, dd, k0, k1, k2, k3, k5, hC, hbm⟩ := T.cls
  have hcl : clsIn K C = some { name := nm, bases := bs, mro := .ref C :: bm, ns := N, qualname := q, hasDict := true, slotNames := sn, subclasses := sub, abstract := ab, collection := col, hasDel := false } := by unfold clsIn; rw [hC] <;> rfl
  refine Att.call_fn (binds := [("self", .ref x), ("limit", v)]) X hlim ho hcd hroom (BindsTo.of_eq (by first | rfl | with_unfolding_all rfl)) (by first | rfl | decide | with_unfolding_all rfl) (fun s₁ IC => ?_) rfl rfl rfl
  obtain ⟨h₁, tk₁, rfl⟩ := IC.toInCall.same
  have k : ∀ b o, s.heap.get? b = some o → h₁.get? b = some o := IC.toInCall.keep
  have hn := IC.toInCall.ns
  have hxL : s.heap.objs.size ≠ x := Nat.ne_of_gt (Heap.lt_size hx)
  have X₁ : K.In h₁ := X.keeps k
  have hx₁ := k _ _ hx
  -- self.by = by
  show wpAny _ _ (execs _ _) _ _ _
  refine wpAny_execs_cons (plainObj_wpAny_Assign_Attribute ?_)
  refine ldC (v := v) hn (by first | rfl | with_unfolding_all rfl | kernel_rfl) (ldC (v := .ref x) hn (by first | rfl | with_unfolding_all rfl | kernel_rfl) ?_)
  refine set_plain X₁ (ox := excO C t0) (od := none) ⟨hx₁, rfl, rfl, trivial⟩ T.sa ?_
  subst hbm
  refine LF.put_field PySem.F.store_OverflowError (by decide +kernel) X₁ hx₁ hcl rfl rfl T.noN (fun h₃ tk₃ dx k₃ dn dne hx₃ hn₃ => ?_)
  show wpAny _ _ (execs _ _) _ _ _
  have z : s.heap.objs.size < h₁.objs.size := hn.lt
  exact wpAny_execs_nil (hq h₃ tk₃ dx ⟨fun b o hb e => k₃ b o hb (k b o e), hx₃, Nat.le_of_lt (Nat.lt_of_lt_of_le z dn), dne, hn₃⟩)
theorem low_made (T : ManyTxt K mg C fI) {v : Value} (X : K.In s.heap) (hlim : s.heap.NoLimit) (hroom : A.depth + 1 < recursionLimit)
    (hq : ∀ h' tk e d, OwnMade s.heap h' e C d v → R (.ok (.ret (.ref e))) { s with heap := h', toks := tk }) :
    codeAny (model prog w) A (.call (.ref C) ⟨[v], []⟩) R s := by
  obtain ⟨nm, q, N, bs, bm, sn, sub, ab, col, dd, k0, k1, k2, k3, k5, hC, hbm⟩ := T.cls
  obtain ⟨hp, g, dr, tk, os⟩ := s
  have k : ∀ b o, hp.get? b = some o → ((hp.push (kdv_tup [v])).push (excO C hp.objs.size)).get? b = some o := fun b o e => Heap.get?_push_of_some _ (Heap.get?_push_of_some _ e)
  have hget : ((hp.push (kdv_tup [v])).push (excO C hp.objs.size)).get? (hp.objs.size + 1) = some (excO C hp.objs.size) := by heap_get
  have hnx : K.lookup (hp.objs.size + 1) = none := by
    cases e : K.lookup (hp.objs.size + 1) with
    | none => rfl
    | some o =>
      have z : hp.get? (hp.objs.size + 1) = some o := X _ _ e
      exact absurd (Nat.lt_of_succ_lt (Heap.lt_size z)) (Nat.lt_irrefl _)
  subst hbm
  refine call_own F.excBase_OverflowError (fun X => rfl) (X _ _ hC) (looks_findIn X T.iC) (fun self => bind_fn X self T.tC) (one_size v) ?_
  refine low_init (s := ⟨(hp.push (kdv_tup [v])).push (excO C hp.objs.size), g, dr, tk, os⟩) T (X.keeps k) (hlim.keeps k) hget hnx ?_ fun h' tk' dx ⟨k', hx, dn, dne, hns⟩ => ?_
  · show A.depth + 1 < recursionLimit
    exact hroom
  · have old : ∀ b o, hp.get? b = some o → h'.get? b = some o := fun b o e => k' b o (Nat.ne_of_lt (Nat.lt_succ_of_lt (Heap.lt_size e))) (k b o e)
    have z : hp.objs.size + 1 + 1 ≤ dx := by
      first
        | (simpa only [Heap.size_push] using dn)
        | exact dn
        | (have q := dn; rw [Heap.size_push, Heap.size_push] at q; exact q)
    exact ⟨rfl, hq h' tk' (hp.objs.size + 1) dx ⟨old, Nat.le_succ _, ⟨_, _, hx, rfl, rfl, rfl, rfl⟩, Nat.le_trans (Nat.le_trans (Nat.le_succ _) (Nat.le_succ _)) z, dne, hns⟩⟩
end
end TooManyX
end PySem
namespace L2
open PySem PySem.Spec PyProof.Rows
theorem relO_limit {v : V} {v' : Value} (r : RelV v v') (f : Str) : RelO (List.lookup f [(("limit" : Str), v)]) (if f = "limit" then some v' else none) := by
  by_cases hw : f = "limit"
  · subst hw
    rw [if_pos rfl]
    have q : List.lookup ("limit" : Str) [(("limit" : Str), v)] = some v := by simp [List.lookup]
    rw [q]
    exact r
  · rw [if_neg hw]
    have qw : (f == ("limit" : Str)) = false := by simpa using hw
    have q2 : List.lookup f [(("limit" : Str), v)] = none := by simp [List.lookup, qw]
    rw [q2]
    trivial
section
variable {X : Cx} {C fI : Addr}
/-- Low(e) -/
def tMkMany (C : Addr) (ta : TA) : St → Hp → XK → Prop := fun σ H Q => ta σ H fun vs H1 => ∃ v, vs = [v] ∧ ∀ d, H1 d = none → Q (.ref C) (some d) (upd H1 d (.xd [(("limit" : Str), v)]))
theorem pmk_many {a : Expr} {ta : TA} {p pos : Pos} {k : Nat} (T : PySem.TooManyX.ManyTxt X.K X.mg C fI) (hr : Room k X.A) (ha : PA X [a] ta) (hg : Gl X "TooMany" := by rfl)
    (he : starEach (a :: []) X.env = (false, eval a X.env) :: starEach [] X.env := by rfl) (hpl : (backTo pos (starEach [] X.env)).any (·.1) = false := by rfl) :
    PMk X (.Call (.Name "TooMany" p) [a] [] pos) (tMkMany C ta) := by
  intro pins s σ H Q I h
  refine wpAny_Call_Name_kw (ld_glob I hg T.gC ?_)
  refine PySem.W.callWith_K (h₀ := X.base) I.ok.mod.kin T.kC (thn (ha.run pos pins s σ H _ I h) fun us s1 hh => ?_) he hpl
  obtain ⟨vs, H1, I1, r1, v, ev, q1⟩ := hh
  subst ev
  refine ⟨I1.kIn, ?_⟩
  cases r1 with
  | cons rv rn =>
    rename_i v' us'
    cases rn
    show wpAny _ _ (call (.ref C) [v']) _ _ _
    have hlim := I1.nolimit
    obtain ⟨hp, g, dr, tk, os⟩ := s1
    refine wpAny_call (PySem.TooManyX.low_made T I1.kIn hlim (by have := hr.dp; omega) fun h' tk' e d M => ?_)
    show MkP X pins σ Q (.ref e) ⟨h', g, dr, tk', os⟩
    obtain ⟨oe, fv, hoe, hc, hd, hdat, h1⟩ := M.obj
    have hns := M.ns
    obtain ⟨G', g1, g2⟩ := restrict h' fun b => decide (b ≠ e)
    have gk : ∀ b, b ≠ e → G'.get? b = h'.get? b := fun b hb => g1 b (decide_eq_true hb)
    have ge : G'.get? e = none := g2 e (by simp)
    have old : ∀ b o, hp.get? b = some o → G'.get? b = some o := fun b o q => (gk b (Nat.ne_of_lt (Nat.lt_of_lt_of_le (Heap.lt_size q) M.new))).trans (M.keep b o q)
    have ob : ObjOk X.prog X.w (upd H1 d (.xd [(("limit" : Str), v)])) G' d (.xd [(("limit" : Str), v)]) :=
      ⟨_, hns.at (fun o q => (gk d M.dne).trans q), fun f => relO_limit rv f⟩
    have J : Inv X pins σ (upd H1 d (.xd [(("limit" : Str), v)])) ⟨G', g, dr, tk', os⟩ := I1.laid (t' := tk') old M.dbig ob
    refine ⟨e, oe, fv, ⟨G', g, dr, tk', os⟩, _, .ref C, some d, rfl, J, fun b o q => ?_, ge, hoe, ⟨hc, hd⟩, hdat, h1, ?_, rfl, I1.bare, raises_own T.exC T.tyC, q1 d (I1.hok.fresh M.dbig)⟩
    · by_cases hb : b = e
      · have q' : G'.get? b = some o := q
        rw [hb, ge] at q'; cases q'
      · exact (gk b hb).symm.trans q
    · rw [upd_ne (Ne.symm M.dne)]
      exact I1.hok.fresh M.new
/-- raise Low(e) -/
def tRaiseMany (C : Addr) (W : WX) (ta : TA) : TS := fun _ σ H => tMkMany C ta σ H fun cls d H' => W cls d σ H'
theorem ps_raiseMany {a : Expr} {ta : TA} {W : WX} {p pos pos2 : Pos} {k : Nat} (hc : X.calm = true) (T : PySem.TooManyX.ManyTxt X.K X.mg C fI) (hr : Room k X.A) (tk : Takes X W) (ha : PA X [a] ta) (hg : Gl X "TooMany" := by rfl)
    (he : starEach (a :: []) X.env = (false, eval a X.env) :: starEach [] X.env := by rfl) (hpl : (backTo pos (starEach [] X.env)).any (·.1) = false := by rfl) :
    PS X (.Raise (some (.Call (.Name "TooMany" p) [a] [] pos)) none pos2) (tRaiseMany C W ta) := ps_raise hc tk (pmk_many T hr ha hg he hpl)
/-- low.by, low the exception that the suite holds (at a; its class cls, its dict d) -/
def tLimitOf (C : Addr) (a : Addr) (cls : Value) (d : Option Addr) (te : TE) : TE := fun σ H Q => te σ H fun x H1 => x = .ref a ∧ cls = .ref C ∧ ∃ (dd : Addr) (v : V), d = some dd ∧ H1 dd = some (.xd [(("limit" : Str), v)]) ∧ Q v H1
theorem pe_limitOf {a : Addr} {oe : Obj} {cls : Value} {d : Option Addr} {pn : List (Addr × Obj)} {e : Expr} {te : TE} {pos : Pos} (T : PySem.TooManyX.ManyTxt X.K X.mg C fI) (hz : Zc cls d oe) (hf : ∃ vs, oe.data = .fields vs) (he : PE (X.suite a ((a, oe) :: pn)) e te)
    (hb : attributeBase e "limit" X.env (eval e X.env) = eval e X.env := by rfl) :
    PE (X.suite a ((a, oe) :: pn)) (.Attribute e "limit" pos) (tLimitOf C a cls d te) := by
  refine ⟨fun pins s σ H Q I h => ?_⟩
  refine attr_of hb (thn (he.run pins s σ H _ I h) fun u s1 hh => ?_)
  obtain ⟨x, H1, I1, rx, ex, ec, dd, v, ed, ea, q⟩ := hh
  subst ex
  obtain rfl : u = Value.ref a := rx
  subst ec
  subst ed
  obtain ⟨ha, _⟩ := I1.pin (a, oe) (List.mem_append_left _ List.mem_cons_self)
  obtain ⟨vs, hd⟩ := hf
  have hx : ObjOk X.prog X.w H1 s1.heap dd (.xd [(("limit" : Str), v)]) := I1.hok dd _ ea
  obtain ⟨mA, hns, hr⟩ := hx
  obtain ⟨od, ho, hl⟩ := lookIn_ns hns
  have l : List.lookup ("limit" : Str) [(("limit" : Str), v)] = some v := by simp [List.lookup]
  obtain ⟨u, hu, ru⟩ := RelO.some_of (v := v) (o := mA "limit") (by rw [← l]; exact hr "limit")
  have J : PySem.W.InstAt s1.heap a oe C (some od) := ⟨ha, hz.1, by unfold PySem.W.notCls; rw [hd] <;> rfl, by rw [hz.2]; exact ho⟩
  exact HandSPX.exc_get I1.kIn J T.ga T.gg T.exC (PySem.W.findObj_own T.hdC T.noN rfl (by rw [hl, hu])) (handed_of ru) ⟨v, H1, I1.tok _, ru, q⟩
end
end L2


set_option Elab.async false
set_option linter.all false
set_option maxRecDepth 100000
set_option maxHeartbeats 4000000
namespace LF
open PySem PySem.Spec PyProof.Rows L2
/-- what a class without an __init__ must have to be made -/
structure Mk0 (K : PySem.W.Frag) (C : Addr) : Prop where
  makes : PySem.W.makesIn K C = true
  init : PySem.W.findIn K (.ref C) "__init__" = some (some (.builtin "object.__init__"))
  kp : PySem.W.keepIn K (.ref C) = true
def tMake0 (C : Addr) : TE := fun _ H Q => ∀ x dx, H x = none → H dx = none → dx ≠ x → Q (.ref x) (upd (upd H dx (.own x)) x (.ins C dx []))
/-- C() of a class without an __init__ -/
theorem pe_new0 {X : Cx} {C : Addr} {x : Str} {p pos : Pos} (M : Mk0 X.K C) (hg : Gl X x) (hm : X.mg x = some (.ref C))
    (hdb : (x == ("__debug__" : Str)) = false := by decide) : PE X (.Call (.Name x p) [] [] pos) (tMake0 C) := by
  refine ⟨fun pins s σ H Q I h => ?_⟩
  refine wpAny_Call_Name_kw (ld_glob I hg hm ?_ hdb)
  refine PySem.W.callWith_K0 I.kIn M.kp ?_
  have hq := h (s.heap.objs.size + 1) s.heap.objs.size (I.hok.fresh (Nat.le_succ _)) (I.hok.fresh (Nat.le_refl _)) (Nat.ne_of_lt (Nat.lt_succ_self _))
  have I2 := Inv.made (C := C) I
  have Y := PySem.W.makes_of (M := model X.prog X.w) I.kIn M.makes
  refine wpAny_call (make_map0 I.kIn M.makes M.init (fun self => PySem.W.Looks.of_pure (PySem.W.oi_bind self)) ?_)
  have e2 : ((s.heap.push PySem.W.emptyDict).push (PySem.W.instObj C s.heap.objs.size)).get? (s.heap.objs.size + 1) = some (PySem.W.instObj C s.heap.objs.size) := by
    have := Heap.get?_push_size (s.heap.push PySem.W.emptyDict) (o := PySem.W.instObj C s.heap.objs.size) rfl
    rwa [Heap.size_push] at this
  have t1 : PySem.W.Looks (model X.prog X.w) ((s.heap.push PySem.W.emptyDict).push (PySem.W.instObj C s.heap.objs.size)) (typeOf (.ref (s.heap.objs.size + 1))) (.ref C) := (PySem.W.Looks.ld e2).andThen .now
  have t2 : PySem.W.Looks (model X.prog X.w) ((s.heap.push PySem.W.emptyDict).push (PySem.W.instObj C s.heap.objs.size)) (isInstance (.ref (s.heap.objs.size + 1)) (.type "object")) true :=
    t1.andThen (Y.top.keeps fun b o e => Heap.get?_push_of_some _ (Heap.get?_push_of_some _ e))
  refine codeAny_call_builtin PySem.W.oi_plain PySem.W.entry_oi (@PySem.W.check_slot (model X.prog X.w) _ _ _ "object.__init__" "object" "__init__" (.ref (s.heap.objs.size + 1)) [] [] _ PySem.W.oi_kind PySem.W.oi_split t2 (PySem.W.oi_args (.ref (s.heap.objs.size + 1))) ?_)
  rw [PySem.W.oi_run]
  exact wpAny_pure (And.intro rfl ⟨V.ref (s.heap.objs.size + 1), _, I2, rfl, hq⟩)
end LF

set_option Elab.async false
set_option linter.all false
set_option maxRecDepth 100000
set_option maxHeartbeats 4000000
namespace K5
open PySem PySem.Spec PyProof.Rows L2 LF
abbrev s_Notebook : Stmt := topS 40
abbrev s_ninit : Stmt := inClass s_Notebook 0
theorem sc_ninit : FnScope ["self"] ["self"] (defScope s_ninit) := ⟨rfl, rfl, rfl, by decide +kernel, rfl, by decide +kernel, by decide +kernel⟩
abbrev s_Package : Stmt := topS 42
abbrev s_init : Stmt := inClass s_Package 1
theorem sc_init : FnScope ["self", "entries", "given"] ["self", "entries"] (defScope s_init) := ⟨rfl, rfl, rfl, by decide +kernel, rfl, by decide +kernel, by decide +kernel⟩
/-- what else a package has: solid, rooms, token, notes -/
structure PkX where
  s : Addr
  r : Addr
  t : Addr
  n : Addr
def pkFs (d : Addr) (x : PkX) : List (Str × V) := [("entries", .ref d), ("solid", .ref x.s), ("rooms", .ref x.r), ("token", .ref x.t), ("notes", .ref x.n)]
structure PkRest (H : Hp) (x : PkX) (es : List (Str × V)) : Prop where
  s : H x.s = some (.dK (kv (solidE es)))
  r : ∃ rs, Rooms H x.r rs ∧ bare3 rs = roomsE es
theorem PkRest.same {H H' : Hp} {x : PkX} {es : List (Str × V)} (h : PkRest H x es) (s : Same H H') : PkRest H' x es := ⟨s _ _ h.s, let ⟨rs, r1, r2⟩ := h.r; ⟨rs, r1.same s, r2⟩⟩
theorem PkRest.keep {H H' : Hp} {x : PkX} {es : List (Str × V)} {b : Addr} {o : HO} (h : PkRest H x es) (hb : H b = some o) (hn : (∀ l, o ≠ .lst l) ∧ (∀ l, o ≠ .dK l)) (s : Keep b H H') : PkRest H' x es := by
  obtain ⟨h1, rs, r1, r2⟩ := h
  have nd : ∀ {a l}, H a = some (.dK l) → a ≠ b := fun e q => by subst q; rw [hb] at e; exact hn.2 _ (Option.some.inj e)
  have nl : ∀ {a l}, H a = some (.lst l) → a ≠ b := fun e q => by subst q; rw [hb] at e; exact hn.1 _ (Option.some.inj e)
  exact ⟨s _ _ (nd h1) h1, rs, ⟨s _ _ (nd r1.d) r1.d, fun y hy => s _ _ (nl (r1.l y hy)) (r1.l y hy)⟩, r2⟩
/-- the package at p has these entries -/
def PkAt (C : Addr) (H : Hp) (p : Addr) (es : List (Str × V)) : Prop := ∃ dx d, (∃ x, H p = some (.ins C dx (pkFs d x)) ∧ PkRest H x es) ∧ H d = some (.dK (kv es))
theorem PkAt.same {C p : Addr} {H H' : Hp} {es : List (Str × V)} (h : PkAt C H p es) (s : Same H H') : PkAt C H' p es := by
  obtain ⟨dx, d, ⟨x, h1, h3⟩, h2⟩ := h
  exact ⟨dx, d, ⟨x, s _ _ h1, h3.same s⟩, s _ _ h2⟩
structure PkTxt (K : PySem.W.Frag) (mg : Str → Option Value) (C : Addr) : Prop where
  cl : Cls K C
  nE : NoAttr K C "entries"
  gC : mg "Package" = some (.ref C)
  lim : ∃ tk, Con K C "LIMIT" (.int 40) (.int 40 tk)
  nS : NoAttr K C "solid"
  nR : NoAttr K C "rooms"
  nT : NoAttr K C "token"
  nN : NoAttr K C "notes"
/-- the classes Token and Notebook -/
structure TokTxt (K : PySem.W.Frag) (mg : Str → Option Value) (CT : Addr) : Prop where
  made : Mk0 K CT
  g : mg "Token" = some (.ref CT)
def spNote (CN : Addr) : Sp := fun vs H Q _ => ∃ p dx, vs = [.ref p] ∧ H p = some (.ins CN dx []) ∧ ∀ H' r, Keep p H H' → H r = none → H' p = some (.ins CN dx [("rows", .ref r)]) → H' r = some (.dK []) → Q .non H'
structure NoteTxt (P : Program) (w : World) (K : PySem.W.Frag) (mg : Str → Option Value) (base : Heap) (CN fN : Addr) (fdN : FuncData) : Prop where
  made : Mk K CN fN
  g : mg "Notebook" = some (.ref CN)
  F : FnOk P w K mg base CX0 1 fN fdN ["self"] (spNote CN)
  b : Binds K fdN ["self"] []
theorem okE_nil : OkE [] := ⟨fun _ h => (nomatch h), fun _ h => (nomatch h), fun _ h => (nomatch h), .nil, .nil, Nat.zero_le _⟩
def spIn (CK CM : Addr) : Sp := fun vs H Q E => ∃ (p dx : Addr) (y : V) (es : List (Str × V)), vs = [.ref p, y] ∧ H p = some (.ins CK dx []) ∧ ((y = .non ∧ es = []) ∨ ∃ d, y = .ref d ∧ H d = some (.dK (kv es))) ∧ OkU es ∧ (fullU es).length ≤ 1000000 ∧
  ((pkE es).length ≤ 40 → ∀ H', Keep p H H' → PkAt CK H' p (pkE es) → Q .non H') ∧ (40 < (pkE es).length → ∀ H' dd, Keep p H H' → H' dd = some (.xd [("limit", .int 40)]) → E (.ref CM) (some dd) H')
theorem lk_entries (d : Addr) {x : PkX} : List.lookup ("entries" : Str) (pkFs d x) = some (.ref d) := by simp [pkFs, List.lookup]
def pkNot (m : Str) : Bool := !(m == ("entries" : Str)) && !(m == ("solid" : Str)) && !(m == ("rooms" : Str)) && !(m == ("token" : Str)) && !(m == ("notes" : Str))
theorem lk_no {m : Str} (d : Addr) {x : PkX} (h : pkNot m = true) : List.lookup m (pkFs d x) = none := by
  unfold pkNot at h
  simp only [Bool.and_eq_true, Bool.not_eq_true'] at h
  obtain ⟨⟨⟨⟨h1, h2⟩, h3⟩, h4⟩, h5⟩ := h
  simp [pkFs, List.lookup, h1, h2, h3, h4, h5]
section
variable {P : Program} {w : World} {K : PySem.W.Frag} {mg : Str → Option Value} {base : Heap} {tk1 tk2 : Tok}
theorem ok_ninit {f CN : Addr} {fd : FuncData} (F : Fun K "__init__" "Notebook.__init__" s_ninit f fd) (cl : Cls K CN) (nr : NoAttr K CN "rows") : FnOk P w K mg base CX0 1 f fd ["self"] (spNote CN) := by
  refine F.ok sc_ninit (fun vs H Q E h => ?_) (fun cdv A outer s H vs Q E hr h => ?_)
  · obtain ⟨p, dx, rfl, _⟩ := h
    rfl
  refine ⟨_, pss_one (ps_fld (pv 0) pe_dnewK rfl), ?_⟩
  obtain ⟨p, dx, rfl, hp, hq⟩ := h
  intro r hr0
  have npr : p ≠ r := ne_of_none hp hr0
  refine ⟨_, rfl, p, CN, dx, [], rfl, (by rw [upd_ne npr]; exact hp), cl, nr, (by show 0 < 1000; decide), ?_⟩
  refine hq _ r (keep_put (Same.keep (same_new hr0))) hr0 upd_same (by rw [upd_ne npr.symm, upd_same])
def pf1 (d : Addr) : List (Str × V) := [("entries", .ref d)]
def pf2 (d s : Addr) : List (Str × V) := [("entries", .ref d), ("solid", .ref s)]
def pf3 (d s r : Addr) : List (Str × V) := [("entries", .ref d), ("solid", .ref s), ("rooms", .ref r)]
def pf4 (d s r t : Addr) : List (Str × V) := [("entries", .ref d), ("solid", .ref s), ("rooms", .ref r), ("token", .ref t)]
theorem put0 {d : Addr} : putF "entries" (V.ref d) [] = pf1 d := rfl
theorem put1 {d s : Addr} : putF "solid" (V.ref s) (pf1 d) = pf2 d s := by
  unfold pf1 pf2; simp only [putF]; rw [if_neg (by decide +kernel)]
theorem put2 {d s r : Addr} : putF "rooms" (V.ref r) (pf2 d s) = pf3 d s r := by
  unfold pf2 pf3; simp only [putF]; rw [if_neg (by decide +kernel), if_neg (by decide +kernel)]
theorem put3 {d s r t : Addr} : putF "token" (V.ref t) (pf3 d s r) = pf4 d s r t := by
  unfold pf3 pf4; simp only [putF]; rw [if_neg (by decide +kernel), if_neg (by decide +kernel), if_neg (by decide +kernel)]
theorem put4 {d s r t n : Addr} : putF "notes" (V.ref n) (pf4 d s r t) = pkFs d ⟨s, r, t, n⟩ := by
  unfold pf4 pkFs; simp only [putF]; rw [if_neg (by decide +kernel), if_neg (by decide +kernel), if_neg (by decide +kernel), if_neg (by decide +kernel)]
theorem lkE1 {v : V} {r : List (Str × V)} : List.lookup ("entries" : Str) (("entries", v) :: r) = some v := by simp [List.lookup]
theorem ok_init {f f1 f2 f3 f4 C CM CT CN fM fN : Addr} {fd fd1 fd2 fd3 fd4 fdN : FuncData} (F : FunD K "__init__" "Package.__init__" (defArgs s_init) (defBody s_init) (defScope s_init) [.non] [] f fd) (T : Txt K mg tk1 tk2) (R : PkTxt K mg C) (L : PySem.TooManyX.ManyTxt K mg CM fM)
    (d_ce : DefAt P w K mg base "check_entries" 6 f1 fd1 ["entries"] spCE) (d_wp : DefAt P w K mg base "with_parents" 6 f2 fd2 ["entries"] spWP)
    (d_so : DefAt P w K mg base "solid_entries" 3 f3 fd3 ["entries"] spSolid) (d_nw : DefAt P w K mg base "names_within" 1 f4 fd4 ["entries"] spWithin) (TT : TokTxt K mg CT) (NT : NoteTxt P w K mg base CN fN fdN) :
    FnOk P w K mg base (L2.CX P w) 8 f fd ["self", "entries"] (spIn C CM) := by
  refine F.ok sc_init (fun vs H Q E h => ?_) (fun cdv A outer s H vs Q E hr h => ?_)
  · obtain ⟨p, dx, y, es, rfl, _⟩ := h
    rfl
  refine ⟨_, (pss_cons (ps_set (i := 2) sc_init.nd rfl (Or.inl rfl) (pe_ifExp (pt_cmpR op_isN (pv 1) pe_non (nomark _)) pe_dnewK (pv 1)))
    (pss_cons (ps_expr (pe_callD d_ce (hr.mono (by decide)) (pa_cons (pv 2) pa_nil)))
    (pss_cons (ps_fld (pv 0) (pe_callD d_wp (hr.mono (by decide)) (pa_cons (pv 2) pa_nil)) rfl)
    (pss_cons (ps_if (pt_cmpR op_gt (pe_callB call_lenD (by rfl) T.n_len (by decide +kernel) (pa_cons (pe_fld (pv 0) rfl) pa_nil)) (pe_con (pv 0) rfl) (nomark _)) (pss_one (ps_raiseMany rfl L hr (takes_of rfl rfl rfl rfl) (by exact (pa_cons (pe_con (pv 0) rfl) pa_nil)))) pss_nil)
    (pss_cons (ps_fld (pv 0) (pe_callD d_so (hr.mono (by decide)) (pa_cons (pe_fld (pv 0) rfl) pa_nil)) rfl)
    (pss_cons (ps_fld (pv 0) (pe_callD d_nw (hr.mono (by decide)) (pa_cons (pe_fld (pv 0) rfl) pa_nil)) rfl)
    (pss_cons (ps_fld (pv 0) (pe_new0 TT.made (by rfl) TT.g) rfl)
    (pss_one (ps_fld (pv 0) (pe_make0 NT.made NT.F (hr.mono (by decide)) rfl NT.g NT.b .nil pass0) rfl))))))))), ?_⟩
  obtain ⟨p, dx, y, es, rfl, hp, hy, okU, hful, hq, he⟩ := h
  have hel : es.length ≤ 1000000 := Nat.le_trans (fullN_ge es es) hful
  have ok : OkE (pkE es) := pkE_ok okU hful
  obtain ⟨tkL, lim⟩ := R.lim
  have main : ∀ (H0 : Hp) (g : Addr), Same H H0 → H0 g = some (.dK (kv es)) → tSeq (tDrop (tCall spCE [] E0 (tCons (tVar 2) tNil)))
      (tSeq (sFld K (tVar 0) (tCall spWP [] E0 (tCons (tVar 2) tNil)) "entries")
        (tSeq (tIfS (tTest (tOp (rI0 fun i j => .bl (decide (j < i))) (tCB (fun xs H Q => ∃ a kvs, xs = [V.ref a] ∧ H a = some (.dK kvs) ∧ Q (.int kvs.length) H) (tCons (tFld K (tVar 0) "entries") tNil)) (tCon K (tVar 0) "LIMIT")))
          (tRaiseMany CM (fun cls d _ H' => E cls d H') (tCons (tCon K (tVar 0) "LIMIT") tNil)) tNext)
        (tSeq (sFld K (tVar 0) (tCall spSolid [] E0 (tCons (tFld K (tVar 0) "entries") tNil)) "solid")
        (tSeq (sFld K (tVar 0) (tCall spWithin [] E0 (tCons (tFld K (tVar 0) "entries") tNil)) "rooms")
        (tSeq (sFld K (tVar 0) (tMake0 CT) "token")
        (sFld K (tVar 0) (tMake CN (spNote CN) [] E0 tNil) "notes"))))))
      { nx := fun _ H' => Q .non H', rt := Q } [some (.ref p), some y, some (.ref g)] H0 := by
    intro H0 g s0 hg
    refine ⟨_, rfl, g, es, rfl, hg, okU, hel, fun H1 s1 => ?_⟩
    have S1 := s0.trans s1
    refine ⟨_, rfl, g, es, rfl, s1 _ _ hg, okU, hful, fun H2 d s2 hd0 hd => ?_⟩
    have S2 := S1.trans s2
    have hp2 := S2 _ _ hp
    have npd : d ≠ p := Ne.symm (ne_of_none (S1 _ _ hp) hd0)
    refine ⟨_, rfl, p, C, dx, [], rfl, hp2, R.cl, R.nE, (by show 0 < 1000; decide), ?_⟩
    rw [put0]
    have lk2 : List.lookup ("LIMIT" : Str) (pf1 d) = none := by
      have e : ((Str.ofString "LIMIT") == (Str.ofString "entries")) = false := by decide +kernel
      simp [pf1, List.lookup, e]
    have hd3 : (upd H2 p (.ins C dx (pf1 d))) d = some (.dK (kv (pkE es))) := by rw [upd_ne npd]; exact hd
    have hp3 : (upd H2 p (.ins C dx (pf1 d))) p = some (.ins C dx (pf1 d)) := upd_same
    have K3 : Keep p H (upd H2 p (.ins C dx (pf1 d))) := keep_put (Same.keep S2)
    generalize (upd H2 p (.ins C dx (pf1 d))) = H3 at hd3 hp3 K3
    refine ⟨_, rfl, p, C, dx, _, _, rfl, hp3, R.cl, R.nE, lkE1, d, kv (pkE es), rfl, hd3, ?_⟩
    refine ⟨_, rfl, p, C, dx, _, _, _, rfl, hp3, R.cl, lim, lk2, _, _, rfl, rfl, _, rfl, ?_⟩
    have hkl : (kv (pkE es)).length = (pkE es).length := by unfold kv; rw [List.length_map]
    rw [hkl]
    refine ifD (fun h => ?_) (fun h => ?_)
    · refine ⟨_, rfl, p, C, dx, _, _, _, rfl, hp3, R.cl, lim, lk2, _, rfl, fun dd hdd => he (by omega) _ dd (K3.trans (Same.keep (same_new hdd))) upd_same⟩
    -- solid
    refine ⟨_, rfl, p, C, dx, _, _, rfl, hp3, R.cl, R.nE, lkE1, d, pkE es, rfl, hd3, ok, by omega, fun H4 so s4 hso0 hso => ?_⟩
    have hp4 := s4 _ _ hp3
    refine ⟨_, rfl, p, C, dx, _, rfl, hp4, R.cl, R.nS, (by show 1 < 1000; decide), ?_⟩
    rw [put1]
    have nso : so ≠ p := Ne.symm (ne_of_none hp3 hso0)
    have hd5 : (upd H4 p (.ins C dx (pf2 d so))) d = some (.dK (kv (pkE es))) := by rw [upd_ne npd]; exact s4 _ _ hd3
    have hs5 : (upd H4 p (.ins C dx (pf2 d so))) so = some (.dK (kv (solidE (pkE es)))) := by rw [upd_ne nso]; exact hso
    have hp5 : (upd H4 p (.ins C dx (pf2 d so))) p = some (.ins C dx (pf2 d so)) := upd_same
    have K5 : Keep p H (upd H4 p (.ins C dx (pf2 d so))) := K3.trans (keep_put (Same.keep s4))
    generalize (upd H4 p (.ins C dx (pf2 d so))) = H5 at hd5 hs5 hp5 K5
    -- rooms
    refine ⟨_, rfl, p, C, dx, _, _, rfl, hp5, R.cl, R.nE, lkE1, d, pkE es, rfl, hd5, ok, by omega, fun H6 ro rs s6 hro0 hro hbr => ?_⟩
    have hp6 := s6 _ _ hp5
    refine ⟨_, rfl, p, C, dx, _, rfl, hp6, R.cl, R.nR, (by show 2 < 1000; decide), ?_⟩
    rw [put2]
    have rest6 : PkRest H6 ⟨so, ro, so, so⟩ (pkE es) := ⟨s6 _ _ hs5, rs, hro, hbr⟩
    have rest7 := rest6.keep (H' := upd H6 p (.ins C dx (pf3 d so ro))) hp6 ⟨(fun _ q => nomatch q), (fun _ q => nomatch q)⟩ (keep_put (Keep.refl _ _))
    have hd7 : (upd H6 p (.ins C dx (pf3 d so ro))) d = some (.dK (kv (pkE es))) := by rw [upd_ne npd]; exact s6 _ _ hd5
    have hp7 : (upd H6 p (.ins C dx (pf3 d so ro))) p = some (.ins C dx (pf3 d so ro)) := upd_same
    have K7 : Keep p H (upd H6 p (.ins C dx (pf3 d so ro))) := K5.trans (keep_put (Same.keep s6))
    generalize (upd H6 p (.ins C dx (pf3 d so ro))) = H7 at hd7 hp7 K7 rest7
    -- token
    intro t dt ht hdt ndt
    have s8 : Same H7 (upd (upd H7 dt (.own t)) t (.ins CT dt [])) := same_upd ht (same_new hdt)
    have npt : p ≠ t := ne_of_none hp7 ht
    generalize (upd (upd H7 dt (.own t)) t (.ins CT dt [])) = H8 at s8
    have hp8 := s8 _ _ hp7
    refine ⟨_, rfl, p, C, dx, _, rfl, hp8, R.cl, R.nT, (by show 3 < 1000; decide), ?_⟩
    rw [put3]
    have rest9 := (rest7.same s8).keep (H' := upd H8 p (.ins C dx (pf4 d so ro t))) hp8 ⟨(fun _ q => nomatch q), (fun _ q => nomatch q)⟩ (keep_put (Keep.refl _ _))
    have hd9 : (upd H8 p (.ins C dx (pf4 d so ro t))) d = some (.dK (kv (pkE es))) := by rw [upd_ne npd]; exact s8 _ _ hd7
    have hp9 : (upd H8 p (.ins C dx (pf4 d so ro t))) p = some (.ins C dx (pf4 d so ro t)) := upd_same
    have K5' : Keep p H (upd H8 p (.ins C dx (pf4 d so ro t))) := K7.trans (keep_put (Same.keep s8))
    generalize (upd H8 p (.ins C dx (pf4 d so ro t))) = H9 at hd9 hp9 K5' rest9
    -- notes
    intro n dn hn hdn ndn
    have sN : Same H9 (upd (upd H9 dn (.own n)) n (.ins CN dn [])) := same_upd hn (same_new hdn)
    have npn : p ≠ n := ne_of_none hp9 hn
    have hN : (upd (upd H9 dn (.own n)) n (.ins CN dn [])) n = some (.ins CN dn []) := upd_same
    refine ⟨n, dn, rfl, hN, fun Ha r kp hr0 hna hra => ⟨rfl, ?_⟩⟩
    have sa : Same H9 Ha := fun a o e => kp a o (ne_of_none e hn) (sN _ _ e)
    have hpa := sa _ _ hp9
    refine ⟨_, rfl, p, C, dx, _, rfl, hpa, R.cl, R.nN, (by show 4 < 1000; decide), ?_⟩
    rw [put4]
    have restA := (rest9.same sa).keep (H' := upd Ha p (.ins C dx (pkFs d ⟨so, ro, t, n⟩))) hpa ⟨(fun _ q => nomatch q), (fun _ q => nomatch q)⟩ (keep_put (Keep.refl _ _))
    exact hq (by omega) _ (K5'.trans (keep_put (Same.keep sa))) ⟨dx, d, ⟨⟨so, ro, t, n⟩, upd_same, ⟨restA.s, restA.r⟩⟩, by rw [upd_ne npd]; exact sa _ _ hd9⟩
  refine ⟨_, rfl, rfl, _, rfl, ?_⟩
  rcases hy with ⟨rfl, rfl⟩ | ⟨d, rfl, hd⟩
  · refine ifD (fun _ => ?_) (fun h => absurd rfl h)
    intro g hg
    exact main _ g (same_new hg) upd_same
  · refine ifD (fun h => nomatch h) (fun _ => ?_)
    exact ⟨_, rfl, main H d (Same.refl H) hd⟩
end
end K5

set_option Elab.async false
set_option linter.all false
set_option maxRecDepth 100000
set_option maxHeartbeats 4000000
namespace LF
open PySem PySem.Spec PyProof.Rows L2
def spBag (K : PySem.W.Frag) : Sp := fun vs H Q _ => ∃ (a : Addr) (at' : Int) (ns : List Int), vs = [.ref a, .int at'] ∧ SqL K H a (ns.map V.int) ∧ 0 ≤ at' ∧
  ∀ H' p, Same H H' → H p = none → BagAt H' p → Q (.ref p) H'
def spTake : Sp := fun vs H Q _ => ∃ (b : Addr) (m : Int), vs = [.ref b, .int m] ∧ BagAt H b ∧ 1 ≤ m ∧ m < 1000000 ∧
  ∀ H' r, Keep b H H' → BagAt H' b → 0 ≤ r → r < m → Q (.int r) H'
def spPick (K : PySem.W.Frag) : Sp := fun vs H Q _ => ∃ (b : Addr) (x : V), vs = [.ref b, x] ∧ BagAt H b ∧
  ((∃ (p : Addr) (items : List V), x = .ref p ∧ p ≠ b ∧ SqL K H p items ∧ 1 ≤ items.length ∧ items.length < 1000000 ∧ ∀ H' v, Keep b H H' → BagAt H' b → v ∈ items → Q v H') ∨
   (∃ z : Str, x = .str z ∧ 1 ≤ z.length ∧ z.length < 1000000 ∧ ∀ H' c, Keep b H H' → BagAt H' b → c ∈ z.cps.toList → Q (.str ⟨#[c]⟩) H'))
end LF
namespace K5
open PySem PySem.Spec PyProof.Rows L2 LF
abbrev s_bag : Stmt := topS 44
theorem sc_bag : FnScope ["_law_script", "_law_at", "_law_cell", "_law_digits"] ["_law_script", "_law_at"] (defScope s_bag) := ⟨rfl, rfl, rfl, by decide +kernel, rfl, by decide +kernel, by decide +kernel⟩
abbrev s_take : Stmt := topS 45
theorem sc_take : FnScope ["_law_bag_here", "_law_many", "_law_digit"] ["_law_bag_here", "_law_many"] (defScope s_take) := ⟨rfl, rfl, rfl, by decide +kernel, rfl, by decide +kernel, by decide +kernel⟩
abbrev s_pick : Stmt := topS 46
theorem sc_pick : FnScope ["_law_bag_here", "_law_some"] ["_law_bag_here", "_law_some"] (defScope s_pick) := ⟨rfl, rfl, rfl, by decide +kernel, rfl, by decide +kernel, by decide +kernel⟩
section
variable {P : Program} {w : World} {K : PySem.W.Frag} {mg : Str → Option Value} {base : Heap} {tk1 tk2 : Tok}
theorem ok_bag {f : Addr} {fd : FuncData} (F : Fun K "_law_bag" "_law_bag" s_bag f fd) (T : Txt K mg tk1 tk2) : FnOk P w K mg base CX0 1 f fd ["_law_script", "_law_at"] (spBag K) := by
  refine F.ok sc_bag (fun vs H Q E h => ?_) (fun cdv A outer s H vs Q E hr h => ?_)
  · obtain ⟨a, at', ns, rfl, _⟩ := h
    rfl
  refine ⟨_, (pss_cons (ps_set (i := 2) sc_bag.nd rfl (Or.inl rfl) (pe_ifExp (pt_cmpR op_lt (pv 1) (pe_callB call_len_seq (by rfl) T.n_len (by decide +kernel) (pa_cons (pv 0) pa_nil)) (nomark _)) (pe_ix ix_list (pv 0) (pv 1) (fun _ _ => rfl)) pe_int))
    (pss_cons (ps_set (i := 3) sc_bag.nd rfl (Or.inl rfl) (pe_ifExp (pt_cmpR op_ge (pe_callB call_abs (by rfl) T.n_abs (by decide +kernel) (pa_cons (pv 2) pa_nil)) (pe_op op_pow pe_int pe_int) (nomark _)) (pe_callB call_abs (by rfl) T.n_abs (by decide +kernel) (pa_cons (pv 2) pa_nil)) pe_int))
    (pss_one (ps_ret (pe_lst (pa_cons (pv 3) (pa_cons (pe_op op_mod (pe_op op_add (pe_op op_add (pe_op op_mul (pe_op op_mod (pe_callTy call_int1 (by rfl) T.n_int (by decide +kernel) (pa_cons (pv 2) pa_nil)) pe_int) pe_int) (pe_op op_mul pe_int (pv 1))) pe_int) pe_int) (pa_cons pe_int pa_nil)))))))), ?_⟩
  obtain ⟨a, at', ns, rfl, hS, hat, hq⟩ := h
  have absNN : ∀ c : Int, 0 ≤ (if c < 0 then -c else c) := fun c => by split <;> omega
  refine ⟨_, rfl, _, rfl, a, _, rfl, Or.inl hS, _, _, rfl, rfl, _, rfl, ?_⟩
  refine ifD (fun h1 => ?_) (fun h1 => ?_)
  · rw [List.length_map] at h1
    have h2 : at'.toNat < ns.length := by omega
    have hix : atI (ns.map V.int) at' = some (.int ns[at'.toNat]) := by
      have e : at' = ((at'.toNat : Nat) : Int) := by omega
      have z := atI_nat (xs := ns.map V.int) (j := at'.toNat) (v := .int ns[at'.toNat]) (by rw [List.getElem?_map, List.getElem?_eq_getElem h2]; rfl)
      rw [← e] at z
      exact z
    refine ⟨_, rfl, _, rfl, a, _, _, .int ns[at'.toNat], rfl, rfl, hS, hix, ?_⟩
    refine ⟨_, rfl, _, rfl, _, _, rfl, rfl, ⟨by decide, by decide, by decide⟩, _, _, rfl, rfl, _, rfl, ?_⟩
    refine ifD (fun _ => ?_) (fun _ => ?_)
    · refine ⟨_, rfl, _, rfl, ?_⟩
      refine ⟨_, rfl, _, rfl, Or.inl ⟨_, rfl, ?_⟩⟩
      refine ⟨_, _, rfl, rfl, (by show (0 : Int) < 2147483629; decide), ?_⟩
      refine ⟨_, _, rfl, rfl, Or.inr ⟨by decide, by decide⟩, ?_⟩
      refine ⟨_, rfl, _, _, rfl, rfl, Or.inl ⟨by decide, by decide⟩, ?_⟩
      refine ⟨_, _, rfl, rfl, _, _, rfl, rfl, _, _, rfl, rfl, (by show (0 : Int) < 2147483647; decide), ?_⟩
      exact ⟨(by show 3 ≤ sizeLine; decide), fun p hp => hq _ p (same_new hp) hp ⟨_, _, 0, upd_same, by first | exact absNN _ | exact Int.le_refl 0, Int.emod_nonneg _ (by decide), Int.emod_lt_of_pos _ (by decide)⟩⟩
    · refine ⟨_, rfl, _, rfl, Or.inl ⟨_, rfl, ?_⟩⟩
      refine ⟨_, _, rfl, rfl, (by show (0 : Int) < 2147483629; decide), ?_⟩
      refine ⟨_, _, rfl, rfl, Or.inr ⟨by decide, by decide⟩, ?_⟩
      refine ⟨_, rfl, _, _, rfl, rfl, Or.inl ⟨by decide, by decide⟩, ?_⟩
      refine ⟨_, _, rfl, rfl, _, _, rfl, rfl, _, _, rfl, rfl, (by show (0 : Int) < 2147483647; decide), ?_⟩
      exact ⟨(by show 3 ≤ sizeLine; decide), fun p hp => hq _ p (same_new hp) hp ⟨_, _, 0, upd_same, by first | exact absNN _ | exact Int.le_refl 0, Int.emod_nonneg _ (by decide), Int.emod_lt_of_pos _ (by decide)⟩⟩
  · refine ⟨_, rfl, _, rfl, _, _, rfl, rfl, ⟨by decide, by decide, by decide⟩, _, _, rfl, rfl, _, rfl, ?_⟩
    refine ifD (fun _ => ?_) (fun _ => ?_)
    · refine ⟨_, rfl, _, rfl, ?_⟩
      refine ⟨_, rfl, _, rfl, Or.inl ⟨_, rfl, ?_⟩⟩
      refine ⟨_, _, rfl, rfl, (by show (0 : Int) < 2147483629; decide), ?_⟩
      refine ⟨_, _, rfl, rfl, Or.inr ⟨by decide, by decide⟩, ?_⟩
      refine ⟨_, rfl, _, _, rfl, rfl, Or.inl ⟨by decide, by decide⟩, ?_⟩
      refine ⟨_, _, rfl, rfl, _, _, rfl, rfl, _, _, rfl, rfl, (by show (0 : Int) < 2147483647; decide), ?_⟩
      exact ⟨(by show 3 ≤ sizeLine; decide), fun p hp => hq _ p (same_new hp) hp ⟨_, _, 0, upd_same, by first | exact absNN _ | exact Int.le_refl 0, Int.emod_nonneg _ (by decide), Int.emod_lt_of_pos _ (by decide)⟩⟩
    · refine ⟨_, rfl, _, rfl, Or.inl ⟨_, rfl, ?_⟩⟩
      refine ⟨_, _, rfl, rfl, (by show (0 : Int) < 2147483629; decide), ?_⟩
      refine ⟨_, _, rfl, rfl, Or.inr ⟨by decide, by decide⟩, ?_⟩
      refine ⟨_, rfl, _, _, rfl, rfl, Or.inl ⟨by decide, by decide⟩, ?_⟩
      refine ⟨_, _, rfl, rfl, _, _, rfl, rfl, _, _, rfl, rfl, (by show (0 : Int) < 2147483647; decide), ?_⟩
      exact ⟨(by show 3 ≤ sizeLine; decide), fun p hp => hq _ p (same_new hp) hp ⟨_, _, 0, upd_same, by first | exact absNN _ | exact Int.le_refl 0, Int.emod_nonneg _ (by decide), Int.emod_lt_of_pos _ (by decide)⟩⟩
theorem ok_take {f : Addr} {fd : FuncData} (F : Fun K "_law_take" "_law_take" s_take f fd) (T : Txt K mg tk1 tk2) : FnOk P w K mg base CX0 1 f fd ["_law_bag_here", "_law_many"] spTake := by
  refine F.ok sc_take (fun vs H Q E h => ?_) (fun cdv A outer s H vs Q E hr h => ?_)
  · obtain ⟨b, m, rfl, _⟩ := h
    rfl
  refine ⟨_, (pss_cons (ps_if (pt_cmpR op_gt (pe_ix ix_list (pv 0) pe_int (fun _ _ => rfl)) pe_int (nomark _)) (pss_cons (ps_set (i := 2) sc_take.nd rfl (Or.inl rfl) (pe_op op_mod (pe_callTy call_int1 (by rfl) T.n_int (by decide +kernel) (pa_cons (pe_ix ix_list (pv 0) pe_int (fun _ _ => rfl)) pa_nil)) (pv 1)))
    (pss_cons (ps_asg (pe_op op_fdiv (pe_ix ix_list (pv 0) pe_int (fun _ _ => rfl)) (pv 1)) (pg_sub (pv 0) pe_int set_list))
    (pss_one (ps_ret (pv 2))))) pss_nil)
    (pss_cons (ps_asg (pe_op op_add (pe_ix ix_list (pv 0) pe_int (fun _ _ => rfl)) pe_int) (pg_sub (pv 0) pe_int set_list))
    (pss_cons (ps_asg (pe_op op_mod (pe_op op_add (pe_op op_add (pe_op op_mul (pe_callTy call_int1 (by rfl) T.n_int (by decide +kernel) (pa_cons (pe_ix ix_list (pv 0) pe_int (fun _ _ => rfl)) pa_nil)) pe_int) (pe_op op_mul pe_int (pe_ix ix_list (pv 0) pe_int (fun _ _ => rfl)))) pe_int) pe_int) (pg_sub (pv 0) pe_int set_list))
    (pss_one (ps_ret (pe_op op_mod (pe_op op_fdiv (pe_op op_mod (pe_callTy call_int1 (by rfl) T.n_int (by decide +kernel) (pa_cons (pe_op op_pow (pe_op op_fdiv (pe_ix ix_list (pv 0) pe_int (fun _ _ => rfl)) pe_int) pe_int) pa_nil)) pe_int) pe_int) (pv 1))))))), ?_⟩
  obtain ⟨b, m, rfl, ⟨d, x, n, hb, hd, hx0, hx1⟩, hm1, hm2, hq⟩ := h
  refine ⟨_, rfl, b, _, _, _, rfl, rfl, SqL.of hb, rfl, _, _, rfl, rfl, _, rfl, ?_⟩
  refine ifD (fun h1 => ?_) (fun h1 => ?_)
  · refine ⟨_, rfl, b, _, _, _, rfl, rfl, SqL.of hb, rfl, Or.inl ⟨_, rfl, ?_⟩⟩
    refine ⟨_, rfl, _, _, rfl, rfl, (by show (0 : Int) < m; omega), ?_⟩
    refine ⟨_, rfl, b, _, _, _, rfl, rfl, SqL.of hb, rfl, _, rfl, _, _, rfl, rfl, ⟨by show (0 : Int) < m; omega, by show m < 1073741824; omega⟩, ?_⟩
    refine ⟨_, rfl, b, _, _, _, rfl, rfl, hb, rfl, ?_⟩
    refine ⟨_, rfl, ?_⟩
    refine hq _ _ (keep_put (Keep.refl b H)) ⟨d / m, x, n, upd_same, ?_, hx0, hx1⟩ (Int.emod_nonneg _ (by omega)) (Int.emod_lt_of_pos _ (by omega))
    exact Int.ediv_nonneg hd (by omega)
  · refine ⟨_, rfl, b, _, _, _, rfl, rfl, SqL.of hb, rfl, _, _, rfl, rfl, ?_⟩
    refine ⟨_, rfl, b, _, _, _, rfl, rfl, hb, rfl, ?_⟩
    refine ⟨_, rfl, b, _, _, _, rfl, rfl, SqL.of upd_same, rfl, Or.inl ⟨_, rfl, ?_⟩⟩
    refine ⟨_, _, rfl, rfl, Or.inr ⟨by decide, by decide⟩, ?_⟩
    refine ⟨_, rfl, b, _, _, _, rfl, rfl, SqL.of upd_same, rfl, _, _, rfl, rfl, Or.inl ⟨by decide, by decide⟩, ?_⟩
    refine ⟨_, _, rfl, rfl, _, _, rfl, rfl, _, _, rfl, rfl, (by show (0 : Int) < 2147483647; decide), ?_⟩
    refine ⟨_, rfl, b, _, _, _, rfl, rfl, upd_same, rfl, ?_⟩
    have n1 := Int.emod_nonneg (x * 48271 + 3571 * (n + 1) + 7) (show (2147483647 : Int) ≠ 0 by decide)
    have n2 := Int.emod_lt_of_pos (x * 48271 + 3571 * (n + 1) + 7) (show (0 : Int) < 2147483647 by decide)
    refine ⟨_, rfl, b, _, _, _, rfl, rfl, SqL.of upd_same, rfl, _, _, rfl, rfl, ⟨by decide, by decide⟩, ?_⟩
    refine ⟨_, _, rfl, rfl, ⟨by decide, by decide, ?_⟩, Or.inl ⟨_, rfl, ?_⟩⟩
    · have h9 : (((x * 48271 + 3571 * (n + 1) + 7) % 2147483647) / 8).natAbs < 2 ^ 64 := by
        generalize (x * 48271 + 3571 * (n + 1) + 7) % 2147483647 = y at n1 n2 ⊢
        have h8 : 0 ≤ y / 8 ∧ y / 8 < 2147483647 := by omega
        have h7 : (2 : Nat) ^ 64 = 18446744073709551616 := by decide
        omega
      exact h9
    refine ⟨_, _, rfl, rfl, (by show (0 : Int) < 2147483579; decide), _, _, rfl, rfl, ⟨by decide, by decide⟩, ?_⟩
    refine ⟨_, rfl, _, _, rfl, rfl, (by show (0 : Int) < m; omega), ?_⟩
    refine hq _ _ (keep_put (keep_put (Keep.refl b H))) ⟨_, _, _, upd_same, hd, n1, n2⟩ (Int.emod_nonneg _ (by omega)) (Int.emod_lt_of_pos _ (by omega))
theorem ok_pick {f f1 : Addr} {fd fd1 : FuncData} (F : Fun K "_law_pick" "_law_pick" s_pick f fd) (T : Txt K mg tk1 tk2) (d_take : DefAt P w K mg base "_law_take" 1 f1 fd1 ["_law_bag_here", "_law_many"] spTake) :
    FnOk P w K mg base CX0 2 f fd ["_law_bag_here", "_law_some"] (spPick K) := by
  refine F.ok sc_pick (fun vs H Q E h => ?_) (fun cdv A outer s H vs Q E hr h => ?_)
  · obtain ⟨b, x, rfl, _⟩ := h
    rfl
  refine ⟨_, (pss_one (ps_ret (pe_ix ix_seq (pv 1) (pe_callD d_take (hr.mono (by decide)) (pa_cons (pv 0) (pa_cons (pe_callB call_len (by rfl) T.n_len PySem.boot_len (pa_cons (pv 1) pa_nil)) pa_nil))) (fun _ _ => rfl)))), ?_⟩
  obtain ⟨b, x, rfl, hb, h⟩ := h
  rcases h with ⟨p, items, rfl, npb, hp, h1, h2, hq⟩ | ⟨z, rfl, h1, h2, hq⟩
  · refine ⟨_, rfl, _, rfl, _, rfl, .ref p, items.length, rfl, Or.inl ⟨_, hp, rfl⟩, ?_⟩
    refine ⟨b, _, rfl, hb, by omega, by omega, fun H' r kp bg r0 r1 => ?_⟩
    have hr' : r.toNat < items.length := by omega
    have e : r = ((r.toNat : Nat) : Int) := by omega
    have z := atI_nat (xs := items) (j := r.toNat) (v := items[r.toNat]) (List.getElem?_eq_getElem hr')
    rw [← e] at z
    exact Or.inl ⟨p, _, _, _, rfl, rfl, keep_seq kp npb hp, z, hq H' _ kp bg (List.getElem_mem hr')⟩
  · refine ⟨_, rfl, _, rfl, _, rfl, .str z, z.length, rfl, ⟨Nat.le_trans (Nat.le_of_lt h2) (by decide), rfl⟩, ?_⟩
    refine ⟨b, _, rfl, hb, by omega, by omega, fun H' r kp bg r0 r1 => ?_⟩
    have hr' : r.toNat < z.cps.toList.length := by
      have : z.cps.toList.length = z.length := by simp [Str.length]
      omega
    have e : r = ((r.toNat : Nat) : Int) := by omega
    have y := atI_nat (xs := z.cps.toList) (j := r.toNat) (v := z.cps.toList[r.toNat]) (List.getElem?_eq_getElem hr')
    rw [← e] at y
    exact Or.inr (Or.inr ⟨z, _, _, rfl, rfl, Nat.le_trans (Nat.le_of_lt h2) (by decide), y, hq H' _ kp bg (List.getElem_mem hr')⟩)
end
end K5

set_option Elab.async false
set_option linter.all false
set_option maxRecDepth 100000
set_option maxHeartbeats 4000000
namespace LF
open PySem PySem.Spec PyProof.Rows L2 K5
def spWords : Sp := fun vs H Q _ => ∃ (b : Addr) (m : Int), vs = [.ref b, .int m] ∧ BagAt H b ∧ 0 ≤ m ∧ m ≤ 100 ∧
  ∀ (H' : Hp) (p : Addr) (ss : List Str), Keep b H H' → BagAt H' b → H p = none → H' p = some (.lst (ss.map V.str)) → (ss.length : Int) = m → (∀ s ∈ ss, isNm s = true) → (∀ s ∈ ss, s.length ≠ 3) → Q (.ref p) H'
def spLPath : Sp := fun vs H Q _ => ∃ (b l : Addr) (L : List Str) (most : Int), vs = [.ref b, .ref l, .int most] ∧ BagAt H b ∧ l ≠ b ∧ H l = some (.lst (L.map V.str)) ∧ 1 ≤ L.length ∧ L.length ≤ 1000 ∧
  (∀ s ∈ L, isNm s = true) ∧ 0 ≤ most ∧ most ≤ 1000 ∧
  ∀ (H' : Hp) (ns : List Str), Keep b H H' → BagAt H' b → (∀ n ∈ ns, isNm n = true) → (ns.length : Int) ≤ most → Q (.str (PySem.Txt.join c_sl ns)) H'
theorem all_str {Pr : Str → Prop} : ∀ {acc : List V}, (∀ y ∈ acc, ∃ s, y = V.str s ∧ Pr s) → ∃ ss : List Str, acc = ss.map V.str ∧ ∀ s ∈ ss, Pr s
  | [], _ => ⟨[], rfl, fun _ h => nomatch h⟩
  | v :: vs, h => by
    obtain ⟨ss, e, hs⟩ := all_str (acc := vs) fun y hy => h y (List.mem_cons_of_mem _ hy)
    obtain ⟨s, rfl, hp⟩ := h v List.mem_cons_self
    exact ⟨s :: ss, by rw [e]; rfl, fun t ht => (List.mem_cons.mp ht).elim (fun q => q ▸ hp) (hs t)⟩
end LF
namespace K5
open PySem PySem.Spec PyProof.Rows L2 LF
abbrev s_lpath : Stmt := topS 49
abbrev N__law_path : List Str := ["_law_bag_here", "_law_letters", "_law_most", "_law_k"]
theorem sc__law_path : FnScope ["_law_bag_here", "_law_letters", "_law_most", "_law_k"] ["_law_bag_here", "_law_letters", "_law_most"] (defScope s_lpath) := ⟨rfl, rfl, rfl, by decide +kernel, rfl, by decide +kernel, by decide +kernel⟩
abbrev s__law_words : Stmt := topS 47
abbrev N__law_words : List Str := ["_law_bag_here", "_law_many", "_law_letters", "_law_stem", "_law_k", "_law_spot", "_law_first", "_law_pace"]
theorem sc__law_words : FnScope ["_law_bag_here", "_law_many", "_law_letters", "_law_stem", "_law_k", "_law_spot", "_law_first", "_law_pace"] ["_law_bag_here", "_law_many"] (defScope s__law_words) := ⟨rfl, rfl, rfl, by decide +kernel, rfl, by decide +kernel, by decide +kernel⟩
section
variable {P : Program} {w : World} {K : PySem.W.Frag} {mg : Str → Option Value} {base : Heap} {tk1 tk2 : Tok}
theorem ok_lpath {f f1 f2 : Addr} {fd fd1 fd2 : FuncData} (F : Fun K "_law_path" "_law_path" s_lpath f fd) (T : Txt K mg tk1 tk2) (d_take : DefAt P w K mg base "_law_take" 1 f1 fd1 ["_law_bag_here", "_law_many"] spTake)
    (d_pick : DefAt P w K mg base "_law_pick" 2 f2 fd2 ["_law_bag_here", "_law_some"] (spPick K)) : FnOk P w K mg base CX0 3 f fd ["_law_bag_here", "_law_letters", "_law_most"] spLPath := by
  refine F.ok sc__law_path (fun vs H Q E h => ?_) (fun cdv A outer s H vs Q E hr h => ?_)
  · obtain ⟨b, l, L, m, rfl, _⟩ := h
    rfl
  refine ⟨_, (pss_one (ps_ret (pe_join pe_str (pe_lc (own := [("_law_k", 3)]) rfl sc__law_path.nd (pi_range1 (by rfl) T.n_range (pa_cons (pe_callD d_take (hr.mono (by decide)) (pa_cons (pv 0) (pa_cons (pe_op op_add (pv 2) pe_int) pa_nil))) pa_nil)) (blkOk_by (N := N__law_path) (sc := defScope s_lpath) (by decide +kernel)) (fun _ _ _ _ _ => pg_name (i := 3) sc__law_path.nd rfl (Or.inl rfl)) (fun _ _ _ _ _ => pts_nil) (fun _ _ _ _ _ => (pe_callD d_pick (hr.mono (by decide)) (pa_cons (pv 0) (pa_cons (pv 1) pa_nil)))))))), ?_⟩
  obtain ⟨b, l, L, m, rfl, hb, nlb, hl, hL1, hL2, hL, hm0, hm1, hq⟩ := h
  refine ⟨⟨_, rfl⟩, _, rfl, _, rfl, _, _, rfl, rfl, ?_⟩
  refine ⟨b, m + 1, rfl, hb, by omega, by omega, fun H1 r k1 b1 r0 r1 => ?_⟩
  refine ⟨r, rfl, by omega, by omega, fun D hD => ?_⟩
  refine lc_draw (lo := 0) (Good := fun y => ∃ s, y = .str s ∧ isNm s = true) b1 hD ?_ ?_ ?_
  · exact Nat.lt_of_lt_of_le (show r.toNat < 2000 by omega) (by decide)
  · intro i H2 R hi k2 b2 hR
    refine ⟨_, rfl, _, rfl, ?_⟩
    refine ⟨b, _, rfl, b2, Or.inl ⟨l, L.map V.str, rfl, nlb, SqL.of (k2 _ _ nlb (k1 _ _ nlb hl)), by rw [List.length_map]; exact hL1, by rw [List.length_map]; omega, fun H' v k b3 hv => ?_⟩⟩
    obtain ⟨s, hs, rfl⟩ := List.mem_map.mp hv
    exact hR _ H' k b3 ⟨s, rfl, hL s hs⟩
  · intro H2 acc k2 b2 hD2 hlen hg
    obtain ⟨ss, rfl, hs⟩ := all_str hg
    rw [List.length_map] at hlen
    have h1 := sum_le (ss := ss) (n := 8) fun s hm => (isNm_len (hs s hm)).2
    have h2 : c_sl.length = 1 := by decide +kernel
    refine ⟨_, D, ss, rfl, rfl, Or.inl (SqL.of hD2), ?_, hq H2 ss (k1.trans k2) b2 hs (by omega)⟩
    show (ss.map (·.length)).sum + ss.length * c_sl.length ≤ 16777216
    rw [h2]; omega
end
end K5

set_option Elab.async false
set_option linter.all false
set_option maxRecDepth 100000
set_option maxHeartbeats 4000000
namespace K5
open PySem PySem.Spec PyProof.Rows L2 LF
section
variable {P : Program} {w : World} {K : PySem.W.Frag} {mg : Str → Option Value} {base : Heap} {tk1 tk2 : Tok}
theorem ok_words {f f1 f2 : Addr} {fd fd1 fd2 : FuncData} (F : Fun K "_law_words" "_law_words" s__law_words f fd) (T : Txt K mg tk1 tk2) (d_take : DefAt P w K mg base "_law_take" 1 f1 fd1 ["_law_bag_here", "_law_many"] spTake)
    (d_pick : DefAt P w K mg base "_law_pick" 2 f2 fd2 ["_law_bag_here", "_law_some"] (spPick K)) : FnOk P w K mg base CX0 3 f fd ["_law_bag_here", "_law_many"] spWords := by
  refine F.ok sc__law_words (fun vs H Q E h => ?_) (fun cdv A outer s H vs Q E hr h => ?_)
  · obtain ⟨b, m, rfl, _⟩ := h
    rfl
  refine ⟨_, (pss_cons (ps_set (i := 2) sc__law_words.nd rfl (Or.inr rfl) pe_str)
    (pss_cons (ps_set (i := 3) sc__law_words.nd rfl (Or.inr rfl) (pe_join pe_str (pe_lc (own := [("_law_k", 4)]) rfl sc__law_words.nd (pi_range1 (by rfl) T.n_range (pa_cons (pe_callD d_pick (hr.mono (by decide)) (pa_cons (pv 0) (pa_cons (pe_lst (pa_cons pe_int (pa_cons pe_int (pa_cons pe_int (pa_cons pe_int (pa_cons pe_int pa_nil)))))) pa_nil))) pa_nil)) (blkOk_by (N := N__law_words) (sc := defScope s__law_words) (by decide +kernel)) (fun _ _ _ _ _ => pg_name (i := 4) sc__law_words.nd rfl (Or.inl rfl)) (fun _ _ _ _ _ => pts_nil) (fun _ _ _ _ _ => (pe_callD d_pick (hr.mono (by decide)) (pa_cons (pv 0) (pa_cons (pv 2) pa_nil)))))))
    (pss_cons (ps_asg (pe_tup (pa_cons (pe_callD d_take (hr.mono (by decide)) (pa_cons (pv 0) (pa_cons (pe_op op_add (pe_callB call_len_str (by rfl) T.n_len (by decide +kernel) (pa_cons (pv 3) pa_nil)) pe_int) pa_nil))) (pa_cons (pe_callD d_take (hr.mono (by decide)) (pa_cons (pv 0) (pa_cons pe_int pa_nil))) pa_nil))) (pg_tup (by rfl) (pgs_cons (pg_name (i := 5) sc__law_words.nd rfl (Or.inr rfl)) (pgs_cons (pg_name (i := 6) sc__law_words.nd rfl (Or.inr rfl)) pgs_nil))))
    (pss_cons (ps_set (i := 7) sc__law_words.nd rfl (Or.inr rfl) (pe_callD d_pick (hr.mono (by decide)) (pa_cons (pv 0) (pa_cons (pe_lst (pa_cons pe_int (pa_cons pe_int (pa_cons pe_int (pa_cons pe_int pa_nil))))) pa_nil))))
    (pss_one (ps_ret (pe_lc (own := [("_law_k", 4)]) rfl sc__law_words.nd (pi_range1 (by rfl) T.n_range (pa_cons (pv 1) pa_nil)) (blkOk_by (N := N__law_words) (sc := defScope s__law_words) (by decide +kernel)) (fun _ _ _ _ _ => pg_name (i := 4) sc__law_words.nd rfl (Or.inl rfl)) (fun _ _ _ _ _ => pts_nil) (fun _ _ _ _ _ => (pe_op op_add_str (pe_op op_add_str (pe_slice sl_str (pv 3) po_none (po_some (pv 5))) (pe_ix ix_str (pv 2) (pe_op op_mod (pe_op op_add (pv 6) (pe_op op_mul (pv 7) (pv 4))) pe_int) (fun _ _ => rfl))) (pe_slice sl_str (pv 3) (po_some (pv 5)) po_none)))))))))), ?_⟩
  obtain ⟨b, m, rfl, hb, hm0, hm1, hq⟩ := h
  -- the stem
  refine ⟨⟨_, rfl⟩, _, rfl, (by show 5 ≤ sizeLine; decide), fun p5 hp5 => ?_⟩
  refine ⟨b, _, rfl, hb.same (same_new hp5), Or.inl ⟨p5, _, rfl, hb.ne hp5, SqL.of upd_same, by decide, by decide, fun H1 v k1 b1 hv => ?_⟩⟩
  have hv' : ∃ i : Int, v = .int i ∧ 0 ≤ i ∧ i ≤ 7 ∧ i ≠ 2 := by
    simp only [List.mem_cons, List.not_mem_nil, or_false] at hv
    rcases hv with rfl | rfl | rfl | rfl | rfl <;> exact ⟨_, rfl, by decide, by decide, by decide⟩
  obtain ⟨i, rfl, hi0, hi7, hi2⟩ := hv'
  have K1 : Keep b H H1 := (Same.keep (same_new hp5)).trans k1
  refine ⟨i, rfl, by omega, by omega, fun D hD => ?_⟩
  refine lc_draw (lo := 0) (Good := fun y => ∃ s, y = .str s ∧ ∃ c, s = ⟨#[c]⟩ ∧ c ∈ letters.cps.toList) b1 hD ?_ ?_ ?_
  · exact Nat.lt_of_lt_of_le (show i.toNat < 10 by omega) (by decide)
  · intro j H2 R hj k2 b2 hR
    refine ⟨_, rfl, _, rfl, ?_⟩
    exact ⟨b, _, rfl, b2, Or.inr ⟨letters, rfl, by decide +kernel, by decide +kernel, fun H' c k b3 hc => hR _ H' k b3 ⟨_, rfl, c, rfl, hc⟩⟩⟩
  · intro H2 acc k2 b2 hD2 hlen hg
    obtain ⟨cs, rfl, hcs⟩ := all_str hg
    rw [List.length_map] at hlen
    obtain ⟨sl, slow⟩ := stem_of hcs
    have h1 := sum_le (ss := cs) (n := 1) fun s hm => by
      obtain ⟨c, rfl, _⟩ := hcs s hm
      exact Nat.le_refl 1
    refine ⟨_, D, cs, rfl, rfl, Or.inl (SqL.of hD2), ?_, ?_⟩
    · show (cs.map (·.length)).sum + cs.length * (("" : Str)).length ≤ 16777216
      have h2 : (("" : Str)).length = 0 := by decide +kernel
      rw [h2]; omega
    generalize hst : PySem.Txt.join "" cs = stem at sl slow
    have sl7 : stem.length ≤ 7 := by omega
    have slL : stem.length ≤ sizeLine := Nat.le_trans sl7 (by decide)
    -- spot, first
    refine ⟨_, rfl, _, rfl, stem, rfl, slL, _, _, rfl, rfl, ?_⟩
    refine ⟨b, _, rfl, b2, by omega, by omega, fun H3 spot k3 b3 sp0 sp1 => ?_⟩
    refine ⟨_, rfl, ?_⟩
    refine ⟨b, 26, rfl, b3, by omega, by omega, fun H4 first k4 b4 fi0 fi1 => ?_⟩
    refine ⟨(by show 2 ≤ sizeLine; decide), fun tp htp => ?_⟩
    refine ⟨tp, _, rfl, SqT.of upd_same, rfl, _, _, rfl, _, _, rfl, rfl, ?_⟩
    -- pace
    refine ⟨_, rfl, (by show 4 ≤ sizeLine; decide), fun p4 hp4 => ?_⟩
    have b5 : BagAt (upd (upd H4 tp (.tup [.int spot, .int first])) p4 (.lst [.int 1, .int 3, .int 7, .int 25])) b := (b4.same (same_new htp)).same (same_new hp4)
    refine ⟨b, _, rfl, b5, Or.inl ⟨p4, _, rfl, (b4.same (same_new htp)).ne hp4, SqL.of upd_same, by decide, by decide, fun H5 v5 k5 b6 hv5 => ?_⟩⟩
    have hv6 : ∃ i : Int, v5 = .int i ∧ 0 ≤ i ∧ i ≤ 25 := by
      simp only [List.mem_cons, List.not_mem_nil, or_false] at hv5
      rcases hv5 with rfl | rfl | rfl | rfl <;> exact ⟨_, rfl, by decide, by decide⟩
    obtain ⟨pace, rfl, pa0, pa1⟩ := hv6
    have K5 : Keep b H H5 := (((K1.trans k2).trans k3).trans k4).trans (((Same.keep (same_new htp)).trans (Same.keep (same_new hp4))).trans k5)
    refine ⟨_, rfl, m, rfl, by omega, by omega, fun D2 hD2' => ?_⟩
    refine lc_draw (lo := 0) (Good := fun y => ∃ s, y = .str s ∧ (isNm s = true ∧ s.length ≠ 3)) b6 hD2' ?_ ?_ ?_
    · exact Nat.lt_of_lt_of_le (show m.toNat < 200 by omega) (by decide)
    · intro j H6 R hj k6 b7 hR
      have hspot : spot = ((spot.toNat : Nat) : Int) := by omega
      have hsn : spot.toNat ≤ stem.length := by omega
      have l1 := cut_to stem spot.toNat hsn
      have l2 := cut_from stem spot.toNat hsn
      rw [← hspot] at l1 l2
      have hidx0 := Int.emod_nonneg (first + pace * (0 + (j : Int))) (show (26 : Int) ≠ 0 by decide)
      have hidx1 := Int.emod_lt_of_pos (first + pace * (0 + (j : Int))) (show (0 : Int) < 26 by decide)
      have hll : letters.cps.toList.length = 26 := by decide +kernel
      have hix : (((first + pace * (0 + (j : Int))) % 26).toNat) < letters.cps.toList.length := by omega
      have hat := atI_nat (xs := letters.cps.toList) (j := ((first + pace * (0 + (j : Int))) % 26).toNat) (List.getElem?_eq_getElem hix)
      have hcast : ((((first + pace * (0 + (j : Int))) % 26).toNat : Nat) : Int) = (first + pace * (0 + (j : Int))) % 26 := by omega
      rw [hcast] at hat
      have hcm := List.getElem_mem hix
      refine ⟨_, rfl, _, rfl, spot, rfl, stem, rfl, slL, ?_⟩
      refine ⟨_, rfl, _, rfl, _, rfl, _, rfl, _, _, rfl, rfl, Or.inl ⟨by show -(2 ^ 64 : Int) < pace; omega, by show pace < (2 ^ 64 : Int); omega⟩, _, _, rfl, rfl, _, _, rfl, rfl, (by show (0 : Int) < 26; decide), ?_⟩
      refine ⟨letters, _, _, rfl, rfl, by decide +kernel, hat, ?_⟩
      have lc : ((⟨#[letters.cps.toList[((first + pace * (0 + (j : Int))) % 26).toNat]'hix]⟩ : Str)).length = 1 := rfl
      have s1 := len_app (cutS stem none (some spot)) ⟨#[letters.cps.toList[((first + pace * (0 + (j : Int))) % 26).toNat]'hix]⟩
      have s2 := len_app (cutS stem none (some spot) ++ ⟨#[letters.cps.toList[((first + pace * (0 + (j : Int))) % 26).toNat]'hix]⟩) (cutS stem (some spot) none)
      refine ⟨_, _, rfl, rfl, ?_, ?_⟩
      · exact Nat.le_trans (by omega : _ ≤ 100) (by decide)
      refine ⟨_, rfl, _, rfl, spot, rfl, stem, rfl, slL, ?_⟩
      refine ⟨_, _, rfl, rfl, ?_, ?_⟩
      · exact Nat.le_trans (by omega : _ ≤ 100) (by decide)
      refine hR _ H6 (Keep.refl b H6) b7 ⟨_, rfl, isNm_iff.mpr ⟨by omega, ?_⟩, by omega⟩
      refine low_app (low_app (low_sub slow (cut_mem _ _ _)) ?_) (low_sub slow (cut_mem _ _ _))
      intro c hc
      have hc' : c ∈ [letters.cps.toList[((first + pace * (0 + (j : Int))) % 26).toNat]'hix] := hc
      rw [List.mem_singleton.mp hc']
      exact hcm
    · intro H6 acc2 k6 b7 hD3 hlen2 hg2
      obtain ⟨ws, rfl, hws⟩ := all_str hg2
      rw [List.length_map] at hlen2
      refine hq H6 D2 ws (K5.trans k6) b7 ?_ hD3 (by omega) (fun s hs => (hws s hs).1) fun s hs => (hws s hs).2
      exact K5.free (b6.ne hD2') hD2'
end
end K5

set_option Elab.async false
set_option linter.all false
set_option maxRecDepth 100000
set_option maxHeartbeats 4000000
namespace LF
open PySem PySem.Spec PyProof.Rows L2 K5
def bits (z : Str) : List Str := (PySem.Txt.split z c_sl).filter fun s => !decide (s = "")
theorem bits_join {ns : List Str} (h : ∀ n ∈ ns, isNm n = true) : bits (PySem.Txt.join c_sl ns) = ns := by
  unfold bits
  by_cases hne : ns = []
  · subst hne
    rw [join_nil0]
    decide +kernel
  · rw [split_names hne h, List.filter_eq_self]
    intro a ha
    have h1 := (isNm_len (h a ha)).1
    have : a ≠ "" := fun e => by rw [e] at h1; exact absurd h1 (by decide +kernel)
    simp [this]
theorem dp_strs {K : PySem.W.Frag} {H : Hp} : ∀ l : List Str, DpAll K H (l.map V.str) (l.map .str)
  | [] => .nil
  | a :: l => .cons (.str a) (dp_strs l)
theorem eqv_strs : ∀ xs ys : List Str, PyData.eqvAll (xs.map .str) (ys.map .str) = decide (xs = ys)
  | [], [] => by simp [PyData.eqvAll]
  | [], _ :: _ => by simp [PyData.eqvAll]
  | _ :: _, [] => by simp [PyData.eqvAll]
  | x :: xs, y :: ys => by
    show PyData.eqvAll (.str x :: xs.map .str) (.str y :: ys.map .str) = _
    rw [PyData.eqvAll, eqv_strs xs ys]
    show ((x == y) && decide (xs = ys)) = _
    by_cases h1 : x = y <;> by_cases h2 : xs = ys <;> simp [h1, h2]
theorem strOk_low {z : Str} (h : low z) : PyData.strOk z = true := by
  unfold PyData.strOk
  rw [Array.all_eq_true']
  intro c hc
  have h1 := h c (Array.mem_toList_iff.mpr hc)
  have h2 : ∀ d ∈ letters.cps.toList, d < 0x110000 := by decide +kernel
  exact decide_eq_true (h2 c h1)
theorem strOk_join {ns : List Str} (h : ∀ n ∈ ns, isNm n = true) : PyData.strOk (PySem.Txt.join c_sl ns) = true := by
  unfold PyData.strOk
  rw [Array.all_eq_true']
  intro c hc
  have h1 : c ∈ TL.tl (PySem.Txt.join c_sl ns) := Array.mem_toList_iff.mpr hc
  have h2 : ∀ d ∈ letters.cps.toList, d < 0x110000 := by decide +kernel
  rw [TL.join_eq, TL.tl_join, tl_sl] at h1
  refine decide_eq_true ?_
  clear hc
  induction ns with
  | nil => exact nomatch h1
  | cons a l ih =>
    have ha : c ∈ TL.tl a → c < 0x110000 := fun q => h2 c ((isNm_iff.mp (h a List.mem_cons_self)).2 c q)
    cases l with
    | nil => exact ha h1
    | cons b l =>
      have h3 : c ∈ TL.tl a ++ ([47] ++ TL.joinL [47] ((b :: l).map TL.tl)) := h1
      rcases List.mem_append.mp h3 with q | q
      · exact ha q
      · rcases List.mem_append.mp q with q | q
        · rw [List.mem_singleton.mp q]; decide
        · exact ih (fun n hn => h n (List.mem_cons_of_mem _ hn)) q
theorem canLay_strs : ∀ {l : List Str}, (∀ s ∈ l, PyData.strOk s = true) → PyData.canLayAll0 (l.map .str) = true
  | [], _ => by simp [PyData.canLayAll0]
  | a :: l, h => by
    show PyData.canLayAll0 (.str a :: l.map .str) = true
    rw [PyData.canLayAll0, canLay_strs fun s hs => h s (List.mem_cons_of_mem _ hs), PyData.canLay0, h a List.mem_cons_self]
    rfl
theorem shaped_strs {l : List Str} (h : ∀ s ∈ l, PyData.strOk s = true) : SeqAt.shaped (.list (l.map .str)) = true := by
  unfold SeqAt.shaped
  rw [PyData.canLay0, canLay_strs h, Bool.true_and]
  exact decide_eq_true (by rw [PyData.depth, depth_strs]; decide)
theorem eqv_list_strs (xs ys : List Str) : PyData.eqv (.list (xs.map .str)) (.list (ys.map .str)) = decide (xs = ys) := by
  rw [PyData.eqv]; exact eqv_strs _ _
/-- data whose repr is told -/
structure Rok (d : PyData) : Prop where
  sh : d.showable = true
  nd : d.hasDict = false
  dp : d.depth ≤ 60
  ln : d.shown.length ≤ sizeLine
theorem Rok.of {d : PyData} (h1 : d.canLay0 = true) (h2 : d.depth ≤ 60) (h3 : d.weight ≤ 2 ^ 20) (h4 : d.intsShort 13 = true) (h5 : d.showable = true) : Rok d := by
  refine ⟨h5, PyData.hasDict_of_canLay d h1, h2, ?_⟩
  have hl : PyData.layable0 d = true := by
    unfold PyData.layable0
    rw [h1, decide_eq_true (by omega : d.depth ≤ 64), decide_eq_true h3]; rfl
  exact Nat.le_trans (shown_le13 hl h4) (by decide)
theorem weight_strs {n : Nat} : ∀ {l : List Str}, (∀ s ∈ l, s.length ≤ n) → PyData.weightAll (l.map .str) ≤ (n + 1) * l.length
  | [], _ => by simp [PyData.weightAll]
  | a :: l, h => by
    have h1 := weight_strs (n := n) fun s hs => h s (List.mem_cons_of_mem _ hs)
    have h2 := h a List.mem_cons_self
    show PyData.weightAll (.str a :: l.map .str) ≤ _
    rw [PyData.weightAll, PyData.weight, List.length_cons, Nat.mul_succ]
    have e : a.cps.size = a.length := rfl
    omega
theorem ints_strs : ∀ l : List Str, PyData.intsShortAll 13 (l.map .str) = true
  | [] => by simp [PyData.intsShortAll]
  | a :: l => by
    show PyData.intsShortAll 13 (.str a :: l.map .str) = true
    rw [PyData.intsShortAll, ints_strs l]; simp [PyData.intsShort]
theorem show_strs : ∀ l : List Str, PyData.showableAll (l.map .str) = true
  | [] => by simp [PyData.showableAll]
  | a :: l => by
    show PyData.showableAll (.str a :: l.map .str) = true
    rw [PyData.showableAll, show_strs l]; simp [PyData.showable]
theorem rok_tuple {l : List Str} {n : Nat} (h1 : ∀ s ∈ l, PyData.strOk s = true) (h2 : ∀ s ∈ l, s.length ≤ n) (h3 : (n + 1) * l.length ≤ 1000000) : Rok (.tuple (l.map .str)) := by
  refine Rok.of (by rw [PyData.canLay0]; exact canLay_strs h1) (by rw [PyData.depth, depth_strs]; decide) ?_ (by rw [PyData.intsShort]; exact ints_strs l) (by rw [PyData.showable]; exact show_strs l)
  rw [PyData.weight]
  exact Nat.le_trans (Nat.le_trans (weight_strs h2) h3) (by decide)
theorem rok_list {l : List Str} {n : Nat} (h1 : ∀ s ∈ l, PyData.strOk s = true) (h2 : ∀ s ∈ l, s.length ≤ n) (h3 : (n + 1) * l.length ≤ 1000000) : Rok (.list (l.map .str)) := by
  refine Rok.of (by rw [PyData.canLay0]; exact canLay_strs h1) (by rw [PyData.depth, depth_strs]; decide) ?_ (by rw [PyData.intsShort]; exact ints_strs l) (by rw [PyData.showable]; exact show_strs l)
  rw [PyData.weight]
  exact Nat.le_trans (Nat.le_trans (weight_strs h2) h3) (by decide)
theorem rok_str {z : Str} (h1 : PyData.strOk z = true) (h2 : z.length ≤ 1000000) : Rok (.str z) := by
  refine Rok.of (by rw [PyData.canLay0]; exact h1) (by simp [PyData.depth]) ?_ (by simp [PyData.intsShort]) (by simp [PyData.showable])
  rw [PyData.weight]
  exact Nat.le_trans (show z.cps.size ≤ 1000000 from h2) (by decide)
theorem rok_none : Rok .none := Rok.of (by simp [PyData.canLay0]) (by simp [PyData.depth]) (by simp [PyData.weight]) (by simp [PyData.intsShort]) (by simp [PyData.showable])
end LF

set_option Elab.async false
set_option linter.all false
set_option maxRecDepth 100000
set_option maxHeartbeats 4000000
namespace LF
open PySem PySem.Spec PyProof.Rows L2 TL K5
theorem partsFrom_len (x : Str) (w : Nat) : ∀ (cuts : List Nat) (a : Nat), (StrLaws.partsFrom x w a cuts).length = cuts.length + 1
  | [], _ => rfl
  | c :: r, a => by
    show (_ :: StrLaws.partsFrom x w _ r).length = _
    rw [List.length_cons, partsFrom_len x w r, List.length_cons]
/-- one more part than signs -/
theorem count_split (z : Str) : PySem.Txt.count z c_sl + 1 = ((PySem.Txt.split z c_sl).length : Nat) := by
  unfold PySem.Txt.count PySem.Txt.split
  have l1 : c_sl.length = 1 := by decide +kernel
  by_cases h1 : (decide (z.length < c_sl.length) || decide (Builtin.Str.strKind z < Builtin.Str.strKind c_sl)) = true
  · rw [if_pos h1]
    have hz : z = ⟨#[]⟩ := by
      rw [Bool.or_eq_true, decide_eq_true_eq, decide_eq_true_eq] at h1
      rcases h1 with h1 | h1
      · have h2 : z.cps.size = 0 := by
          have : z.cps.size = z.length := rfl
          omega
        obtain ⟨a⟩ := z
        show (⟨a⟩ : Str) = ⟨#[]⟩
        have h3 : a = #[] := Array.eq_empty_of_size_eq_zero h2
        rw [h3]
      · have e : Builtin.Str.strKind c_sl = 1 := by decide +kernel
        have : 1 ≤ Builtin.Str.strKind z := by
          unfold Builtin.Str.strKind
          split
          · exact Nat.le_refl _
          · split <;> decide
        omega
    rw [hz]
    decide +kernel
  · rw [if_neg h1]
    by_cases h2 : (Builtin.Str.occurrences z c_sl 0 z.length (z.length + 1)).isEmpty = true
    · rw [if_pos h2]
      rw [List.isEmpty_iff] at h2
      rw [h2]; rfl
    · rw [if_neg h2, StrLaws.partsBetween_eq, partsFrom_len]
      push_cast
      rfl
/-- a path of these names -/
abbrev jn (ns : List Str) : Str := PySem.Txt.join c_sl ns
theorem count_jn {ns : List Str} (hne : ns ≠ []) (h : ∀ n ∈ ns, isNm n = true) : PySem.Txt.count (jn ns) c_sl = (ns.length : Int) - 1 := by
  have := count_split (jn ns)
  rw [split_names hne h] at this
  omega
end LF
namespace K5
open PySem PySem.Spec PyProof.Rows L2 LF
def spJoined (K : PySem.W.Frag) : Sp := fun vs H Q _ => ∃ (a : Addr) (ws : List Str), vs = [.ref a] ∧ SqL K H a (ws.map V.str) ∧ ws.length ≤ 1000 ∧ (∀ s ∈ ws, s.length ≤ 1000) ∧
  ∀ H', Same H H' → Q (.str (jn (ws.filter fun s : Str => !decide (s = "")))) H'
abbrev s__law_joined : Stmt := topS 48
abbrev N__law_joined : List Str := ["_law_bits", "_law_part"]
theorem sc__law_joined : FnScope ["_law_bits", "_law_part"] ["_law_bits"] (defScope s__law_joined) := ⟨rfl, rfl, rfl, by decide +kernel, rfl, by decide +kernel, by decide +kernel⟩
/-- is it a text, and is it not the empty one -/
def strF : V → Bool
  | .str s => !decide (s = "")
  | _ => false
theorem filter_strs (ws : List Str) : ((ws.map V.str).filter strF).map id = (ws.filter fun s : Str => !decide (s = "")).map V.str := by
  rw [List.map_id, List.filter_map]
  rfl
section
variable {P : Program} {w : World} {K : PySem.W.Frag} {mg : Str → Option Value} {base : Heap} {tk1 tk2 : Tok}
theorem ok_joined {f : Addr} {fd : FuncData} (F : Fun K "_law_joined" "_law_joined" s__law_joined f fd) : FnOk P w K mg base CX0 1 f fd ["_law_bits"] (spJoined K) := by
  refine F.ok sc__law_joined (fun vs H Q E h => ?_) (fun cdv A outer s H vs Q E hr h => ?_)
  · obtain ⟨a, ws, rfl, _⟩ := h
    rfl
  refine ⟨_, (pss_one (ps_ret (pe_join pe_str (pe_lc (own := [("_law_part", 1)]) rfl sc__law_joined.nd (pi_list (pv 0)) (blkOk_by (N := N__law_joined) (sc := defScope s__law_joined) (by decide +kernel)) (fun _ _ _ _ _ => pg_name (i := 1) sc__law_joined.nd rfl (Or.inl rfl)) (fun _ _ _ _ _ => (pts_one (pt_cmpR op_ne (pv 1) pe_str (nomark _)))) (fun _ _ _ _ _ => (pv 1)))))), ?_⟩
  obtain ⟨a, ws, rfl, hs, hl, hw, hq⟩ := h
  refine ⟨⟨_, rfl⟩, _, rfl, a, rfl, ⟨_, hs⟩, fun D hD => ?_⟩
  refine lc_filt (xs := ws.map V.str) strF id hD hs (by rw [List.length_map]; exact Nat.lt_of_le_of_lt hl (by decide)) ?_ ?_ ?_
  · rintro x H1 R hx sm hR
    obtain ⟨s0, hs0, rfl⟩ := List.mem_map.mp hx
    refine ⟨_, rfl, rfl, _, rfl, ?_⟩
    have h2 := hR H1 (Same.refl H1)
    show R _ H1
    have e : (!decide (V.str s0 = V.str "")) = strF (.str s0) := by
      show _ = (!decide (s0 = ""))
      by_cases h : s0 = ""
      · rw [h]; rfl
      · rw [decide_eq_false h, decide_eq_false fun c => h (by injection c)]
    first
      | exact h2
      | (rw [e]; exact h2)
  · rintro x H1 R hx hp sm hR
    exact ⟨_, rfl, hR H1 (Same.refl H1)⟩
  · rintro H1 sm hd
    rw [filter_strs] at hd
    have hle : (ws.filter fun s : Str => !decide (s = "")).length ≤ ws.length := List.length_filter_le _ _
    have h1 := sum_le (ss := ws.filter fun s : Str => !decide (s = "")) (n := 1000) fun s hm => hw s ((List.mem_filter.mp hm).1)
    have h2 : c_sl.length = 1 := by decide +kernel
    refine ⟨_, D, _, rfl, rfl, Or.inl (SqL.of hd), ?_, hq H1 sm⟩
    show ((ws.filter fun s : Str => !decide (s = "")).map (·.length)).sum + (ws.filter fun s : Str => !decide (s = "")).length * c_sl.length ≤ 16777216
    rw [h2]; omega
end
end K5

set_option Elab.async false
set_option linter.all false
set_option maxRecDepth 100000
set_option maxHeartbeats 4000000
namespace LF
open PySem PySem.Spec PyProof.Rows L2 TL K5
theorem sub_chars (x : Str) (i j : Nat) : ∀ c ∈ (Builtin.Str.strSub x i j).cps.toList, c ∈ x.cps.toList := fun c hc => by
  have e := tl_strSub x i j
  have hc' : c ∈ tl (Builtin.Str.strSub x i j) := hc
  rw [e] at hc'
  exact List.mem_of_mem_drop (List.mem_of_mem_take hc')
theorem partsFrom_chars (x : Str) (w : Nat) : ∀ (cuts : List Nat) (a : Nat), ∀ p ∈ StrLaws.partsFrom x w a cuts, ∀ c ∈ p.cps.toList, c ∈ x.cps.toList
  | [], a, p, hp => by rw [List.mem_singleton.mp hp]; exact sub_chars x _ _
  | c :: r, a, p, hp => by
    rcases List.mem_cons.mp hp with rfl | hp'
    · exact sub_chars x _ _
    · exact partsFrom_chars x w r _ p hp'
theorem part_chars {x y a : Str} (h : a ∈ PySem.Txt.split x y) : ∀ c ∈ a.cps.toList, c ∈ x.cps.toList := by
  unfold PySem.Txt.split at h
  split at h
  · rw [List.mem_singleton.mp h]; exact fun c hc => hc
  · split at h
    · rw [List.mem_singleton.mp h]; exact fun c hc => hc
    · rw [StrLaws.partsBetween_eq] at h
      exact partsFrom_chars x _ _ _ a h
theorem strOk_iff {z : Str} : PyData.strOk z = true ↔ ∀ c ∈ z.cps.toList, c < 0x110000 := by
  unfold PyData.strOk
  rw [Array.all_eq_true']
  exact ⟨fun h c hc => of_decide_eq_true (h c (Array.mem_toList_iff.mp hc)), fun h c hc => decide_eq_true (h c (Array.mem_toList_iff.mpr hc))⟩
theorem strOk_sub {x y : Str} (h : PyData.strOk x = true) (hs : ∀ c ∈ y.cps.toList, c ∈ x.cps.toList) : PyData.strOk y = true := strOk_iff.mpr fun c hc => strOk_iff.mp h c (hs c hc)
theorem strOk_app {x y : Str} (hx : PyData.strOk x = true) (hy : PyData.strOk y = true) : PyData.strOk (x ++ y) = true := strOk_iff.mpr fun c hc => by
  have e := tl_append x y
  have hc' : c ∈ tl (x ++ y) := hc
  rw [e] at hc'
  exact (List.mem_append.mp hc').elim (strOk_iff.mp hx c) (strOk_iff.mp hy c)
theorem eqv_nil (l : List PyData) : PyData.eqv (.list l) (.list []) = decide (l = []) := by
  cases l with
  | nil => simp [PyData.eqv, PyData.eqvAll]
  | cons a l => simp [PyData.eqv, PyData.eqvAll]
end LF

set_option Elab.async false
set_option linter.all false
set_option maxRecDepth 100000
set_option maxHeartbeats 4000000
namespace K5
open PySem PySem.Spec PyProof.Rows L2 LF
/-- of plain signs alone -/
def Asc (z : Str) : Prop := ∀ c ∈ z.cps.toList, c < 128
theorem asc_all : ((List.range 128).all fun c => (Unicode.isAlpha c && Unicode.isLower c && !(Unicode.isUpper c || Unicode.isTitle c)) == decide (c ∈ letters.cps.toList)) = true := by decide +kernel
theorem asc_two : ((List.range 128).all fun c => !Unicode.isAlpha c || (Unicode.isLower c == !(Unicode.isUpper c || Unicode.isTitle c))) = true := by decide +kernel
theorem asc_is {c : Nat} (h : c < 128) : (Unicode.isAlpha c && Unicode.isLower c && !(Unicode.isUpper c || Unicode.isTitle c)) = decide (c ∈ letters.cps.toList) :=
  beq_iff_eq.mp (List.all_eq_true.mp asc_all c (List.mem_range.mpr h))
theorem asc_low {c : Nat} (h : c < 128) (ha : Unicode.isAlpha c = true) : Unicode.isLower c = !(Unicode.isUpper c || Unicode.isTitle c) := by
  have := List.all_eq_true.mp asc_two c (List.mem_range.mpr h)
  rw [ha] at this
  exact beq_iff_eq.mp (by simpa using this)
/-- what the law asks of a part -/
def partOk (z : Str) : Bool := decide (1 ≤ z.length ∧ z.length ≤ 8) && (PySem.Txt.isalpha z && PySem.Txt.islower z)
theorem part_is {z : Str} (h : Asc z) : partOk z = isNm z := by
  unfold partOk isNm
  by_cases hl : 1 ≤ z.length ∧ z.length ≤ 8
  · rw [decide_eq_true hl, Bool.true_and, Bool.true_and]
    unfold PySem.Txt.isalpha PySem.Txt.islower
    have h0 : z.length > 0 := hl.1
    have hne : z.cps.toList ≠ [] := fun e => by
      have h1 : z.cps.toList.length = z.length := by simp [Str.length]
      rw [e] at h1
      have h2 : ([] : List Nat).length = 0 := rfl
      omega
    rw [← Array.all_toList, ← Array.any_toList, ← Array.any_toList]
    unfold Asc at h
    generalize z.cps.toList = l at h hne
    rw [Bool.eq_iff_iff]
    simp only [Bool.and_eq_true, decide_eq_true_eq, List.all_eq_true, List.any_eq_true, Bool.not_eq_true']
    constructor
    · rintro ⟨⟨_, ha⟩, _, hn⟩ c hc
      have h1 := ha c hc
      have h3 : (Unicode.isUpper c || Unicode.isTitle c) = false := by
        cases hq : (Unicode.isUpper c || Unicode.isTitle c) with
        | false => rfl
        | true => exact absurd (List.any_eq_true.mpr ⟨c, hc, hq⟩) (by rw [hn]; exact Bool.false_ne_true)
      have h2 := asc_low (h c hc) h1
      have h4 := asc_is (h c hc)
      rw [h1, h2, h3] at h4
      exact of_decide_eq_true h4.symm
    · intro ha
      have each : ∀ c ∈ l, Unicode.isAlpha c = true ∧ Unicode.isLower c = true ∧ (Unicode.isUpper c || Unicode.isTitle c) = false := fun c hc => by
        have h4 := asc_is (h c hc)
        rw [decide_eq_true (ha c hc)] at h4
        simp only [Bool.and_eq_true, Bool.not_eq_true'] at h4
        exact ⟨h4.1.1, h4.1.2, h4.2⟩
      refine ⟨⟨h0, fun c hc => (each c hc).1⟩, ?_, ?_⟩
      · cases l with
        | nil => exact absurd rfl hne
        | cons a l => exact ⟨a, List.mem_cons_self, (each a List.mem_cons_self).2.1⟩
      · rw [List.any_eq_false]
        intro c hc
        rw [(each c hc).2.2]
        exact Bool.false_ne_true
  · rw [decide_eq_false hl]; rfl
theorem asc_part {z y : Str} (h : Asc z) (hy : y ∈ PySem.Txt.split z c_sl) : Asc y := fun c hc => h c (part_chars hy c hc)
theorem asc_ok {z : Str} (h : Asc z) : PyData.strOk z = true := strOk_iff.mpr fun c hc => Nat.lt_trans (h c hc) (by decide)
/-- a value that the law asks: a text of plain signs, or of another type -/
def isOkA (K : PySem.W.Frag) (H : Hp) (x : V) (b : Bool) : Prop :=
  (∃ z : Str, x = .str z ∧ z.length ≤ 1000000 ∧ Asc z ∧ b = isPt z) ∨ ((∃ t, TyX K H x t ∧ PySem.W.kitOne K t (.type "str") = some false) ∧ b = false)
def spAsk (K : PySem.W.Frag) : Sp := fun vs H Q _ => ∃ (x : V) (b : Bool), vs = [x] ∧ isOkA K H x b ∧ ∀ H', Same H H' → Q (.bl b) H'
abbrev s__law_is_path : Stmt := topS 51
abbrev N__law_is_path : List Str := ["_law_thing", "_law_wrong", "_law_part"]
theorem sc__law_is_path : FnScope ["_law_thing", "_law_wrong", "_law_part"] ["_law_thing"] (defScope s__law_is_path) := ⟨rfl, rfl, rfl, by decide +kernel, rfl, by decide +kernel, by decide +kernel⟩
section
variable {P : Program} {w : World} {K : PySem.W.Frag} {mg : Str → Option Value} {base : Heap} {tk1 tk2 : Tok}
theorem ok_ask {f : Addr} {fd : FuncData} (F : Fun K "_law_is_path" "_law_is_path" s__law_is_path f fd) (T : Txt K mg tk1 tk2) : FnOk P w K mg base CX0 1 f fd ["_law_thing"] (spAsk K) := by
  refine F.ok sc__law_is_path (fun vs H Q E h => ?_) (fun cdv A outer s H vs Q E hr h => ?_)
  · obtain ⟨x, b, rfl, _⟩ := h
    rfl
  have hu := hr.units
  refine ⟨_, (pss_cons (ps_if (pt_not (pt_val (pe_callB call_isi (by rfl) T.n_isinstance (by decide +kernel) (pa_cons (pv 0) (pa_cons (pe_bltn (v := .ty "str") (by rfl) T.n_str (by decide +kernel) rfl) pa_nil))))) (pss_one (ps_ret pe_bl)) pss_nil)
    (pss_cons (ps_setLc (i := 1) (own := [("_law_part", 2)]) rfl sc__law_is_path.nd rfl rfl (sw_true rfl rfl rfl (by decide +kernel)) (pi_list (pe_split (pv 0) pe_str)) (blkOk_by (N := N__law_is_path) (sc := defScope s__law_is_path) (by decide +kernel)) (fun _ _ _ _ _ => pg_name (i := 2) sc__law_is_path.nd rfl (Or.inl rfl)) (fun _ _ _ _ _ => (pts_one (PW.pt (pw_or (pt_not (pt_chain op_le op_le pe_int (pe_callB call_len_str (by rfl) T.n_len (by decide +kernel) (pa_cons (pv 2) pa_nil)) pe_int)) (pw_or (pt_not (pt_val (pe_m0 PySem.F.slot_str_isalpha PySem.F.type_str_isalpha mt_isalpha (pv 2)))) (pw_or1 (pt_not (pt_val (pe_m0 PySem.F.slot_str_islower PySem.F.type_str_islower mt_islower (pv 2)))))))))) (fun _ _ _ _ _ => (pv 2)))
    (pss_one (ps_ret (pe_or (pe_cmpR op_eq (pv 0) pe_str (nomark _)) (pe_one (pe_cmpR (op_eqD hu) (pv 1) (pe_lst pa_nil) (nomark _)))))))), ?_⟩
  obtain ⟨x, b, rfl, hx, hq⟩ := h
  rcases hx with ⟨z, rfl, hz, hasc, rfl⟩ | ⟨⟨t, ty, ht⟩, rfl⟩
  rotate_left
  · refine ⟨_, rfl, _, .ty "str", _, _, false, rfl, .ty _, ty, ht, ?_⟩
    exact ⟨_, rfl, iteT (hq H (Same.refl H))⟩
  refine ⟨_, rfl, _, .ty "str", _, _, true, rfl, .ty _, .base (.str _), kit_str, _, rfl, iteF ?_⟩
  have hbig := sizeLine_big
  refine ⟨_, rfl, ⟨_, rfl⟩, z, c_sl, rfl, rfl, sl_ne, by omega, fun p hp => ?_⟩
  have s0 : Same H (upd H p (.lst ((PySem.Txt.split z c_sl).map V.str))) := same_new hp
  refine ⟨p, rfl, ⟨_, SqL.of upd_same⟩, fun D hD => ?_⟩
  refine lc_filt (xs := (PySem.Txt.split z c_sl).map V.str) (fun x => match x with | .str y => !isNm y | _ => true) (fun x => x) hD (SqL.of upd_same) ?_ ?_ ?_ ?_
  · rw [List.length_map]
    have := split_le z c_sl
    omega
  · intro x H1 R hx sm hR
    obtain ⟨y, hy, rfl⟩ := List.mem_map.mp hx
    have hy1 : y.length ≤ 1000000 := Nat.le_trans (part_short hy) hz
    have hyl : y.length ≤ sizeLine := Nat.le_trans hy1 (by decide)
    have hR1 := hR H1 (Same.refl H1)
    have e0 : isNm y = partOk y := (part_is (asc_part hasc hy)).symm
    have hR2 : R (!partOk y) H1 := by
      rw [← e0]; exact hR1
    unfold partOk at hR2
    refine ⟨_, rfl, y, rfl, hyl, _, _, rfl, rfl, _, rfl, ?_⟩
    refine ifD (fun h1 => ?_) (fun h1 => ?_)
    · refine ⟨_, _, rfl, rfl, _, rfl, ?_⟩
      refine ifN (fun h2 => ?_) (fun h2 => ?_)
      · have hl : 1 ≤ y.length ∧ y.length ≤ 8 := by omega
        rw [decide_eq_true hl, Bool.true_and] at hR2
        refine ⟨_, rfl, ⟨_, rfl⟩, y, rfl, rfl, trivial, _, rfl, ?_⟩
        cases ha : PySem.Txt.isalpha y with
        | false =>
          rw [ha] at hR2
          exact iteT hR2
        | true =>
          rw [ha, Bool.true_and] at hR2
          exact iteF ⟨_, rfl, ⟨_, rfl⟩, y, rfl, rfl, trivial, _, rfl, hR2⟩
      · have hl : ¬ (1 ≤ y.length ∧ y.length ≤ 8) := by omega
        rw [decide_eq_false hl] at hR2
        exact hR2
    · have hl : ¬ (1 ≤ y.length ∧ y.length ≤ 8) := by omega
      rw [decide_eq_false hl] at hR2
      exact ⟨_, rfl, iteT hR2⟩
  · intro x H1 R hx _ sm hR
    exact ⟨_, rfl, hR H1 (Same.refl H1)⟩
  · intro H2 sm hd
    have em : (((PySem.Txt.split z c_sl).map V.str).filter fun x => match x with | .str y => !isNm y | _ => true).map (fun x => x) = ((PySem.Txt.split z c_sl).filter fun y => !isNm y).map V.str := by
      rw [List.map_id', List.filter_map]
      rfl
    rw [em] at hd
    have S2 := s0.trans sm
    refine ⟨_, rfl, rfl, _, rfl, ?_⟩
    rw [str_dec]
    refine ifD (fun h1 => ?_) (fun h1 => ?_)
    · have := hq _ S2
      unfold isPt at this
      rw [decide_eq_true h1] at this
      exact this
    · refine ⟨_, rfl, Nat.zero_le _, fun pe hpe => ?_⟩
      refine ⟨_, .list [], .lst (SqL.of (same_new hpe _ _ hd)) (dp_strs _), .lst (SqL.of upd_same) .nil, shaped_strs (fun s hs => asc_ok (asc_part hasc (List.mem_filter.mp hs).1)), by decide +kernel, ?_⟩
      rw [eqv_nil]
      have hfin := hq _ (S2.trans (same_new (o := .lst []) hpe))
      have he : isPt z = decide (((PySem.Txt.split z c_sl).filter fun y => !isNm y).map PyData.str = []) := by
        unfold isPt
        rw [decide_eq_false h1, Bool.false_or, Bool.eq_iff_iff, List.all_eq_true, decide_eq_true_eq, List.map_eq_nil_iff, List.filter_eq_nil_iff]
        simp
      rw [he] at hfin
      exact hfin
end
end K5

set_option Elab.async false
set_option linter.all false
set_option maxRecDepth 100000
set_option maxHeartbeats 4000000
namespace K5
open PySem PySem.Spec PyProof.Rows L2 LF
/-- a path of these many names at most -/
def Nms (n : Nat) (ns : List Str) : Prop := ns.length ≤ n ∧ ∀ s ∈ ns, isNm s = true
def spStarts : Sp := fun vs H Q _ => ∃ (ns : List Str), vs = [.str (jn ns)] ∧ Nms 100 ns ∧ ∀ H' p, Same H H' → H p = none → H' p = some (.lst ((begs (jn ns)).map V.str)) → Q (.ref p) H'
abbrev s__law_starts : Stmt := topS 53
abbrev N__law_starts : List Str := ["_law_path_here", "_law_bits", "_law_many"]
theorem sc__law_starts : FnScope ["_law_path_here", "_law_bits", "_law_many"] ["_law_path_here"] (defScope s__law_starts) := ⟨rfl, rfl, rfl, by decide +kernel, rfl, by decide +kernel, by decide +kernel⟩
theorem begs_jn {ns : List Str} (hn : ∀ s ∈ ns, isNm s = true) : begs (jn ns) = (List.range (ns.length - 1)).map fun i => jn (ns.take (i + 1)) := by
  unfold begs
  rw [parts_join hn]
theorem split_facts {ns : List Str} (h : Nms 100 ns) : ∃ ss, PySem.Txt.split (jn ns) "/" = ss ∧ ss.length - 1 = ns.length - 1 ∧ 1 ≤ ss.length ∧ ss.length ≤ 100 ∧ (∀ s ∈ ss, s.length ≤ 8) ∧ ∀ i, i < ns.length - 1 → ss.take (i + 1) = ns.take (i + 1) := by
  refine ⟨_, rfl, ?_⟩
  by_cases hne : ns = []
  · subst hne
    have e : PySem.Txt.split (jn []) "/" = [("" : Str)] := by
      show PySem.Txt.split (PySem.Txt.join c_sl []) "/" = _
      rw [join_nil0]
      decide +kernel
    rw [e]
    refine ⟨rfl, by decide, by decide, fun s hs => ?_, fun i hi => absurd hi (Nat.not_lt_zero _)⟩
    rw [List.mem_singleton.mp hs]
    decide +kernel
  · have e : PySem.Txt.split (jn ns) "/" = ns := split_names hne h.2
    rw [e]
    exact ⟨rfl, List.length_pos_iff.mpr hne, h.1, fun s hs => (isNm_len (h.2 s hs)).2, fun i _ => rfl⟩
section
variable {P : Program} {w : World} {K : PySem.W.Frag} {mg : Str → Option Value} {base : Heap} {tk1 tk2 : Tok}
theorem ok_starts {f : Addr} {fd : FuncData} (F : Fun K "_law_starts" "_law_starts" s__law_starts f fd) (T : Txt K mg tk1 tk2) : FnOk P w K mg base CX0 1 f fd ["_law_path_here"] spStarts := by
  refine F.ok sc__law_starts (fun vs H Q E h => ?_) (fun cdv A outer s H vs Q E hr h => ?_)
  · obtain ⟨ns, rfl, _⟩ := h
    rfl
  refine ⟨_, (pss_cons (ps_set (i := 1) sc__law_starts.nd rfl (Or.inr rfl) (pe_split (pv 0) pe_str))
    (pss_one (ps_ret (pe_lc (own := [("_law_many", 2)]) rfl sc__law_starts.nd (pi_range2 (by rfl) T.n_range (pa_cons pe_int (pa_cons (pe_callB call_len_seq (by rfl) T.n_len (by decide +kernel) (pa_cons (pv 1) pa_nil)) pa_nil))) (blkOk_by (N := N__law_starts) (sc := defScope s__law_starts) (by decide +kernel)) (fun _ _ _ _ _ => pg_name (i := 2) sc__law_starts.nd rfl (Or.inl rfl)) (fun _ _ _ _ _ => pts_nil) (fun _ _ _ _ _ => (pe_m1 PySem.F.slot_str_join PySem.F.type_str_join (show MtR _ "str.join" (rJoin K) from mt_join) pe_str (pe_slice (show SlR _ (rSlL K) from sl_list) (pv 1) po_none (po_some (pv 2))) rfl rfl rfl)))))), ?_⟩
  obtain ⟨ns, rfl, hN, hq⟩ := h
  obtain ⟨ss, es, e1, e2, e3, e4, e5⟩ := split_facts hN
  have hjl := join_len_le hN.2
  have hl1 := hN.1
  have hbig := sizeLine_big
  have hz : (jn ns).length + 2 ≤ sizeLine := by show (PySem.Txt.join c_sl ns).length + 2 ≤ sizeLine; omega
  refine ⟨_, rfl, ⟨_, rfl⟩, jn ns, "/", rfl, rfl, (by decide +kernel), hz, fun pp hpp => ?_⟩
  rw [es]
  have s1 : Same H (upd H pp (.lst (ss.map V.str))) := same_new hpp
  have hp1 : (upd H pp (.lst (ss.map V.str))) pp = some (.lst (ss.map V.str)) := upd_same
  refine ⟨_, rfl, pp, _, rfl, Or.inl (SqL.of hp1), ?_⟩
  rw [List.length_map]
  generalize (upd H pp (.lst (ss.map V.str))) = H1 at s1 hp1
  refine ⟨1, ss.length, rfl, ⟨by decide, by decide, by omega, by omega⟩, fun D hD => ?_⟩
  have en : ((ss.length : Int) - 1).toNat = ns.length - 1 := by omega
  rw [en]
  have eb := begs_jn hN.2
  refine lc_it walk_range (fun i H' => Same H1 H' ∧ H' D = some (.lst (((begs (jn ns)).take i).map V.str))) ⟨same_new hD, by rw [upd_same]; rfl⟩ (fun _ _ _ _ => trivial) ?_ ?_
  · rintro i x H2 H3 hi ⟨sm, hd⟩ ⟨rfl, rfl⟩
    refine ⟨rfl, ?_⟩
    have hb : (begs (jn ns))[i]? = some (jn (ns.take (i + 1))) := by rw [eb, List.getElem?_map, List.getElem?_range hi]; rfl
    refine ⟨⟨_, rfl⟩, _, rfl, _, rfl, _, rfl, pp, _, rfl, SqL.of (sm _ _ hp1), fun ps hps => ?_⟩
    have ei : (1 : Int) + (i : Int) = ((i + 1 : Nat) : Int) := by omega
    rw [ei, cut_head, e5 i hi]
    have hsum := sum_le (ss := ns.take (i + 1)) (n := 8) fun s hs => (isNm_len (hN.2 s (List.mem_of_mem_take hs))).2
    have hlt : (ns.take (i + 1)).length ≤ 100 := by rw [List.length_take]; omega
    have c1 : c_sl.length = 1 := by decide +kernel
    refine ⟨_, ps, ns.take (i + 1), rfl, rfl, Or.inl (SqL.of upd_same), ?_, ?_⟩
    · show ((ns.take (i + 1)).map (·.length)).sum + (ns.take (i + 1)).length * c_sl.length ≤ 16777216
      rw [c1]; omega
    have hnD : ps ≠ D := Ne.symm (ne_of_none hd hps)
    refine ⟨_, same_new hps _ _ hd, ?_, fun b o e => ?_, ?_⟩
    · rw [List.length_map, List.length_take]
      exact Nat.lt_of_le_of_lt (show _ ≤ 100 by omega) (by decide)
    · rw [upd_ne (ne_of_none e hD)]
      exact same_new hps _ _ (sm _ _ e)
    · have et : (begs (jn ns)).take (i + 1) = (begs (jn ns)).take i ++ [jn (ns.take (i + 1))] := by rw [List.take_add_one, hb]; rfl
      rw [upd_same, et, List.map_append]; rfl
  · rintro H2 ⟨sm, hd⟩
    have hl : (begs (jn ns)).length = ns.length - 1 := by rw [eb, List.length_map, List.length_range]
    rw [List.take_of_length_le (by omega)] at hd
    refine hq H2 D (s1.trans sm) ?_ hd
    exact s1.free hD
end
end K5

set_option Elab.async false
set_option linter.all false
set_option maxRecDepth 100000
set_option maxHeartbeats 4000000
namespace LF
open PySem PySem.Spec PyProof.Rows L2
/-! sets of texts: made of a list, sorted -/
def tkey (e : Int × Value) : Str := match e.2 with | .str z _ => z | _ => ""
def Tx (w : World) (e : Int × Value) : Prop := ∃ z q, e.2 = Value.str z q ∧ e.1 = hashStr w z
/-- the set at a holds just the texts of L; its table can be walked -/
structure TSet (w : World) (h : Heap) (a : Addr) (L : List Str) (o : Obj) (es : Array (Int × Value)) (ep : Nat) (t : SetTable) : Prop where
  ob : h.get? a = some o
  ex : o.ExactSet
  dat : o.data = .set es ep t
  tx : ∀ e ∈ es.toList, Tx w e
  pm : (es.toList.map tkey).Perm L
  nd : L.Nodup
  few : es.size < scanBound
  fit : t.fits es.size = true
  ris : Ris t.place.toList
  led : w.params.followText "set-order" = true ∨ t.led = true
def TSetAt (w : World) (h : Heap) (a : Addr) (L : List Str) : Prop := ∃ o es ep t, TSet w h a L o es ep t
section
variable {P : Program} {w : World} {h h' : Heap} {a : Addr} {L : List Str} {o : Obj} {es : Array (Int × Value)} {ep : Nat} {t : SetTable}
theorem TSetAt.at (R : TSetAt w h a L) (k : ∀ o, h.get? a = some o → h'.get? a = some o) : TSetAt w h' a L := by
  obtain ⟨o, es, ep, t, T⟩ := R
  exact ⟨o, es, ep, t, { T with ob := k o T.ob }⟩
theorem Tx.is {e : Int × Value} (x : Tx w e) (z : Str) : (strKind P w).is z e.2 = true ↔ tkey e = z := by
  obtain ⟨y, q, e1, _⟩ := x
  unfold tkey
  rw [e1]
  constructor
  · intro hz
    have := (strKind P w).inj _ _ _ hz (strKind_is P w y q)
    exact this.symm
  · rintro rfl
    exact strKind_is P w _ q
theorem TSet.elems (T : TSet w h a L o es ep t) : ElemsOf (strKind P w) es.toList := fun e he => by
  obtain ⟨y, q, e1, e2⟩ := T.tx e he
  exact ⟨⟨y, by rw [e1]; exact strKind_is P w y q, e2⟩, by rw [e1]; rfl⟩
theorem TSet.size (T : TSet w h a L o es ep t) : es.size = L.length := by
  have q := T.pm.length_eq
  rw [List.length_map, Array.length_toList] at q
  exact q
theorem tset_new (w : World) : TSetAt w (h.push { cls := .type "set", dict := none, data := .set #[] 0 (.fresh 0 0 (!w.params.followText "set-order")) }) h.objs.size [] :=
  ⟨_, #[], 0, _, ⟨Heap.get?_push_size _ rfl, ⟨rfl, rfl, rfl⟩, rfl, fun e he => by simp at he, by simp, List.nodup_nil, by decide, rfl, List.Pairwise.nil, by
    cases hq : w.params.followText "set-order"
    · exact Or.inr rfl
    · exact Or.inl rfl⟩⟩
end
section
variable {P : Program} {w : World} {A : Around} {E : Value → Shared → Prop} {s : Shared} {a : Addr} {L : List Str}
/-- what stands at a set's place when its table is laid anew -/
theorem put_set {h : Heap} {o : Obj} {es es' : Array (Int × Value)} {ep : Nat} {t t' : SetTable} (ho : h.get? a = some o) (hd : o.data = .set es ep t) : (h.update a (Obj.putSet es' t')).get? a = some { o with data := .set es' (ep + 1) t' } := L2.store_at ho hd
/-- the new text is laid: the table is stored, and grown if it is too full -/
theorem tset_lay {g : Bool → Sem Unit} (hg : ∀ (b : Bool) (u : Shared) (W : Unit → Shared → Prop), W () u → wpAny (model P w) A (g b) W E u)
    {o : Obj} {es : Array (Int × Value)} {ep : Nat} {t : SetTable} (ho : s.heap.get? a = some o) (hx : o.ExactSet) (hd : o.data = .set es ep t)
    {fs : Array (Int × Value)} {u : SetTable} (tx : ∀ e ∈ fs.toList, Tx w e) (pm : (fs.toList.map tkey).Perm L) (nd : L.Nodup) (few : fs.size < scanBound) (fit : u.fits fs.size = true) (ris : Ris u.place.toList)
    (led : w.params.followText "set-order" = true ∨ u.led = true) {dm : Bool} {R : Option Bool → Shared → Prop} (hR : ∀ h', Heap.SameBut a s.heap h' → TSetAt w h' a L → R (some true) { s with heap := h' }) :
    wpAny (model P w) A (do
        storeSet a fs u
        if (!dm && u.tooFull) = true then do
            g (relayAll u fs (SetTable.grown fs.size)).2.2
            storeSet a (relayAll u fs (SetTable.grown fs.size)).1 (relayAll u fs (SetTable.grown fs.size)).2.1
            pure (some true)
          else pure (some true)) R E s := by
  have h1 := put_set (es' := fs) (t' := u) ho hd
  have b1 := Heap.SameBut.update s.heap a (Obj.putSet fs u)
  refine wpAny_bind (wpAny_storeSet_of ho hd ?_ (fits_of_scanBound few))
  by_cases hc : (!dm && u.tooFull) = true
  · rw [if_pos hc]
    have p2 := relayAll_perm u fs (SetTable.grown fs.size)
    have f2 := relayAll_fits u fs (SetTable.grown fs.size)
    have r2 := relayAll_ris u fs (SetTable.grown fs.size)
    have l2 := relayAll_led u fs (SetTable.grown fs.size)
    generalize relayAll u fs (SetTable.grown fs.size) = Y at p2 f2 r2 l2 ⊢
    obtain ⟨gs, v, gv⟩ := Y
    dsimp only at p2 f2 r2 l2 ⊢
    have z2 : gs.size = fs.size := by rw [← Array.length_toList, ← Array.length_toList]; exact p2.length_eq
    have few2 : gs.size < scanBound := by rw [z2]; exact few
    refine wpAny_bind (hg _ _ _ (wpAny_bind (wpAny_storeSet_of h1 rfl ?_ (fits_of_scanBound few2))))
    refine wpAny_pure (hR _ (b1.trans (Heap.SameBut.update _ a _)) ⟨_, gs, _, v, ⟨put_set (es' := gs) (t' := v) h1 rfl, hx, rfl, fun e he => tx e (p2.mem_iff.mp he), (p2.map tkey).trans pm, nd, few2, f2, r2, ?_⟩⟩)
    rcases led with q | q
    · exact Or.inl q
    · exact Or.inr (by rw [l2]; exact q)
  · rw [if_neg hc]
    exact wpAny_pure (hR _ b1 ⟨_, fs, _, u, ⟨h1, hx, rfl, tx, pm, nd, few, fit, ris, led⟩⟩)
/-- a text is added -/
theorem tset_hashed {z : Str} {q : Tok} {Q : Bool → Shared → Prop} (R : TSetAt w s.heap a L) (room : L.length + 1 < scanBound)
    (hQ : ∀ h', Heap.SameBut a s.heap h' → TSetAt w h' a (if z ∈ L then L else z :: L) → Q (!decide (z ∈ L)) { s with heap := h' }) :
    wpAny (model P w) A (setAddHashed a (.str z q) (hashStr w z)) Q E s := by
  obtain ⟨o, es, ep, t, T⟩ := R
  have hkey : (strKind P w).is z (.str z q) = true := strKind_is P w z q
  have hsc : (Value.str z q).scannable = true := rfl
  have hel : ElemsOf (strKind P w) es.toList := T.elems
  have hsize := T.size
  unfold setAddHashed setAddHashedIn
  refine wpAny_holding (wpAny_bind (wpAny_setState_of T.ob T.dat T.fit ?_))
  dsimp only
  rw [byScan_of hsc T.few hel, if_pos rfl]
  unfold setAddByScan
  refine wpAny_bind (wpAny_bind (wpAny_rule (wpAny_bind (wpAny_setScan_of hkey T.ob T.dat T.fit hel ?_))))
  cases hf : List.findIdx? (fun e => (strKind P w).is z e.2) es.toList with
  | some j =>
    dsimp only
    obtain ⟨hj, pj, _⟩ := List.findIdx?_eq_some_iff_getElem.mp hf
    have hz : z ∈ L := T.pm.mem_iff.mp (List.mem_map.mpr ⟨es.toList[j], List.getElem_mem hj, ((T.tx _ (List.getElem_mem hj)).is (P := P) z).mp pj⟩)
    have hh := hQ s.heap (Heap.SameBut.refl a s.heap)
    rw [if_pos hz, decide_eq_true hz] at hh
    exact wpAny_pure (wpAny_pure (hh ⟨o, es, ep, t, T⟩))
  | none =>
    dsimp only
    have hz : z ∉ L := fun hm => by
      obtain ⟨e, he, e1⟩ := List.mem_map.mp (T.pm.mem_iff.mpr hm)
      have c := List.findIdx?_eq_none_iff.mp hf e he
      rw [((T.tx e he).is (P := P) z).mpr e1] at c
      cases c
    have fin : ∀ h', Heap.SameBut a s.heap h' → TSetAt w h' a (z :: L) → Q true { s with heap := h' } := fun h' sb r => by
      have hh := hQ h' sb
      rw [if_neg hz, decide_eq_false hz] at hh
      exact hh r
    have hgw : ∀ (b : Bool) {u : Shared} {W : Unit → Shared → Prop}, W () u → wpAny (model P w) A (match b with | true => rule "set.scan.the-table-gave-way" | false => pure ()) W E u := fun b u W c => by
      cases b
      · exact wpAny_pure c
      · exact wpAny_rule c
    have p1 := layNew_perm t es ((strKind P w).hash z) (.str z q)
    have f1 := layNew_fits t es ((strKind P w).hash z) (.str z q)
    have r1 := layNew_ris t es ((strKind P w).hash z) (.str z q) T.ris
    have l1 := layNew_led t es ((strKind P w).hash z) (.str z q)
    show wpAny _ _ _ _ _ _
    have eh : hashStr w z = (strKind P w).hash z := rfl
    rw [eh]
    generalize layNew t es ((strKind P w).hash z) (.str z q) = Y at p1 f1 r1 l1 ⊢
    obtain ⟨fs, u, dm, gv⟩ := Y
    dsimp only at p1 f1 r1 l1 ⊢
    rw [Array.toList_push] at p1
    have pc : fs.toList.Perm ((hashStr w z, Value.str z q) :: es.toList) := p1.trans (List.perm_append_singleton _ _)
    have tx : ∀ e ∈ fs.toList, Tx w e := fun e he => by
      rcases List.mem_cons.mp (pc.mem_iff.mp he) with c | c
      · exact ⟨z, q, by rw [c], by rw [c]⟩
      · exact T.tx e c
    have pk : (fs.toList.map tkey).Perm (z :: L) := (pc.map tkey).trans (List.Perm.cons z T.pm)
    have zs : fs.size = L.length + 1 := by
      have c := pk.length_eq
      rw [List.length_map, Array.length_toList, List.length_cons] at c
      exact c
    have few : fs.size < scanBound := by rw [zs]; exact room
    have nd : (z :: L).Nodup := List.nodup_cons.mpr ⟨hz, T.nd⟩
    have led : w.params.followText "set-order" = true ∨ u.led = true := T.led.imp id fun c => by rw [l1]; exact c
    refine wpAny_bind (hgw _ ?_)
    have hg : ∀ (b : Bool) (u : Shared) (W : Unit → Shared → Prop), W () u → wpAny (model P w) A (match b with | true => rule "set.scan.the-table-gave-way" | false => pure ()) W E u := fun b u W c => hgw b c
    split
    · refine wpAny_bind ?_
      rw [hashByValue_scannable 8 hsc]
      refine wpAny_pure ?_
      refine tset_lay (L := z :: L) ?_ T.ob T.ex T.dat tx pk nd few ?_ ?_ ?_ ?_
      · intro b u W c
        cases b
        · exact wpAny_pure c
        · exact wpAny_rule c
      · first | exact f1 | (split <;> first | exact f1 | exact SetTable.fits_plain_off f1)
      · first | exact r1 | (split <;> exact r1)
      · first | exact led | (split <;> exact led)
      · intro h' sb r
        dsimp only
        exact wpAny_pure (fin h' sb r)
    · refine wpAny_bind (wpAny_pure ?_)
      simp only [↓reduceIte]
      refine tset_lay (L := z :: L) ?_ T.ob T.ex T.dat tx pk nd few f1 r1 led ?_
      · intro b u W c
        cases b
        · exact wpAny_pure c
        · exact wpAny_rule c
      · intro h' sb r
        dsimp only
        exact wpAny_pure (fin h' sb r)
end
end LF

set_option Elab.async false
set_option linter.all false
set_option maxRecDepth 100000
set_option maxHeartbeats 4000000
namespace LF
open PySem PySem.Spec PyProof.Rows L2
/-- the texts of a list, each once: the last that came stands first -/
def once : List Str → List Str → List Str
  | L, [] => L
  | L, z :: r => once (if z ∈ L then L else z :: L) r
theorem once_app : ∀ (xs ys L : List Str), once L (xs ++ ys) = once (once L xs) ys
  | [], _, _ => rfl
  | x :: xs, ys, L => once_app xs ys _
theorem mem_once : ∀ (xs L : List Str) (z : Str), z ∈ once L xs ↔ z ∈ L ∨ z ∈ xs
  | [], L, z => by simp [once]
  | x :: xs, L, z => by
    unfold once
    rw [mem_once xs]
    by_cases h : x ∈ L
    · rw [if_pos h, List.mem_cons]
      constructor
      · rintro (q | q)
        · exact Or.inl q
        · exact Or.inr (Or.inr q)
      · rintro (q | rfl | q)
        · exact Or.inl q
        · exact Or.inl h
        · exact Or.inr q
    · rw [if_neg h, List.mem_cons, List.mem_cons]
      constructor
      · rintro ((q | q) | q)
        · exact Or.inr (Or.inl q)
        · exact Or.inl q
        · exact Or.inr (Or.inr q)
      · rintro (q | q | q)
        · exact Or.inl (Or.inr q)
        · exact Or.inl (Or.inl q)
        · exact Or.inr q
theorem once_len : ∀ (xs L : List Str), (once L xs).length ≤ L.length + xs.length
  | [], L => Nat.le_refl _
  | x :: xs, L => by
    unfold once
    refine Nat.le_trans (once_len xs _) ?_
    rw [List.length_cons]
    split
    · omega
    · rw [List.length_cons]; omega
theorem once_nodup : ∀ (xs L : List Str), L.Nodup → (once L xs).Nodup
  | [], L, h => h
  | x :: xs, L, h => by
    unfold once
    refine once_nodup xs _ ?_
    split
    · exact h
    · rename_i q
      exact List.nodup_cons.mpr ⟨q, h⟩
theorem once_next {ws : List Str} {i : Nat} {z : Str} (h : ws[i]? = some z) (L : List Str) : once L (ws.take (i + 1)) = (if z ∈ once L (ws.take i) then once L (ws.take i) else z :: once L (ws.take i)) := by
  rw [List.take_add_one, h]
  show once L (ws.take i ++ [z]) = _
  rw [once_app]; rfl
section
variable {P : Program} {w : World} {A : Around} {E : Value → Shared → Prop} {s : Shared}
/-- the loop of set.update: one text a turn -/
theorem tset_loop {I : Addr} {fp wr : List Addr} {G : Array GenState → Array GenState → Prop} {n : Nat} {Pv : Nat → Value → Prop} {St : Nat → Shared → Prop} {R : Result → Shared → Prop}
    (W : WalksS P w A.in1 I fp wr G n Pv St) (S : Addr) (apart : S ∉ fp) (ws : List Str) (hn : n = ws.length) (room : ws.length + 1 < scanBound) (val : ∀ i v, Pv i v → ∃ z q, ws[i]? = some z ∧ v = .str z q) :
    ∀ (left i : Nat) (u : Shared), n - i = left → i ≤ n → St i u → TSetAt w u.heap S (once [] (ws.take i)) →
      (∀ u', Moved (S :: wr) G u u' → TSetAt w u'.heap S (once [] ws) → R (.ok (.ret .none)) u') → codeAny (model P w) A (.builtin "set.update.loop" ⟨[.ref S, .ref I], []⟩) R u := by
  have Swr : S ∉ wr := fun c => apart (W.sub _ c)
  have wide : ∀ b ∈ wr, b ∈ S :: wr := fun b c => List.mem_cons_of_mem _ c
  intro left
  induction left with
  | zero =>
    intro i u hl hi st T hR
    obtain rfl : i = n := by omega
    refine codeAny_builtin F.entry_set_update_loop ?_
    rw [Around.under_plainId F.plain_set_update_loop _]
    show wpAny _ A.in1 (pyNext (.ref I) >>= _) _ _ u
    refine wpAny_bind (W.done u _ _ st fun u' mv => ?_)
    show wpAny _ A.in1 (ret Value.none) _ _ u'
    rw [hn, List.take_length] at T
    exact wpAny_pure (hR u' (mv.mono wide) (T.at fun o e => mv.heap S o Swr e))
  | succ left ih =>
    intro i u hl hi st T hR
    have lt : i < n := by omega
    refine codeAny_builtin F.entry_set_update_loop ?_
    rw [Around.under_plainId F.plain_set_update_loop _]
    show wpAny _ A.in1 (pyNext (.ref I) >>= _) _ _ u
    refine wpAny_bind (W.item i u _ _ lt st fun v u' hv st' mv => ?_)
    obtain ⟨z, q, hz, rfl⟩ := val i v hv
    have T' := T.at (h' := u'.heap) fun o e => mv.heap S o Swr e
    have nx := once_next hz []
    have few := once_len (ws.take i) []
    rw [List.length_take] at few
    generalize once [] (ws.take i) = D at T' nx few
    show wpAny _ A.in1 (holding [Value.str z q] (setAdd S (.str z q)) >>= _) _ _ u'
    refine wpAny_bind (wpAny_holding ?_)
    unfold setAdd
    refine wpAny_holding ?_
    refine wpAny_bind ((strKind P w).pyHash (strKind_is P w z q) ?_)
    refine tset_hashed (s := { u' with toks := u'.toks + 1 }) T' (by have h0 : ([] : List Str).length = 0 := rfl; omega) fun h' sb T2 => ?_
    rw [← nx] at T2
    have off : ∀ b o, b ≠ S → u'.heap.get? b = some o → h'.get? b = some o := fun b o c e => (sb.2 b c).trans e
    refine wpAny_pure ⟨plainId_quiet F.plain_set_update_loop _, ih (i + 1) _ (by omega) lt (W.frame _ u' _ _ st' (Nat.le_succ _) fun b c o e => off b o (fun c2 : b = S => apart (by rw [← c2]; exact c)) e) T2 fun u2 mv2 T3 => ?_⟩
    refine hR u2 (Moved.trans W.gtrans ((mv.mono wide).then_heap (Nat.le_succ _) fun b o c e => off b o (fun c2 : b = S => c (by rw [c2]; exact List.mem_cons_self)) e) mv2) T3
end
end LF

set_option Elab.async false
set_option linter.all false
set_option maxRecDepth 100000
set_option maxHeartbeats 4000000
namespace LF
open PySem PySem.Spec PyProof.Rows L2
section
variable {P : Program} {w : World} {A : Around} {E : Value → Shared → Prop} {s : Shared}
set_option maxHeartbeats 8000000 in
/-- set(xs), xs a list of texts -/
theorem tset_call {l : Addr} {items : Array Value} (ws : List Str) {Q : Value → Shared → Prop} (calm : A.handled = none) (hl : s.heap.IsList l items) (hit : StrsAre items.toList ws) (room : ws.length + 1 < scanBound)
    (hq : ∀ (h' : Heap) (tk : Nat), TSetAt w h' s.heap.objs.size (once [] ws) → (∀ b o, s.heap.get? b = some o → h'.get? b = some o) → Q (.ref s.heap.objs.size) { s with heap := h', toks := tk }) :
    wpAny (model P w) A (call (.type "set") [.ref l]) Q E s := by
  have isz : items.size = ws.length := by
    have c := hit.length
    rw [Array.length_toList] at c
    exact c
  obtain ⟨c0, t0, mro⟩ := F.called_set.mro
  have m1 := F.called_set.made
  have m2 := F.called_set.sub
  have m3 := F.called_set.notType
  have m4 := F.called_set.canCreate
  have m5 := F.typeCall_set_1 (.ref l)
  refine wpAny_call (codeAny_of_tree ?_)
  show wpAny _ _ (callAny (.type "set") _) _ _ _
  refine wpAny_pure ⟨Code.quiet_builtin _ (by decide +kernel), codeAny_builtin F.entry_type_call ?_⟩
  rw [Around.under_plain (weight_type_call_type "set" [.ref l] []) rfl]
  repeat (any_goals (first | assumption | wp_step))
  generalize ho0 : ({ cls := .type "set", dict := none, data := .set #[] 0 (.fresh 0 0 (!w.params.followText "set-order")) } : Obj) = o0
  have R0 : TSetAt w (s.heap.push o0) s.heap.objs.size [] := by rw [← ho0]; exact tset_new w
  have hcls : o0.cls = .type "set" := by rw [← ho0]
  have hfr : o0.isFreed = false := by rw [← ho0]; rfl
  refine codeAny_mono (code_set_led1 (.ref l) (E := E) (Q₁ := fun ob u => ob = .ref s.heap.objs.size ∧ u = { s with heap := s.heap.push o0 }) (by rw [ho0]; exact ⟨rfl, rfl⟩)) fun r u hr => ?_
  cases r with
  | error e => exact hr
  | ok fl =>
    cases fl with
    | ret ob =>
      obtain ⟨rfl, rfl⟩ := hr
      have hS : (s.heap.push o0).get? s.heap.objs.size = some o0 := Heap.get?_push_size _ hfr
      have hT : Shared.TypeIs { s with heap := s.heap.push o0 } (.ref s.heap.objs.size) "set" := ⟨_, hS, hcls⟩
      have hli := F.called_set.init.lookup
      have hbi := F.called_set.init.bind (.ref s.heap.objs.size)
      repeat (any_goals (first | assumption | wp_step))
      refine codeAny_mono (codeAny_call_builtin (R := wants (fun r u2 => r = .none ∧ ∃ h' tk, u2 = { s with heap := h', toks := tk } ∧ TSetAt w h' s.heap.objs.size (once [] ws) ∧ (∀ b o, s.heap.get? b = some o → h'.get? b = some o)) E) F.called_set.init.plain F.entry_set_init (check_set_init_1 hT ?_)) fun r2 u2 hr2 => ?_
      · obtain ⟨ol, hol, hcl, nl, hdl⟩ := hl
        obtain ⟨oc, od, oda, osl⟩ := ol
        simp only at hcl hdl
        subst hcl
        subst hdl
        have hol1 : (s.heap.push o0).get? l = some { cls := .type "list", dict := od, data := .seq items nl, slots := osl } := Heap.get?_push_of_some _ hol
        have n1 := F.sub_list_set
        have n2 := F.sub_list_frozenset
        have n3 : (Value.type "list" == Value.type "dict") = false := by decide
        have hl1 : (s.heap.push o0).IsList l items := ⟨_, hol1, rfl, nl, rfl⟩
        have lt : l < s.heap.objs.size := Heap.lt_size hol
        have c3 : A.in1.in1.in1.handled = none := by simp [calm]
        have z1 : (s.heap.push o0).objs.size = s.heap.objs.size + 1 := Heap.size_push ..
        have neI : l ≠ (s.heap.push o0).objs.size := by rw [z1]; exact Nat.ne_of_lt (Nat.lt_succ_of_lt lt)
        have apart : s.heap.objs.size ∉ [(s.heap.push o0).objs.size, l] := by
          rw [z1]
          simp only [List.mem_cons, List.mem_singleton, List.not_mem_nil, or_false, not_or]
          exact ⟨Nat.ne_of_lt (Nat.lt_succ_self _), Nat.ne_of_gt lt⟩
        have val : ∀ (i : Nat) (v : Value), items[i]? = some v → ∃ z q, ws[i]? = some z ∧ v = .str z q := fun i v hv => by
          have e1 : items.toList[i]? = some v := by rw [Array.getElem?_toList]; exact hv
          obtain ⟨z, q, rfl⟩ := hit.all v (List.mem_of_getElem? e1)
          refine ⟨z, q, ?_, rfl⟩
          rw [← hit.strs, List.getElem?_map, e1]; rfl
        have hin : ∀ b o, s.heap.get? b = some o → b < s.heap.objs.size := fun b o e => Heap.lt_size e
        subst ho0
        unfold Builtin.«set.__init__» noKeywords Builtin.Frozenset.updateFrom
        generalize hPI : pyIter = PI
        wp_walk
        subst hPI
        refine wpAny_pyIter_list hl1 ?_
        refine wpAny_bind (wpAny_runValue ?_)
        refine tset_loop ((Walks.list c3 _ l neI items).toS) s.heap.objs.size apart ws isz room val (items.size - 0) 0 _ (by omega) (Nat.zero_le _)
          ⟨⟨_, Heap.get?_push_size _ rfl, rfl, rfl⟩, (hl1.push _)⟩ (R0.at fun o e => Heap.get?_push_of_some _ e) fun u' mv T => ?_
        obtain ⟨h', g', d', tk', os'⟩ := u'
        have eg : g' = s.gens := mv.gens
        have ed : d' = s.drawn := mv.drawn
        have eo : os' = s.os := mv.os
        subst eg
        subst ed
        subst eo
        refine wpAny_pure ?_
        show wpAny _ _ (ret Value.none) _ _ _
        refine wpAny_pure ⟨rfl, h', tk', rfl, T, fun b o e => ?_⟩
        have ltb := Heap.lt_size e
        refine mv.heap b o (fun c => ?_) (Heap.get?_push_of_some _ (Heap.get?_push_of_some _ e))
        rcases List.mem_cons.mp c with c | c
        · exact absurd c (Nat.ne_of_lt ltb)
        · have c1 := List.mem_singleton.mp c
          rw [z1] at c1
          exact absurd c1 (Nat.ne_of_lt (Nat.lt_succ_of_lt ltb))
      · cases r2 with
        | error e => exact hr2
        | ok fl2 =>
          cases fl2 with
          | ret r =>
            obtain ⟨rfl, h', tk, rfl, T, k⟩ := hr2
            repeat (any_goals (first | assumption | wp_step))
            exact hq _ _ T k
          | _ => exact hr2.elim
    | _ => exact hr.elim
/-- sorted(found): its texts in some order, each once -/
theorem tset_sorted {a : Addr} {L : List Str} {Q : Value → Shared → Prop} (R : TSetAt w s.heap a L) (calm : A.handled = none) (hu : A.units + 64 < cLine)
    (hq : ∀ u p (out : List Value) (c : Nat) (ws : List Str), (∀ b o, s.heap.get? b = some o → u.heap.get? b = some o) → u.gens = s.gens → u.os = s.os → s.heap.objs.size ≤ p →
      u.heap.get? p = some (seqObj "list" out.toArray c) → PySem.W.EachIs (fun v z => ∃ q, v = Value.str z q) out ws → ws.Perm L → Q (.ref p) u) :
    wpAny (model P w) A (call (.builtin "sorted") [.ref a]) Q E s := by
  obtain ⟨o, es, ep, t, T⟩ := R
  refine Calls.call_function_entry kind_sorted plain_sorted entry_sorted (args_sorted1 _) ?_
  unfold Builtin.«sorted»
  refine wpAny_bind (m := checkCount "sorted" 1 1 _) (wpAny_pure ?_)
  refine wpAny_bind (collect_set (A := A.in1) calm ⟨o, T.ob, T.ex.1, T.dat⟩ T.fit T.few T.ris T.led fun u vs k1 hz g1 o1 pm => ?_)
  have each : ∀ vs : List Value, (∀ v ∈ vs, ∃ z q, v = Value.str z q) → PySem.W.EachIs (fun v z => ∃ q, v = Value.str z q) vs (vs.map fun v => tkey (0, v)) := by
    intro vs
    induction vs with
    | nil => intro _; exact .nil
    | cons v vs ih =>
      intro hv
      obtain ⟨z, q, rfl⟩ := hv v List.mem_cons_self
      exact .cons ⟨q, rfl⟩ (ih fun x hx => hv x (List.mem_cons_of_mem _ hx))
  have e1 := each vs fun v hv => by
    obtain ⟨e, he, rfl⟩ := List.mem_map.mp (pm.mem_iff.mp hv)
    obtain ⟨z, q, e1, _⟩ := T.tx e he
    exact ⟨z, q, e1⟩
  have p1 : (vs.map fun v => tkey (0, v)).Perm L := by
    refine List.Perm.trans (pm.map _) ?_
    rw [List.map_map]
    exact T.pm
  generalize vs.map (fun v => tkey (0, v)) = zs at e1 p1
  have zl := e1.length
  have ll : zs.length = es.size := by rw [p1.length_eq, T.size]
  have fw := fits_of_scanBound T.few
  refine wpAny_bind (wpAny_newList ?_ (by rw [zl, ll]; exact fw))
  have hoL : (u.heap.push (seqObj "list" vs.toArray 0)).get? u.heap.objs.size = some (seqObj "list" vs.toArray 0) := Heap.get?_push_size _ rfl
  have depth0 : ∀ z : Str, (PyData.str z).depth = 0 := fun z => by simp [PyData.depth]
  have al : PySem.W.AllAlike (zs.map PyData.str) := PySem.W.AllAlike.of fun b b' => by simp [PySem.W.alike]
  have so : PySem.W.Sortable (zs.map PyData.str) := PySem.W.Sortable.others fun b => ⟨fun c => (nomatch c), fun xs c => (nomatch c)⟩
  have er : PySem.W.EachIs (fun v (z : Str) => ∃ as, Reads (u.heap.push (seqObj "list" vs.toArray 0)) v (.str z) as ∧ u.heap.objs.size ∉ as) vs zs := e1.mono fun v z ⟨q, c⟩ => ⟨[], by rw [c]; exact .str _ _, List.not_mem_nil⟩
  refine wpAny_bind (wpAny_holding (PySem.W.list_sort_data (s := { u with heap := u.heap.push (seqObj "list" vs.toArray 0) }) (enc := PyData.str) hoL e1 er al so (by rw [ll]; exact fw) (fun b hb => ?_) fun out hl eo => ?_))
  · show A.units + 1 + 1 + (PyData.str b).depth < cLine
    rw [depth0]
    omega
  · obtain ⟨c, hc⟩ := sortedHeap_at (vs := vs) (out := out.toArray) hoL
    refine wpAny_pure ⟨_, rfl, hq _ u.heap.objs.size out c _ (fun b x e => ?_) g1 o1 hz hc eo ((List.mergeSort_perm zs _).trans p1)⟩
    have q := k1 b x e
    have lt := Heap.lt_size q
    show (sortedHeap (u.heap.push (seqObj "list" vs.toArray 0)) u.heap.objs.size vs out.toArray).get? b = some x
    rw [sortedHeap_old (Nat.ne_of_lt lt) (by rw [size_push']; exact Nat.lt_succ_of_lt lt)]
    exact Heap.get?_push_of_some _ q
end
/-- a set of texts in the heap -/
def SetTx (w : World) (a : Addr) (L : List Str) : HO := .ext fun h => TSetAt w h a L
theorem setTx_new {w : World} {P : Program} {H : Hp} {h : Heap} {a : Addr} {L : List Str} (R : TSetAt w h a L) : ObjOk P w H h a (SetTx w a L) := by
  have R' := R
  obtain ⟨o, es, ep, t, T⟩ := R'
  exact ⟨R, ⟨o, T.ob⟩, fun h1 h2 p k => TSetAt.at p k⟩
section
variable {X : Cx}
/-- set(xs), xs a list of texts -/
def rSetTx (K : PySem.W.Frag) (w : World) : List V → Hp → VK → Prop := fun xs H Q => ∃ (l : Addr) (ws : List Str), xs = [V.ref l] ∧ SqL K H l (ws.map V.str) ∧ ws.length + 1 < scanBound ∧ ∀ p, H p = none → Q (.ref p) (upd H p (SetTx w p (once [] ws)))
theorem call_setTx (hc : X.calm = true) : CallR X (.type "set") (rSetTx X.K X.w) := by
  intro pins s σ H xs us Q I r h
  obtain ⟨l, ws, rfl, hl, few, q⟩ := h
  rw [Vals.ref1 r]
  obtain ⟨its, rv, pl, hz⟩ := I.list hl
  refine tset_call (P := X.prog) (w := X.w) ws (I.ok.hd hc) pl.isList (by simpa using rv.strs) few fun h' tk R k => ?_
  exact ⟨.ref s.heap.objs.size, upd H s.heap.objs.size (SetTx X.w s.heap.objs.size (once [] ws)), I.laid (t' := tk) k (Nat.le_refl _) (setTx_new R), rfl, q _ (I.hok.fresh (Nat.le_refl _))⟩
theorem each_strs : ∀ {us : List Value} {ws : List Str}, PySem.W.EachIs (fun v z => ∃ q, v = Value.str z q) us ws → Vals (ws.map V.str) us
  | _, _, .nil => .nil
  | _, _, .cons ⟨q, e⟩ t => .cons ⟨q, e⟩ (each_strs t)
/-- sorted(found), found a set of texts -/
def rSortTx (w : World) : List V → Hp → VK → Prop := fun xs H Q => ∃ (a : Addr) (L : List Str), xs = [V.ref a] ∧ H a = some (SetTx w a L) ∧ L.length ≤ sizeLine ∧ ∀ (ws : List Str) (p : Addr), ws.Perm L → H p = none → Q (.ref p) (upd H p (.lst (ws.map V.str)))
theorem call_sortTx (hc : X.calm = true) (hu : X.A.units + 64 < cLine) : CallR X (.builtin "sorted") (rSortTx X.w) := by
  intro pins s σ H vs us Q I r h
  obtain ⟨a, L, rfl, ha, hz, q⟩ := h
  have R : TSetAt X.w s.heap a L := (I.hok a _ ha).1
  rw [Vals.ref1 r]
  refine tset_sorted R (I.ok.hd hc) hu fun u p out c ws k g o hp hg eo pm => ?_
  have len : (ws.map V.str).length ≤ sizeLine := by rw [List.length_map, pm.length_eq]; exact hz
  have new : H p = none := I.hok.fresh hp
  have J : Inv X pins σ (upd H p (.lst (ws.map V.str))) { s with heap := u.heap, gens := u.gens, drawn := u.drawn, toks := u.toks } :=
    I.call (ch := []) (Un.laid k hp new) (I.hok.laid k hp ⟨len, out, c, each_strs eo, hg⟩) (by rw [g]; exact I.bare) (fun _ z => nomatch z)
  have e : u = { s with heap := u.heap, gens := u.gens, drawn := u.drawn, toks := u.toks } := by
    cases u
    cases s
    cases o
    rfl
  rw [e]
  exact ⟨.ref p, _, J, rfl, q ws p pm new⟩
end
end LF

set_option Elab.async false
set_option linter.all false
set_option maxRecDepth 100000
set_option maxHeartbeats 4000000
namespace LF
open PySem PySem.Spec PyProof.Rows L2
open PySem.W (EachIs dataLe AllAlike Sortable)
/-- sorted(xs), xs values that read as alike data: rv tells what each stands for -/
def rSortD {β : Type} (K : PySem.W.Frag) (enc : β → PyData) : List V → Hp → VK → Prop := fun vs H Q => ∃ (rv : V → β → Prop) (a : Addr) (xs : List V) (bs : List β), vs = [.ref a] ∧ SqL K H a xs ∧ EachIs rv xs bs ∧
  EachIs (fun x b => Dp K H x (enc b)) xs bs ∧ AllAlike (bs.map enc) ∧ Sortable (bs.map enc) ∧ (∀ b ∈ bs, (enc b).depth ≤ 60) ∧
  ∀ ys p, EachIs rv ys (bs.mergeSort (dataLe false enc)) → H p = none → Q (.ref p) (upd H p (.lst ys))
theorem vals_back {β : Type} {rv : V → β → Prop} : ∀ {us : List Value} {bs : List β}, EachIs (fun u b => ∃ x, RelV x u ∧ rv x b) us bs → ∃ ys, Vals ys us ∧ EachIs rv ys bs
  | _, _, .nil => ⟨[], .nil, .nil⟩
  | _, _, .cons ⟨x, r, h⟩ t => by
    obtain ⟨ys, v, e⟩ := vals_back t
    exact ⟨x :: ys, .cons r v, .cons h e⟩
theorem each_both {β : Type} {rv rw : V → β → Prop} : ∀ {xs : List V} {us : List Value} {bs : List β}, Vals xs us → EachIs rv xs bs → EachIs rw xs bs → EachIs (fun u b => ∃ x, RelV x u ∧ rv x b) us bs ∧ EachIs (fun u b => ∃ x, RelV x u ∧ rw x b) us bs
  | _, _, _, .nil, .nil, .nil => ⟨.nil, .nil⟩
  | _, _, _, .cons r v, .cons h t, .cons h2 t2 => by
    obtain ⟨e1, e2⟩ := each_both v t t2
    exact ⟨.cons ⟨_, r, h⟩ e1, .cons ⟨_, r, h2⟩ e2⟩
section
variable {X : Cx}
theorem call_sortD {β : Type} {enc : β → PyData} (hu : X.A.units + 64 < cLine) : CallR X (.builtin "sorted") (rSortD X.K enc) := by
  intro pins s σ H vs us Q I r h
  obtain ⟨rv, a, xs, bs, rfl, hs, e1, e2, al, so, dep, q⟩ := h
  obtain ⟨its, rvs, hl, hz⟩ := I.list hs
  rw [Vals.ref1 r]
  obtain ⟨f1, f2⟩ := each_both rvs e1 e2
  have f3 : EachIs (fun u b => ∃ as, Reads s.heap u (enc b) as) its bs := f2.mono fun u b ⟨x, rx, d⟩ => Dp.reads I _ _ _ d rx
  have hzb : bs.length ≤ sizeLine := by rw [← e1.length]; exact hz
  refine PySem.W.sorted_data (R := fun u b => ∃ x, RelV x u ∧ rv x b) hl.isList f1 f3 al so hzb (fun b hb => ?_) fun out ho eo => ?_
  · have := dep b hb
    omega
  · obtain ⟨c, hc⟩ := PyProof.Rows.sortedAll_at s.heap its out.toArray
    obtain ⟨ys, v, ey⟩ := vals_back eo
    have hlen : ys.length ≤ sizeLine := by rw [v.length, ho]; exact hzb
    exact ⟨.ref _, upd H (s.heap.objs.size + 1) (.lst ys), I.laid (t' := s.toks) (fun _ _ => PyProof.Rows.sortedAll_old) (Nat.le_succ _) ⟨hlen, out, c, v, hc⟩, rfl, q ys _ ey (I.hok.fresh (Nat.le_succ _))⟩
end
end LF

set_option Elab.async false
set_option linter.all false
set_option maxRecDepth 100000
set_option maxHeartbeats 4000000
namespace K5
open PySem PySem.Spec PyProof.Rows L2 LF
open PySem.W (EachIs dataLe AllAlike Sortable)
/-- what the law sorts paths by -/
def rowD (z : Str) : PyData := .tuple [.int (PySem.Txt.count z c_sl), .list ((PySem.Txt.split z c_sl).map .str), .str z]
theorem row_alike (x y : Str) : PySem.W.alike (rowD x) (rowD y) = true := by
  show PySem.W.alikeAll [.int _, .list _, .str _] [.int _, .list _, .str _] = true
  rw [PySem.W.alikeAll, PySem.W.alikeAll, PySem.W.alikeAll, PySem.W.alikeAll]
  show (true && (PySem.W.alikeAll _ _ && (true && true))) = true
  rw [alike_strs]; rfl
theorem row_depth (x : Str) : (rowD x).depth ≤ 60 := by
  unfold rowD
  simp [PyData.depth, PyData.depthAll, depth_strs]
/-- the law's order of paths is the program's -/
theorem row_lt {a b : List Str} (ha : a ≠ []) (hb : b ≠ []) (na : ∀ s ∈ a, isNm s = true) (nb : ∀ s ∈ b, isNm s = true) : PySem.W.dataLt (rowD (jn a)) (rowD (jn b)) = PySem.W.dataLt (keyD (jn a)) (keyD (jn b)) := by
  have al : PySem.W.alike (.list (a.map .str)) (.list (b.map .str)) = true := by simp only [PySem.W.alike]; exact alike_strs _ _
  unfold rowD keyD
  rw [parts_join na, parts_join nb, split_names ha na, split_names hb nb, count_jn ha na, count_jn hb nb, PySem.W.dataLt_pair (by simp [PySem.W.alike]) al, PySem.W.dataLt_tuple, PySem.W.dataLt_cons (by simp [PySem.W.alike]), PySem.W.dataLt_cons al, PySem.W.dataLt_int, PySem.W.dataLt_int]
  have e1 : PyData.eqv (.int ((a.length : Int) - 1)) (.int ((b.length : Int) - 1)) = PyData.eqv (.int (a.length : Int)) (.int (b.length : Int)) := by
    simp only [PyData.eqv]
    rw [Bool.eq_iff_iff, beq_iff_eq, beq_iff_eq]
    omega
  rw [e1]
  by_cases h1 : PyData.eqv (.int (a.length : Int)) (.int (b.length : Int)) = true
  · rw [if_pos h1, if_pos h1]
    by_cases h2 : PyData.eqv (.list (a.map .str)) (.list (b.map .str)) = true
    · rw [if_pos h2, if_pos h2]
      rw [eqv_list_strs, decide_eq_true_eq] at h2
      rw [h2]
      exact PyProof.Rows.lex_irrefl _
    · rw [if_neg h2, if_neg h2]
  · rw [if_neg h1, if_neg h1]
    rw [Bool.eq_iff_iff, decide_eq_true_eq, decide_eq_true_eq]
    omega
/-- texts that are paths -/
def Pths (n : Nat) (ws : List Str) : Prop := ∀ z ∈ ws, ∃ ns, z = jn ns ∧ ns ≠ [] ∧ Nms n ns
theorem sort_row {n : Nat} {ws : List Str} (h : Pths n ws) : ws.mergeSort (dataLe false rowD) = ws.mergeSort pLe := by
  have := List.map_mergeSort (r := dataLe false rowD) (s := pLe) (f := id) (l := ws) fun a ha b hb => by
    obtain ⟨as, rfl, a1, a2⟩ := h a ha
    obtain ⟨bs, rfl, b1, b2⟩ := h b hb
    rw [id, id, pLe_eq, PySem.W.dataLe_eq]
    show (!PySem.W.dataLt (rowD (jn bs)) (rowD (jn as))) = _
    rw [row_lt b1 a1 b2.2 a2.2]
  rwa [List.map_id, List.map_id] at this
def spOrdered (K : PySem.W.Frag) : Sp := fun vs H Q _ => ∃ (a : Addr) (ws : List Str), vs = [.ref a] ∧ SqL K H a (ws.map V.str) ∧ Pths 100 ws ∧ ws.length ≤ 10000 ∧
  ∀ H' p, Same H H' → H p = none → H' p = some (.lst ((ws.mergeSort pLe).map V.str)) → Q (.ref p) H'
abbrev s__law_ordered : Stmt := topS 52
abbrev N__law_ordered : List Str := ["_law_paths", "_law_row", "_law_path_here"]
theorem sc__law_ordered : FnScope ["_law_paths", "_law_row", "_law_path_here"] ["_law_paths"] (defScope s__law_ordered) := ⟨rfl, rfl, rfl, by decide +kernel, rfl, by decide +kernel, by decide +kernel⟩
/-- the row of a path; the list at D is another one -/
def RowAt (D : Addr) (H : Hp) (x : V) (z : Str) : Prop := ∃ t pp, x = .ref t ∧ t ≠ D ∧ pp ≠ D ∧ H t = some (.tup [.int (PySem.Txt.count z c_sl), .ref pp, .str z]) ∧ H pp = some (.lst ((PySem.Txt.split z c_sl).map V.str))
theorem RowAt.same {D : Addr} {H H' : Hp} {x : V} {z : Str} (h : RowAt D H x z) (s : Same H H') : RowAt D H' x z := by
  obtain ⟨t, pp, e, n1, n2, h1, h2⟩ := h
  exact ⟨t, pp, e, n1, n2, s _ _ h1, s _ _ h2⟩
theorem RowAt.put {D : Addr} {H : Hp} {x : V} {z : Str} {o : HO} (h : RowAt D H x z) : RowAt D (upd H D o) x z := by
  obtain ⟨t, pp, e, n1, n2, h1, h2⟩ := h
  exact ⟨t, pp, e, n1, n2, by rw [upd_ne n1]; exact h1, by rw [upd_ne n2]; exact h2⟩
theorem RowAt.dp {D : Addr} {K : PySem.W.Frag} {H : Hp} {x : V} {z : Str} (h : RowAt D H x z) : Dp K H x (rowD z) := by
  obtain ⟨t, pp, rfl, _, _, h1, h2⟩ := h
  exact .tup (SqT.of h1) (.cons (.int _) (.cons (.lst (SqL.of h2) (dp_strs _)) (.cons (.str z) .nil)))
section
variable {P : Program} {w : World} {K : PySem.W.Frag} {mg : Str → Option Value} {base : Heap} {tk1 tk2 : Tok}
theorem ok_ordered {f : Addr} {fd : FuncData} (F : Fun K "_law_ordered" "_law_ordered" s__law_ordered f fd) (T : Txt K mg tk1 tk2) : FnOk P w K mg base CX0 1 f fd ["_law_paths"] (spOrdered K) := by
  refine F.ok sc__law_ordered (fun vs H Q E h => ?_) (fun cdv A outer s H vs Q E hr h => ?_)
  · obtain ⟨a, ws, rfl, _⟩ := h
    rfl
  have hu := hr.units
  refine ⟨_, (pss_one (ps_ret (pe_lc (own := [("_law_row", 1)]) rfl sc__law_ordered.nd (pi_list (pe_callB (call_sortD (enc := rowD) hu) (by rfl) T.n_sorted (by decide +kernel) (pa_cons (pe_lc (own := [("_law_path_here", 2)]) rfl sc__law_ordered.nd (pi_list (pv 0)) (blkOk_by (N := N__law_ordered) (sc := defScope s__law_ordered) (by decide +kernel)) (fun _ _ _ _ _ => pg_name (i := 2) sc__law_ordered.nd rfl (Or.inl rfl)) (fun _ _ _ _ _ => pts_nil) (fun _ _ _ _ _ => (pe_tup (pa_cons (pe_m1 PySem.F.slot_str_count PySem.F.type_str_count mt_count (pv 2) pe_str rfl rfl rfl) (pa_cons (pe_split (pv 2) pe_str) (pa_cons (pv 2) pa_nil)))))) pa_nil))) (blkOk_by (N := N__law_ordered) (sc := defScope s__law_ordered) (by decide +kernel)) (fun _ _ _ _ _ => pg_name (i := 1) sc__law_ordered.nd rfl (Or.inl rfl)) (fun _ _ _ _ _ => pts_nil) (fun _ _ _ _ _ => (pe_ix (show IxR _ (rIxT K) from ix_tup) (pv 1) pe_int (fun _ _ => rfl)))))), ?_⟩
  obtain ⟨a, ws, rfl, hs, hP, hl, hq⟩ := h
  have hbig := sizeLine_big
  refine ⟨_, rfl, a, rfl, ⟨_, hs⟩, fun D hD => ?_⟩
  refine lc_it (walk_list (xs := ws.map V.str)) (fun i H' => Same H H' ∧ ∃ acc, H' D = some (.lst acc) ∧ EachIs (RowAt D H') acc (ws.take i)) ⟨same_new hD, [], by rw [upd_same], by rw [List.take_zero]; exact .nil⟩ (fun i H' _ h => sqL_same h.1 hs) ?_ ?_
  · rintro i x H1 H2 hi ⟨sm, acc, hd, ea⟩ ⟨rfl, hx⟩
    rw [List.length_map] at hi
    rw [List.getElem?_map] at hx
    obtain ⟨z, hz, rfl⟩ : ∃ z, ws[i]? = some z ∧ x = .str z := by
      cases e : ws[i]? with
      | none => rw [e] at hx; cases hx
      | some q => rw [e] at hx; exact ⟨q, rfl, (Option.some.inj hx).symm⟩
    obtain ⟨ns, rfl, hne, hN⟩ := hP z (List.mem_of_getElem? hz)
    have hjl := join_len_le hN.2
    have hl1 := hN.1
    have hzl : (jn ns).length + 2 ≤ sizeLine := by show (PySem.Txt.join c_sl ns).length + 2 ≤ sizeLine; omega
    refine ⟨rfl, _, rfl, ⟨_, rfl⟩, jn ns, c_sl, rfl, rfl, ?_⟩
    refine ⟨_, rfl, ⟨_, rfl⟩, jn ns, c_sl, rfl, rfl, sl_ne, hzl, fun pp hpp => ?_⟩
    refine ⟨_, rfl, (by show 3 ≤ sizeLine; decide), fun t ht => ?_⟩
    have npt : pp ≠ t := fun e => by rw [e, ← e, upd_same] at ht; cases ht
    have S2 : Same H2 (upd (upd H2 pp (.lst ((PySem.Txt.split (jn ns) c_sl).map V.str))) t (.tup [.int (PySem.Txt.count (jn ns) c_sl), .ref pp, .str (jn ns)])) := (same_new hpp).trans (same_new ht)
    have nD1 : pp ≠ D := Ne.symm (ne_of_none hd hpp)
    have nD2 : t ≠ D := Ne.symm (ne_of_none (same_new hpp _ _ hd) ht)
    have r0 : RowAt D (upd (upd H2 pp (.lst ((PySem.Txt.split (jn ns) c_sl).map V.str))) t (.tup [.int (PySem.Txt.count (jn ns) c_sl), .ref pp, .str (jn ns)])) (.ref t) (jn ns) := ⟨t, pp, rfl, nD2, nD1, upd_same, by rw [upd_ne npt, upd_same]⟩
    have hl3 := ea.length
    rw [List.length_take] at hl3
    refine ⟨acc, S2 _ _ hd, by omega, fun b o e => ?_, acc ++ [.ref t], upd_same, ?_⟩
    · rw [upd_ne (ne_of_none e hD)]; exact S2 _ _ (sm _ _ e)
    · have et : ws.take (i + 1) = ws.take i ++ [jn ns] := by rw [List.take_add_one, hz]; rfl
      rw [et]
      exact PySem.W.each_snoc r0.put (ea.mono fun v z r => (r.same S2).put)
  · rintro H1 ⟨sm, acc, hd, ea⟩
    rw [List.length_map, List.take_length] at ea
    refine ⟨RowAt D H1, D, acc, ws, rfl, SqL.of hd, ea, ea.mono fun v z r => r.dp, AllAlike.of row_alike, Sortable.tuples fun b => ⟨_, _, rfl⟩, fun b _ => row_depth b, fun ys q ey hq1 => ?_⟩
    rw [sort_row hP] at ey
    have hyl := ey.length
    rw [List.length_mergeSort] at hyl
    have sq : Same H1 (upd H1 q (.lst ys)) := same_new hq1
    refine ⟨q, rfl, ⟨_, SqL.of upd_same⟩, fun D2 hD2 => ?_⟩
    have hq2 : (upd H1 q (.lst ys)) q = some (.lst ys) := upd_same
    generalize (upd H1 q (.lst ys)) = H2 at sq hD2 hq2
    refine lc_it (walk_list (xs := ys)) (fun i H' => Same H2 H' ∧ H' D2 = some (.lst (((ws.mergeSort pLe).take i).map V.str))) ⟨same_new hD2, by rw [upd_same]; rfl⟩ (fun i H' _ h => sqL_same h.1 (SqL.of hq2)) ?_ ?_
    · rintro i x H3 H4 hi ⟨sm3, hd3⟩ ⟨rfl, hx⟩
      obtain ⟨z, hz, r⟩ := each_get ey hx
      obtain ⟨t, pp, rfl, _, _, h1, h2⟩ := r
      refine ⟨rfl, _, rfl, t, _, _, _, rfl, rfl, SqT.of (sm3 _ _ (sq _ _ h1)), rfl, _, hd3, ?_, fun b o e => ?_, ?_⟩
      · rw [List.length_map, List.length_take]; omega
      · rw [upd_ne (ne_of_none e hD2)]; exact sm3 _ _ e
      · rw [upd_same, List.take_add_one, hz, List.map_append]; rfl
    · rintro H3 ⟨sm3, hd3⟩
      rw [hyl, List.take_of_length_le (by rw [List.length_mergeSort]; exact Nat.le_refl _)] at hd3
      have S3 := (sm.trans sq).trans sm3
      exact hq H3 D2 S3 ((sm.trans sq).free hD2) hd3
end
end K5

set_option Elab.async false
set_option linter.all false
set_option maxRecDepth 100000
set_option maxHeartbeats 4000000
namespace LF
open PySem PySem.Spec PyProof.Rows L2
/-- cls(..), the class at C in the i-th slot -/
def tMakeL (i : Nat) (C : Addr) (sp : Sp) (dvs : List V) (E : XK) (t : TA) : TE := fun σ H Q => σ[i]? = some (some (.ref C)) ∧ t σ H fun vs H1 => ∀ x dx, H1 x = none → H1 dx = none → dx ≠ x →
  sp (.ref x :: (vs ++ dvs)) (upd (upd H1 dx (.own x)) x (.ins C dx [])) (fun v H2 => v = .non ∧ Q (.ref x) H2) E
section
variable {X : Cx} {CX : CXT} {k i : Nat} {C f : Addr} {fd : FuncData} {ps : List Str} {sp : Sp} {dvs : List V} {ds : List Value} {E : XK} {x : Str} {p pos : Pos} {e : Expr} {es : List Expr} {t : TA}
theorem pe_makeL (M : Mk X.K C f) (F : FnOk X.prog X.w X.K X.mg X.base CX k f fd ps sp) (hr : Room (k + 1) X.A) (hN : X.N[i]? = some x) (hv : Vis X.env.scope x) (hb : Binds X.K fd ps ds) (hd : Vals dvs ds) (hx : Passes CX X E) (ha : PA X (e :: es) t)
    (h1 : (x == ("__debug__" : Str)) = false := by decide) (h2 : (x == ("__classdict__" : Str)) = false := by decide)
    (he : starEach (e :: es) X.env = (false, eval e X.env) :: starEach es X.env := by rfl) (hpl : (backTo pos (starEach es X.env)).any (·.1) = false := by rfl) : PE X (.Call (.Name x p) (e :: es) [] pos) (tMakeL i C sp dvs E t) := by
  refine ⟨fun pins s σ H Q I h => ?_⟩
  obtain ⟨hs, ht⟩ := h
  refine wpAny_Call_Name_kw (thn ((pe_var (pos := p) hN hv h1 h2).run pins s σ H (fun v H1 => v = .ref C ∧ H1 = H) I ⟨.ref C, hs, rfl, rfl⟩) fun u s1 ⟨v, H1, I1, r1, q1⟩ => ?_)
  obtain ⟨rfl, rfl⟩ := q1
  cases r1
  refine PySem.W.callWith_K (h₀ := X.base) I.ok.mod.kin M.kp (thn (ha.run pos pins s1 σ _ _ I1 ht) fun us s2 ⟨vs, H2, I2, r, q⟩ => ⟨I2.kIn, ?_⟩) he hpl
  exact run_make M F hr hb hd hx I2 r q
end
/-- a def whose parameters are all given, by its arguments alone -/
theorem FnOk.toR {P : Program} {w : World} {K : PySem.W.Frag} {mg : Str → Option Value} {base : Heap} {CX : CXT} {k : Nat} {f : Addr} {fd : FuncData} {ps : List Str} {sp : Sp} (F : FnOk P w K mg base CX k f fd ps sp) (hb : Binds K fd ps []) : FnR P w K mg base CX k f sp := by
  intro A fr st H us vs Q E hr e0 r h
  have hl : us.length = ps.length := by rw [← r.length]; exact F.len _ _ _ _ h
  have KX : K.In st.heap := e0.mod.kin.keeps fun b o e => (e0.bs b o e).1
  have b := hb st us KX (by rw [List.append_nil]; exact hl)
  rw [List.append_nil] at b
  exact F.run A fr st H ⟨us, []⟩ us vs Q E hr e0 b r h
end LF

set_option Elab.async false
set_option linter.all false
set_option maxRecDepth 100000
set_option maxHeartbeats 4000000
namespace LF
open PySem PySem.Spec PyProof.Rows L2
open PySem.Builtin
/-- len(x), x an own instance of the class at C: its own __len__ -/
def rLenO (C : Addr) (sp : Sp) : List V → Hp → VK → Prop := fun xs H Q => ∃ (a dx : Addr) (fs : List (Str × V)), xs = [.ref a] ∧ H a = some (.ins C dx fs) ∧ sp [.ref a] H (fun v H' => ∃ n : Nat, v = .int n ∧ n < 2 ^ 60 ∧ Q (.int n) H') E0
theorem call_lenO {X : Cx} {k : Nat} {f C : Addr} {fd : FuncData} {sp : Sp} {px : Str} (G : FnOk X.prog X.w X.K X.mg X.base CX0 k f fd [px] sp) (hr : Room (k + 1) X.A) (hb : Binds X.K fd [px] [])
    (hs : PySem.W.findIn X.K (.ref C) "__len__" = some (some (.ref f))) (hf : PySem.W.isFn X.K (.ref f) = true) : CallR X (.builtin "len") (rLenO C sp) := by
  intro pins s σ H xs us Q I r h
  obtain ⟨a, dx, fs, rfl, ha, hsp⟩ := h
  rw [Vals.ref1 r]
  obtain ⟨mA, O, _, _, _, _⟩ := ins_get I.hok ha
  obtain ⟨od, J, _⟩ := O.look
  have b' := hb s [.ref a] I.kIn rfl
  rw [List.append_nil] at b'
  have run := G.run X.A.in1 X.stack s H ⟨[.ref a], []⟩ [.ref a] [.ref a] _ E0 hr.in1 I.env0.in1 b' (.cons rfl .nil) hsp
  refine Calls.call_function_entry kind_len plain_len entry_len (args_len1 _) ?_
  unfold Builtin.«len»
  refine wpAny_bind (m := oneArg "len" _) (wpAny_pure ?_)
  refine wpAny_bind (m := callSpecial? (.ref a) (Str.ofString "__len__")) (PySem.W.special_fn I.kIn J hs (beq_iff_eq.mp hf) (wpAny_call (codeAny_mono run ?_)))
  intro rr s2 hq2
  cases rr with
  | error e => exact hq2.elim
  | ok fl =>
    cases fl with
    | next => exact hq2.elim
    | brk => exact hq2.elim
    | cont => exact hq2.elim
    | ret u =>
      obtain ⟨y, H2, J2, ry, n, ey, hn, q⟩ := I.after hq2
      subst ey
      obtain ⟨tk, rfl⟩ := ry
      refine wpAny_bind (wpAny_holding (wpAny_pure ?_))
      refine wpAny_bind (wpAny_letGo ?_)
      show wpAny _ _ (if (n : Int) < 0 then _ else _) _ _ _
      rw [if_neg (by omega)]
      show wpAny _ _ (if (n : Int) ≥ 2 ^ 63 then _ else _) _ _ _
      rw [if_neg (by have : (2 : Nat) ^ 60 = 1152921504606846976 := by decide
                     omega)]
      exact wpAny_bind (wpAny_mkInt (wpAny_pure ⟨_, rfl, .int n, H2, J2.tok _, ⟨_, rfl⟩, q⟩))
end LF

set_option Elab.async false
set_option linter.all false
set_option maxRecDepth 100000
set_option maxHeartbeats 4000000
namespace LF
open PySem PySem.Spec PyProof.Rows L2
open PySem.Builtin
/-- str(x), x an own instance of the class at C: its own __str__ -/
def rStrO (C : Addr) (sp : Sp) : List V → Hp → VK → Prop := fun xs H Q => ∃ (a dx : Addr) (fs : List (Str × V)), xs = [.ref a] ∧ H a = some (.ins C dx fs) ∧ sp [.ref a] H (fun v H' => ∃ z, v = .str z ∧ Q (.str z) H') E0
theorem str_own_new {prog : Program} {w : World} {a : Addr} : MeetsIn prog w (Builtin.«str.__new__» ⟨[.type "str", .ref a], []⟩)
    (fun A R s => A.in1.units < cLine ∧ wpAny (model prog w) A.in1 (callSpecial? (.ref a) "__str__") (fun o s' => ∃ z tk, o = some (.str z tk) ∧ R (.ok (.ret (.str z tk))) s') (fun _ _ => False) s) :=
  .of_wp fun A R s h => by
    rw [str_new_tree (.ref a)]
    refine wpAny_bind (wpAny_pure ?_)
    refine wpAny_bind (wpAny_of_eq isSubtype_str_str ?_)
    refine wpAny_bind (m := Str.strOf (.ref a)) (wpAny_mono (Q := fun r s' => R (.ok (.ret r)) s') ?_ (fun r s' h' => wpAny_pure ⟨_, rfl, h'⟩) fun _ _ e => e)
    unfold Str.strOf
    show wpAny _ _ (if PySem.Builtin.Str.isExactStr (.ref a) = true then _ else _) _ _ _
    rw [show PySem.Builtin.Str.isExactStr (.ref a) = false from rfl]
    refine wpAny_bind (wpAny_cRoomFor h.1 ?_)
    refine wpAny_bind (wpAny_mono h.2 (fun o s' ho => ?_) (fun _ _ f => f.elim))
    obtain ⟨z, tk, rfl, q⟩ := ho
    exact wpAny_pure q
theorem call_strO {X : Cx} {k : Nat} {f C : Addr} {fd : FuncData} {sp : Sp} {px : Str} (G : FnOk X.prog X.w X.K X.mg X.base CX0 k f fd [px] sp) (hr : Room (k + 2) X.A) (hb : Binds X.K fd [px] [])
    (hs : PySem.W.findIn X.K (.ref C) "__str__" = some (some (.ref f))) (hf : PySem.W.isFn X.K (.ref f) = true) : CallR X (.type "str") (rStrO C sp) := by
  intro pins s σ H xs us Q I r h
  obtain ⟨a, dx, fs, rfl, ha, hsp⟩ := h
  rw [Vals.ref1 r]
  obtain ⟨mA, O, _, _, _, _⟩ := ins_get I.hok ha
  obtain ⟨od, J, _⟩ := O.look
  have b' := hb s [.ref a] I.kIn rfl
  rw [List.append_nil] at b'
  have hu := hr.in1.un
  refine callType_newIn F.called_str (by decide) (F.typeCall_str_1 _) (F.newCall_str_1 _) (fun obj => F.args_object_init_2 obj _) F.entry_str_new str_own_new ⟨?_, ?_⟩
  · have := hr.in1.in1.un
    omega
  have run := G.run X.A.in1.in1 X.stack s H ⟨[.ref a], []⟩ [.ref a] [.ref a] _ E0 hr.in1.in1 I.env0.in1.in1 b' (.cons rfl .nil) hsp
  refine PySem.W.special_fn I.kIn J hs (beq_iff_eq.mp hf) (wpAny_call (codeAny_mono run ?_))
  intro rr s2 hq2
  cases rr with
  | error e => exact hq2.elim
  | ok fl =>
    cases fl with
    | next => exact hq2.elim
    | brk => exact hq2.elim
    | cont => exact hq2.elim
    | ret u =>
      obtain ⟨y, H2, J2, ry, z, ey, q⟩ := I.after hq2
      subst ey
      obtain ⟨tk, rfl⟩ := ry
      exact ⟨z, tk, rfl, typeIs_str _ _ _, .str z, H2, J2, ⟨_, rfl⟩, q⟩
end LF

set_option Elab.async false
set_option linter.all false
set_option maxRecDepth 100000
set_option maxHeartbeats 4000000
namespace LF
open PySem PySem.Spec PyProof.Rows L2
section
variable {K : PySem.W.Frag} {A : Around} {E : Value → Shared → Prop} {s : Shared} {x C : Addr} {ox : Obj} {od : Option Obj} {name : Str} {id : String}
theorem ifBound_B {M : Model} {args : List Value} {Q : Option Value → Shared → Prop} (X : K.In s.heap) (I : PySem.W.InstAt s.heap x ox C od) (hs : PySem.W.findIn K (.ref C) name = some (some (.builtin id))) (hb : ∀ self, bindSpecial (.builtin id) self = pure (.builtin id, [self]))
    (h : wpAny M A (call (.builtin id) (.ref x :: args)) (fun v => Q (some v)) E s) : wpAny M A (callSpecialIfBound? (.ref x) name args) Q E s := by
  simp only [callSpecialIfBound?, bindSpecialIfBound?]
  refine wpAny_holding (wpAny_bind (wpAny_bind (wpAny_bind (I.type.here ((PySem.W.looks_findIn X hs).here ?_)))))
  refine wpAny_bind (wpAny_askSetting (wpAny_ite ?_))
  have fin : wpAny M A (call (.builtin id) ([.ref x] ++ args) >>= fun v => pure (some v)) Q E s := wpAny_bind (wpAny_mono h (fun v s' h' => wpAny_pure h') fun _ _ h' => h')
  split
  · exact wpAny_bind (wpAny_of_eq (hb _) (wpAny_pure (by exact fin)))
  · exact wpAny_tryCatch (wpAny_bind (wpAny_of_eq (hb _) (wpAny_pure (by exact fin))))
end
theorem ne_bind (self : Value) : bindSpecial (.builtin "object.__ne__") self = pure (.builtin "object.__ne__", [self]) := F.cmp_object.ne.bind self
section
variable {X : Cx} {k : Nat} {C f : Addr} {fd : FuncData} {ps : List Str} {sp : Sp}
/-- the call of the class's own == -/
theorem eq_call {A : Around} {pins : List (Addr × Obj)} {s : Shared} {σ : L2.St} {H : Hp} {a b : Addr} {R : VK} {Z : Value → Shared → Prop} {EX : Value → Shared → Prop} (G : FnOk X.prog X.w X.K X.mg X.base CX0 k f fd ps sp) (hr : Room k A) (hfr : A.frames = X.A.frames) (hb : Binds X.K fd ps []) (I : Inv X pins σ H s)
    (hsp : sp [.ref a, .ref b] H R E0) (hz : ∀ v u H' s', Inv X pins σ H' s' → RelV v u → R v H' → Z u s') : wpAny (model X.prog X.w) A (call (.ref f) [.ref a, .ref b]) Z EX s := by
  have e0 : Env0 X.prog X.w X.K X.mg X.base A X.stack s H := by
    have e := I.env0
    exact ⟨by rw [hfr]; exact e.frames, e.mod, e.bs, e.bsz, e.funs, e.frf, e.hok, e.bare⟩
  have hl := G.len _ _ _ _ hsp
  have b' := hb s [.ref a, .ref b] I.kIn (by simpa using hl)
  rw [List.append_nil] at b'
  refine wpAny_call (codeAny_mono (G.run A X.stack s H ⟨[.ref a, .ref b], []⟩ [.ref a, .ref b] [.ref a, .ref b] _ E0 hr e0 b' (.cons rfl (.cons rfl .nil)) hsp) fun r s' hq => ?_)
  cases r with
  | error e => exact hq.elim
  | ok fl =>
    cases fl with
    | next => exact hq.elim
    | brk => exact hq.elim
    | cont => exact hq.elim
    | ret u =>
      obtain ⟨v, H', I', rv, q⟩ := I.after hq
      exact hz v u H' s' I' rv q
def rCmpO (neg : Bool) (C : Addr) (sp : Sp) : R2 := fun x y H Q => ∃ a b dx dy fs gs, x = .ref a ∧ y = .ref b ∧ H a = some (.ins C dx fs) ∧ H b = some (.ins C dy gs) ∧ sp [.ref a, .ref b] H (fun v H' => ∃ r : Bool, v = .bl r ∧ Q (.bl (if neg = true then !r else r)) H') E0
/-- x == y of own instances by the class's own == -/
theorem op_eqO (G : FnOk X.prog X.w X.K X.mg X.base CX0 k f fd ps sp) (hr : Room k X.A) (hb : Binds X.K fd ps []) (hs : PySem.W.findIn X.K (.ref C) "__eq__" = some (some (.ref f))) (hf : PySem.W.isFn X.K (.ref f) = true) : OpR X (compareOp .Eq) (rCmpO false C sp) := by
  intro pins s σ H x y v u Q I rx ry h
  obtain ⟨a, b, dx, dy, fs, gs, rfl, rfl, ha, hb', hsp⟩ := h
  obtain rfl : v = Value.ref a := rx
  obtain rfl : u = Value.ref b := ry
  obtain ⟨mA, J, _⟩ := ins_get I.hok ha
  obtain ⟨mB, J', _⟩ := ins_get I.hok hb'
  obtain ⟨od, J, _⟩ := J.look
  obtain ⟨od', J', _⟩ := J'.look
  obtain ⟨m, hF⟩ := I.fr
  show wpAny (model X.prog X.w) X.A (richCompare .Eq (.ref a) (.ref b)) _ X.xe s
  refine PySem.W.cmp_K (op := .Eq) (tb := .ref C) hr.units0 hF I.ok.mod.kin J J'.type (by simp [PySem.W.notFirst]) hs hf ?_
  refine eq_call G hr rfl hb I hsp fun v u H' s' I' rv q => ?_
  obtain ⟨r, rfl, q⟩ := q
  obtain rfl : u = Value.bool r := rv
  exact ⟨.bl r, H', I', rfl, q⟩
/-- x != y of own instances: object's own, by the class's == -/
theorem op_neO (G : FnOk X.prog X.w X.K X.mg X.base CX0 k f fd ps sp) (hr : Room (k + 4) X.A) (hb : Binds X.K fd ps []) (hs : PySem.W.findIn X.K (.ref C) "__eq__" = some (some (.ref f))) (hf : PySem.W.isFn X.K (.ref f) = true)
    (hn : PySem.W.findIn X.K (.ref C) "__ne__" = some (some (.builtin "object.__ne__"))) (ho : PySem.W.subIn X.K (.ref C) (.type "object") = some true) : OpR X (compareOp .NotEq) (rCmpO true C sp) := by
  intro pins s σ H x y v u Q I rx ry h
  obtain ⟨a, b, dx, dy, fs, gs, rfl, rfl, ha, hb', hsp⟩ := h
  obtain rfl : v = Value.ref a := rx
  obtain rfl : u = Value.ref b := ry
  obtain ⟨mA, J, _⟩ := ins_get I.hok ha
  obtain ⟨mB, J', _⟩ := ins_get I.hok hb'
  obtain ⟨od, J, _⟩ := J.look
  obtain ⟨od', J', _⟩ := J'.look
  have KX := I.kIn
  show wpAny (model X.prog X.w) X.A (richCompare .NotEq (.ref a) (.ref b)) _ X.xe s
  have hu0 := hr.un
  have one : wpAny (model X.prog X.w) X.A (tryCompare (.ref a) "__ne__" (.ref b)) (fun r s' => ∃ v, r = some v ∧ EP X pins σ Q v s') X.xe s := by
    unfold tryCompare
    refine wpAny_bind (ifBound_B KX J hn ne_bind ?_)
    refine wpAny_call (codeAny_call_builtin F.cmp_object.ne.plain F.cmpEntry_ne (PySem.W.check_slot F.cmpKind_ne F.cmpSplit_ne (J.type.andThen (PySem.W.looks_subIn KX ho)) (F.cmpArgs_ne _ _) ?_))
    unfold Builtin.«object.__ne__»
    refine wpAny_bind (wpAny_of_eq (a := (Value.ref a, [Value.ref b])) rfl ?_)
    refine wpAny_bind (wpAny_cRoomFor (by have := hr.in1.un; omega) ?_)
    refine wpAny_bind (m := callSpecialIfBound? (.ref a) (Str.ofString "__eq__") [.ref b]) (PySem.W.ifBound_K KX J hs hf ?_)
    refine eq_call G (hr.in1.mono (by omega)) rfl hb I hsp fun v u H' s' I' rv q => ?_
    obtain ⟨r, rfl, q⟩ := q
    obtain rfl : u = Value.bool r := rv
    refine wpAny_bind (m := truthy (.bool r)) (wpAny_truthy_bool ?_)
    refine wpAny_pure ?_
    exact wpAny_pure ⟨_, rfl, .bl (!r), H', I', rfl, q⟩
  unfold richCompare
  simp only [oneThing_ref]
  refine wpAny_holding (wpAny_bind (wpAny_cRoomFor (by omega) ?_))
  refine wpAny_bind (J.type.here (wpAny_bind (J'.type.here ?_)))
  rw [show (Value.ref C != Value.ref C) = false from by simp]
  simp only [Bool.false_eq_true, if_false]
  refine wpAny_bind (wpAny_pure ?_)
  simp only [Bool.false_eq_true, if_false]
  refine wpAny_bind (wpAny_mono one (fun r s' z => ?_) fun _ _ e => e)
  obtain ⟨v, rfl, hq⟩ := z
  exact wpAny_pure hq
end
end LF

set_option Elab.async false
set_option linter.all false
set_option maxRecDepth 100000
set_option maxHeartbeats 4000000
namespace LF
open PySem PySem.Spec PyProof.Rows L2
section
variable {X : Cx} {k : Nat} {C f : Addr} {fd : FuncData} {ps : List Str} {sp : Sp}
/-- the call of a class's own method -/
theorem own_call {A : Around} {pins : List (Addr × Obj)} {s : Shared} {σ : L2.St} {H : Hp} {vs : List V} {us : List Value} {R : VK} {Z : Value → Shared → Prop} {EX : Value → Shared → Prop} (G : FnOk X.prog X.w X.K X.mg X.base CX0 k f fd ps sp) (hr : Room k A) (hfr : A.frames = X.A.frames) (hb : Binds X.K fd ps []) (I : Inv X pins σ H s)
    (rv : Vals vs us) (hsp : sp vs H R E0) (hz : ∀ v u H' s', Inv X pins σ H' s' → RelV v u → R v H' → Z u s') : wpAny (model X.prog X.w) A (call (.ref f) us) Z EX s := by
  have e0 : Env0 X.prog X.w X.K X.mg X.base A X.stack s H := by
    have e := I.env0
    exact ⟨by rw [hfr]; exact e.frames, e.mod, e.bs, e.bsz, e.funs, e.frf, e.hok, e.bare⟩
  have hl := G.len _ _ _ _ hsp
  have b' := hb s us I.kIn (by rw [List.append_nil, ← rv.length]; exact hl)
  rw [List.append_nil] at b'
  refine wpAny_call (codeAny_mono (G.run A X.stack s H ⟨us, []⟩ us vs _ E0 hr e0 b' rv hsp) fun r s' hq => ?_)
  cases r with
  | error e => exact hq.elim
  | ok fl =>
    cases fl with
    | next => exact hq.elim
    | brk => exact hq.elim
    | cont => exact hq.elim
    | ret u =>
      obtain ⟨v, H', I', rv, q⟩ := I.after hq
      exact hz v u H' s' I' rv q
theorem special_own {M : Model} {A : Around} {s : Shared} {KK : PySem.W.Frag} {x D g : Addr} {ox : Obj} {od : Option Obj} {name : Str} {Q : Option Value → Shared → Prop} {EX : Value → Shared → Prop} (KX : KK.In s.heap) (J : PySem.W.InstAt s.heap x ox D od) (hs : PySem.W.findIn KK (.ref D) name = some (some (.ref g))) (h : Q (some (.ref g)) s) : wpAny M A (specialOf (.ref x) name) Q EX s := by
  simp only [specialOf]
  exact wpAny_bind (J.type.here ((PySem.W.looks_findIn KX hs).here h))
def rInO (neg : Bool) (C : Addr) (sp : Sp) : R2 := fun x y H Q => ∃ b dx fs, y = .ref b ∧ H b = some (.ins C dx fs) ∧ sp [.ref b, x] H (fun v H' => ∃ r : Bool, v = .bl r ∧ Q (.bl (if neg = true then !r else r)) H') E0
theorem contains_own {A : Around} {pins : List (Addr × Obj)} {s : Shared} {σ : L2.St} {H : Hp} {b dx : Addr} {fs : List (Str × V)} {x : V} {v : Value} {R : Bool → Hp → Prop} {Z : Bool → Shared → Prop} {EX : Value → Shared → Prop} (G : FnOk X.prog X.w X.K X.mg X.base CX0 k f fd ps sp) (hr : Room k A) (hfr : A.frames = X.A.frames) (hb : Binds X.K fd ps []) (hs : PySem.W.findIn X.K (.ref C) "__contains__" = some (some (.ref f))) (hf : PySem.W.isFn X.K (.ref f) = true)
    (I : Inv X pins σ H s) (hB : H b = some (.ins C dx fs)) (rx : RelV x v) (hsp : sp [.ref b, x] H (fun w H' => ∃ r : Bool, w = .bl r ∧ R r H') E0) (hz : ∀ r H' s', Inv X pins σ H' s' → R r H' → Z r s') :
    wpAny (model X.prog X.w) A (contains (.ref b) v) Z EX s := by
  obtain ⟨mA, J, _⟩ := ins_get I.hok hB
  obtain ⟨od, J, _⟩ := J.look
  have KX := I.kIn
  unfold contains
  refine wpAny_holding ?_
  rw [show stdlibNamesSay? (.ref b) v = none from rfl]
  refine wpAny_bind (special_own KX J hs ?_)
  show wpAny _ _ (if (some (Value.ref f) == some Value.none) = true then _ else _) _ _ _
  rw [if_neg (by simp)]
  refine wpAny_bind (m := callSpecialUnlessNone? (.ref b) (Str.ofString "__contains__") [v] _) ?_
  unfold callSpecialUnlessNone?
  refine wpAny_bind (special_own KX J hs ?_)
  refine wpAny_holding (wpAny_bind ((PySem.W.bind_fn KX _ (beq_iff_eq.mp hf)).here ?_))
  show wpAny _ _ (if (Value.ref f == Value.none) = true then _ else _) _ _ _
  rw [if_neg (by simp)]
  refine wpAny_bind (own_call (vs := [.ref b, x]) G hr hfr hb I (.cons rfl (.cons rx .nil)) hsp fun w u H' s' I' rw q => ?_)
  obtain ⟨r, rfl, q⟩ := q
  obtain rfl : u = Value.bool r := rw
  exact wpAny_pure (wpAny_truthy_bool (hz r H' s' I' q))
/-- x in o of an own instance by the class's own __contains__ -/
theorem op_inO (G : FnOk X.prog X.w X.K X.mg X.base CX0 k f fd ps sp) (hr : Room k X.A) (hb : Binds X.K fd ps []) (hs : PySem.W.findIn X.K (.ref C) "__contains__" = some (some (.ref f))) (hf : PySem.W.isFn X.K (.ref f) = true) : OpR X (compareOp .In) (rInO false C sp) := by
  intro pins s σ H x y v u Q I rx ry h
  obtain ⟨b, dx, fs, rfl, hB, hsp⟩ := h
  obtain rfl : u = Value.ref b := ry
  show wpAny (model X.prog X.w) X.A (do return Value.bool (← contains (.ref b) v)) _ X.xe s
  refine wpAny_bind (contains_own (R := fun r H' => Q (.bl (if false = true then !r else r)) H') G hr rfl hb hs hf I hB rx hsp fun r H' s' I' q => wpAny_pure ?_)
  show EP X pins σ Q (Value.bool r) s'
  exact ⟨.bl r, H', I', rfl, q⟩
theorem op_notinO (G : FnOk X.prog X.w X.K X.mg X.base CX0 k f fd ps sp) (hr : Room k X.A) (hb : Binds X.K fd ps []) (hs : PySem.W.findIn X.K (.ref C) "__contains__" = some (some (.ref f))) (hf : PySem.W.isFn X.K (.ref f) = true) : OpR X (compareOp .NotIn) (rInO true C sp) := by
  intro pins s σ H x y v u Q I rx ry h
  obtain ⟨b, dx, fs, rfl, hB, hsp⟩ := h
  obtain rfl : u = Value.ref b := ry
  show wpAny (model X.prog X.w) X.A (do return Value.bool (!(← contains (.ref b) v))) _ X.xe s
  refine wpAny_bind (contains_own (R := fun r H' => Q (.bl (if true = true then !r else r)) H') G hr rfl hb hs hf I hB rx hsp fun r H' s' I' q => wpAny_pure ?_)
  show EP X pins σ Q (Value.bool (!r)) s'
  exact ⟨.bl (!r), H', I', rfl, q⟩
end
end LF

set_option Elab.async false
set_option linter.all false
set_option maxRecDepth 100000
set_option maxHeartbeats 4000000
namespace LF
open PySem PySem.Spec PyProof.Rows L2
/-- o.m(e, ..), what is raised is wished for at the caller's slots -/
def tMethA (C : Addr) (m : Str) (sp : Sp) (E : L2.St → XK) (ta : TE) (t : TA) : TE := fun σ H Q => ta σ H fun x H1 => ∃ a dx fs, x = .ref a ∧ H1 a = some (.ins C dx fs) ∧ fs.lookup m = none ∧ t σ H1 fun vs H2 => sp (x :: vs) H2 Q (E σ)
theorem pe_methA {X : Cx} {CX : CXT} {k : Nat} {C f : Addr} {fd : FuncData} {ps : List Str} {m : Str} {sp : Sp} {E : L2.St → XK} {o e : Expr} {es : List Expr} {ta : TE} {t : TA} {apos pos : Pos} {pl : Sem Bool} (he : PE X o ta) (c : Cls X.K C) (hm : Meth X.K C m f)
    (F : FnOk X.prog X.w X.K X.mg X.base CX k f fd ps sp) (hr : Room k X.A) (hb : Binds X.K fd ps []) (hx : ∀ σ, PassesAt CX X σ (E σ)) (ha : PA X (e :: es) t)
    (hst : starEach (e :: es) X.env = (false, eval e X.env) :: starEach es X.env := by rfl) (hpl : (backTo pos (starEach es X.env)).any (·.1) = false := by rfl)
    (ht : eval (.Call (.Attribute o m apos) (e :: es) [] pos) X.env = (do
      let ov ← eval o X.env
      standAt apos.atName
      let (f, first) ← holding [ov] (getMethod ov m pl)
      callWith pos f first (backTo pos (starEach (e :: es) X.env)) (backToKw pos (keywordEach [] X.env))) := by rfl) :
    PE X (.Call (.Attribute o m apos) (e :: es) [] pos) (tMethA C m sp E ta t) := by
  refine ⟨fun pins s σ H Q I h => ?_⟩
  refine PySem.W.methodCall_KW (pl := pl) (thn (he.run pins s σ H _ I h) fun u s1 ⟨x, H1, I1, rx, a, dx, fs, ex, ea, l, q⟩ => ?_) ht
  subst ex
  obtain rfl : u = Value.ref a := rx
  refine getmeth_ok I1 ea c hm l ?_
  refine PySem.W.callWith_K (first := [.ref a]) (h₀ := X.base) I.ok.mod.kin hm.kp (thn (ha.run pos pins s1 σ H1 _ I1 q) fun us s2 ⟨vs, H2, I2, r, q2⟩ => ⟨I2.kIn, ?_⟩) hst hpl
  exact run_fnSD (dvs := []) (ds := []) (us := .ref a :: us) (vs := .ref a :: vs) F hr hb .nil (hx σ) I2 (.cons rfl r) (by rw [List.append_nil]; exact q2)
end LF

set_option Elab.async false
set_option linter.all false
set_option maxRecDepth 100000
set_option maxHeartbeats 4000000
namespace K5
open PySem PySem.Spec PyProof.Rows L2 LF
theorem kv_length (es : List (Str × V)) : (kv es).length = es.length := by unfold kv; rw [List.length_map]
/-- a comprehension over a package's entries, nothing tracked is changed: filter and map -/
theorem lc_keys {d D : Addr} {od : Obj} {L : Hp} {es : List (Str × V)} {tt : TT} {te : TE} {j : Nat} {σ : L2.St} {Qd : Hp → Prop} (p : Str × V → Bool) (f : Str × V → V) (hD : L D = none) (hl : L d = some (.frz od (.dK (kv es)))) (hlen : es.length < sizeLine)
    (ht : ∀ e H1 (R : Bool → Hp → Prop), e ∈ es → Same L H1 → (∀ H3, Same H1 H3 → R (p e) H3) → tt ((wipe σ [j]).set j (some (.str e.1))) H1 R)
    (he : ∀ e H1 (R : V → Hp → Prop), e ∈ es → p e = true → Same L H1 → (∀ H3, Same H1 H3 → R (f e) H3) → te ((wipe σ [j]).set j (some (.str e.1))) H1 R)
    (hd : ∀ H', Same L H' → H' D = some (.lst ((es.filter p).map f)) → Qd H') :
    ∃ W : Nat → Nat → Hp → Prop, (∃ m, W 0 m (upd L D (.lst []))) ∧ ∀ i m H, W i m H →
      ((Itk d od (kv es)).stop i H ∧ Qd H) ∨ ((Itk d od (kv es)).go i H ∧ ∃ Nx : Hp → Prop, (∀ H', Nx H' → ∃ m', m' < m ∧ W (i + 1) m' H') ∧ ∀ x H', (Itk d od (kv es)).yld i H x H' → gName j x (wipe σ [j]) H' fun σ2 H2 => wipe σ2 [j] = wipe σ [j] ∧ tt σ2 H2 fun b H3 =>
        if b = true then te σ2 H3 fun y H4 => ∃ acc, H4 D = some (.lst acc) ∧ acc.length < sizeLine ∧ Nx (upd H4 D (.lst (acc ++ [y]))) else Nx H3) := by
  refine lc_it walk_keys (fun i H' => Same L H' ∧ H' D = some (.lst (((es.take i).filter p).map f))) ⟨same_new hD, upd_same⟩ (fun i H' _ h => h.1 _ _ hl) ?_ ?_
  · rintro i x H1 H2 hi ⟨sm, hd1⟩ ⟨rfl, k, v, hk, rfl⟩
    obtain ⟨pth, rfl, hie, hm⟩ := kv_get hk
    have et : es.take (i + 1) = es.take i ++ [(pth, v)] := by rw [List.take_add_one, hie]; rfl
    have hl : (((es.take i).filter p).map f).length < sizeLine := by
      rw [List.length_map]
      have h1 : ((es.take i).filter p).length ≤ (es.take i).length := List.length_filter_le _ _
      have h2 : (es.take i).length ≤ es.length := by rw [List.length_take]; exact Nat.min_le_right _ _
      omega
    refine ⟨?_, ht (pth, v) H2 _ hm sm fun H3 s3 => ?_⟩
    · show (((σ.set j none).set j (some (V.str pth))).set j none) = σ.set j none
      simp
    · cases hp : p (pth, v) with
      | true =>
        refine iteT (he (pth, v) H3 _ hm hp (sm.trans s3) fun H4 s4 => ?_)
        refine ⟨_, s4 _ _ (s3 _ _ hd1), hl, same_upd hD ((sm.trans s3).trans s4), ?_⟩
        rw [upd_same, et, List.filter_append, List.map_append]
        simp [hp]
      | false =>
        refine iteF ⟨sm.trans s3, ?_⟩
        rw [s3 _ _ hd1, et, List.filter_append, List.map_append]
        simp [hp]
  · rintro H1 ⟨sm, hd1⟩
    rw [kv_length, List.take_length] at hd1
    exact hd H1 sm hd1
/-- what an item is, in a word -/
def kindV : V → Str
  | .non => "folder"
  | .int _ => "file"
  | _ => "reference"
def kindE (es : List (Str × V)) (z : Str) : V := if z = "" then .str "folder" else match valV (kv es) (.inr z) with | none => .non | some v => .str (kindV v)
def pathsOf (es : List (Str × V)) (kd : Str) : List Str := (es.filter fun e => decide (kindV e.2 = kd)).map (·.1)
def belowB (z y : Str) : Bool := if y = "" then !decide (z = "") else PySem.Txt.startswith z (y ++ c_sl)
def namesOf (es : List (Str × V)) (z : Str) : List Str := (es.filter fun e => decide ((PySem.Txt.rpartition e.1 c_sl).1 = z)).map fun e => ((parts e.1).getLast?).getD ""
def plainE (es : List (Str × V)) (z : Str) : Bool := decide (valV (kv es) (.inr z) = some .non) && !((pathsOf es "reference").any fun q => belowB q z)
def inE (es : List (Str × V)) (z : Str) : Bool := (valV (kv es) (.inr z)).isSome
def spKindOf : Sp := fun vs H Q _ => ∃ x, vs = [x] ∧ Plain x ∧ ∀ H', Same H H' → Q (.str (kindV x)) H'
def spCheckX (K : PySem.W.Frag) (CP : Addr) : Sp := fun vs H Q E => ∃ (x : V) (b : Bool), vs = [x] ∧ isOk K H x isPt b ∧ (b = true → ∀ H', Same H H' → Q .non H') ∧ (b = false → ∀ H' d, Same H H' → H' d = some (.xd [("path", x)]) → E (.ref CP) (some d) H')
def spKind (K : PySem.W.Frag) (C CP : Addr) : Sp := fun vs H Q E => ∃ p es x b, vs = [.ref p, x] ∧ PkAt C H p es ∧ OkE es ∧ isOk K H x isPt b ∧ (∀ z, x = .str z → b = true → ∀ H', Same H H' → Q (kindE es z) H') ∧ (b = false → ∀ H' d, Same H H' → H' d = some (.xd [("path", x)]) → E (.ref CP) (some d) H')
/-- content or target: the item of an entry of this kind -/
def spGet (K : PySem.W.Frag) (C CP CF : Addr) (kd : Str) : Sp := fun vs H Q E => ∃ p es x b, vs = [.ref p, x] ∧ PkAt C H p es ∧ OkE es ∧ isOk K H x isPt b ∧
  (∀ z v, x = .str z → b = true → z ≠ "" → valV (kv es) (.inr z) = some v → kindV v = kd → ∀ H', Same H H' → Q v H') ∧
  (∀ z, x = .str z → b = true → kindE es z ≠ .str kd → ∀ H' d, Same H H' → H' d = some (.xd [("path", x)]) → E (.ref CF) (some d) H') ∧ (b = false → ∀ H' d, Same H H' → H' d = some (.xd [("path", x)]) → E (.ref CP) (some d) H')
def spPathsOf (C : Addr) : Sp := fun vs H Q _ => ∃ p es kd, vs = [.ref p, .str kd] ∧ PkAt C H p es ∧ OkE es ∧ ∀ H' q, Same H H' → H q = none → H' q = some (.lst ((pathsOf es kd).map V.str)) → Q (.ref q) H'
def spRefs (C : Addr) (kd : Str) : Sp := fun vs H Q _ => ∃ p es, vs = [.ref p] ∧ PkAt C H p es ∧ OkE es ∧ ∀ H' q, Same H H' → H q = none → H' q = some (.lst ((pathsOf es kd).map V.str)) → Q (.ref q) H'
def spIn2 (K : PySem.W.Frag) (C : Addr) : Sp := fun vs H Q _ => ∃ p es x, vs = [.ref p, x] ∧ PkAt C H p es ∧ ((∃ z, x = .str z ∧ ∀ H', Same H H' → Q (.bl (inE es z)) H') ∨ ((∃ t, TyX K H x t ∧ PySem.W.kitOne K t (.type "str") = some false) ∧ ∀ H', Same H H' → Q (.bl false) H'))
def spPlain (K : PySem.W.Frag) (C : Addr) : Sp := fun vs H Q _ => ∃ p es x, vs = [.ref p, x] ∧ PkAt C H p es ∧ OkE es ∧ ((∃ z : Str, x = .str z ∧ z.length ≤ 1000000 ∧ ∀ H', Same H H' → Q (.bl (plainE es z)) H') ∨ ((∃ t, TyX K H x t ∧ PySem.W.kitOne K t (.type "str") = some false) ∧ ∀ H', Same H H' → Q (.bl false) H'))
def spBelow : Sp := fun vs H Q _ => ∃ z y : Str, vs = [.str z, .str y] ∧ z.length ≤ 1000000 ∧ y.length ≤ 1000000 ∧ ∀ H', Same H H' → Q (.bl (belowB z y)) H'
abbrev s_is_below : Stmt := topS 19
theorem sc_is_below : FnScope ["path", "folder"] ["path", "folder"] (defScope s_is_below) := ⟨rfl, rfl, rfl, by decide +kernel, rfl, by decide +kernel, by decide +kernel⟩
abbrev s_kind_of : Stmt := topS 30
theorem sc_kind_of : FnScope ["item"] ["item"] (defScope s_kind_of) := ⟨rfl, rfl, rfl, by decide +kernel, rfl, by decide +kernel, by decide +kernel⟩
abbrev s_kind : Stmt := inClass s_Package 2
theorem sc_kind : FnScope ["self", "path"] ["self", "path"] (defScope s_kind) := ⟨rfl, rfl, rfl, by decide +kernel, rfl, by decide +kernel, by decide +kernel⟩
abbrev s_content : Stmt := inClass s_Package 3
theorem sc_content : FnScope ["self", "path"] ["self", "path"] (defScope s_content) := ⟨rfl, rfl, rfl, by decide +kernel, rfl, by decide +kernel, by decide +kernel⟩
abbrev s_target : Stmt := inClass s_Package 4
theorem sc_target : FnScope ["self", "path"] ["self", "path"] (defScope s_target) := ⟨rfl, rfl, rfl, by decide +kernel, rfl, by decide +kernel, by decide +kernel⟩
abbrev s_names : Stmt := inClass s_Package 5
abbrev N_names : List Str := ["self", "path", "place"]
theorem sc_names : FnScope ["self", "path"] ["self", "path"] (defScope s_names) := ⟨rfl, rfl, rfl, by decide +kernel, rfl, by decide +kernel, by decide +kernel⟩
abbrev s_is_plain : Stmt := inClass s_Package 6
abbrev N_is_plain : List Str := ["self", "thing", "place"]
theorem sc_is_plain : FnScope ["self", "thing"] ["self", "thing"] (defScope s_is_plain) := ⟨rfl, rfl, rfl, by decide +kernel, rfl, by decide +kernel, by decide +kernel⟩
abbrev s_references : Stmt := inClass s_Package 10
theorem sc_references : FnScope ["self"] ["self"] (defScope s_references) := ⟨rfl, rfl, rfl, by decide +kernel, rfl, by decide +kernel, by decide +kernel⟩
abbrev s_paths_of : Stmt := inClass s_Package 11
abbrev N_paths_of : List Str := ["self", "kind", "path"]
theorem sc_paths_of : FnScope ["self", "kind", "path"] ["self", "kind"] (defScope s_paths_of) := ⟨rfl, rfl, rfl, by decide +kernel, rfl, by decide +kernel, by decide +kernel⟩
abbrev s_contains : Stmt := inClass s_Package 14
theorem sc_contains : FnScope ["self", "thing"] ["self", "thing"] (defScope s_contains) := ⟨rfl, rfl, rfl, by decide +kernel, rfl, by decide +kernel, by decide +kernel⟩
end K5

set_option Elab.async false
set_option linter.all false
set_option maxRecDepth 100000
set_option maxHeartbeats 4000000
namespace K5
open PySem PySem.Spec PyProof.Rows L2 LF
section
variable {P : Program} {w : World} {K : PySem.W.Frag} {mg : Str → Option Value} {base : Heap} {tk1 tk2 : Tok}
theorem ok_kind_of {f : Addr} {fd : FuncData} (F : Fun K "kind_of" "kind_of" s_kind_of f fd) (T : Txt K mg tk1 tk2) : FnOk P w K mg base CX0 1 f fd ["item"] spKindOf := by
  refine F.ok sc_kind_of (fun vs H Q E h => ?_) (fun cdv A outer s H vs Q E hr h => ?_)
  · obtain ⟨x, rfl, _⟩ := h
    rfl
  refine ⟨_, (pss_cons (ps_if (pt_cmpR op_isN (pv 0) pe_non (nomark _)) (pss_one (ps_ret pe_str)) pss_nil)
    (pss_cons (ps_if (pt_val (pe_callB call_isi (by rfl) T.n_isinstance (by decide +kernel) (pa_cons (pv 0) (pa_cons (pe_bltn (v := .ty "int") (by rfl) T.n_int (by decide +kernel) rfl) pa_nil)))) (pss_one (ps_ret pe_str)) pss_nil)
    (pss_one (ps_ret pe_str)))), ?_⟩
  obtain ⟨x, rfl, hx, hq⟩ := h
  rcases hx with rfl | ⟨i, rfl⟩ | ⟨z, rfl, hz⟩
  · refine ⟨_, rfl, rfl, _, rfl, iteT ?_⟩
    exact hq H (Same.refl H)
  · refine ⟨_, rfl, rfl, _, rfl, iteF ?_⟩
    refine ⟨_, rfl, _, .ty "int", _, _, true, rfl, .ty _, .base (.int i), kit_ty (by decide +kernel), ?_⟩
    exact ⟨_, rfl, iteT (hq H (Same.refl H))⟩
  · refine ⟨_, rfl, rfl, _, rfl, iteF ?_⟩
    refine ⟨_, rfl, _, .ty "int", _, _, false, rfl, .ty _, .base (.str z), kit_ty (by decide +kernel), ?_⟩
    exact ⟨_, rfl, iteF (hq H (Same.refl H))⟩
theorem ok_below {f : Addr} {fd : FuncData} (F : Fun K "is_below" "is_below" s_is_below f fd) : FnOk P w K mg base CX0 1 f fd ["path", "folder"] spBelow := by
  refine F.ok sc_is_below (fun vs H Q E h => ?_) (fun cdv A outer s H vs Q E hr h => ?_)
  · obtain ⟨z, y, rfl, _⟩ := h
    rfl
  refine ⟨_, (pss_cons (ps_if (pt_cmpR op_eq (pv 1) pe_str (nomark _)) (pss_one (ps_ret (pe_cmpR op_ne (pv 0) pe_str (nomark _)))) pss_nil)
    (pss_one (ps_ret (pe_m1 PySem.F.slot_str_startswith PySem.F.type_str_startswith mt_startswith (pv 0) (pe_op op_add_str (pv 1) pe_str) rfl rfl rfl)))), ?_⟩
  obtain ⟨z, y, rfl, hz, hy, hq⟩ := h
  have hbig := sizeLine_big
  have hfin := hq H (Same.refl H)
  unfold belowB at hfin
  refine ⟨_, rfl, rfl, _, rfl, ?_⟩
  rw [str_dec]
  refine ifD (fun h1 => ?_) (fun h1 => ?_)
  · rw [if_pos h1] at hfin
    refine ⟨_, rfl, rfl, ?_⟩
    rw [str_dec]
    exact hfin
  · rw [if_neg h1] at hfin
    have c1 : c_sl.length = 1 := by decide +kernel
    refine ⟨_, rfl, ⟨_, rfl⟩, _, rfl, y, c_sl, rfl, rfl, by rw [c1]; omega, _, _, rfl, rfl, hfin⟩
theorem ok_check_pathX {f f1 CP fP : Addr} {fd fd1 : FuncData} (F : Fun K "check_path" "check_path" s_check_path f fd) (L : PySem.BadPathX.PathTxt K mg CP fP) (d_is_path : DefAt P w K mg base "is_path" 2 f1 fd1 ["thing"] (spPath K)) :
    FnOk P w K mg base (L2.CX P w) 4 f fd ["path"] (spCheckX K CP) := by
  refine F.okX sc_check_path (fun vs H Q E h => ?_) (fun cdv A outer s H vs Q E hr h => ?_)
  · obtain ⟨x, b, rfl, _⟩ := h
    rfl
  refine ⟨_, (pss_one (ps_if (pt_not (pt_val (pe_callD d_is_path (hr.mono (by decide)) (pa_cons (pv 0) pa_nil)))) (pss_one (ps_raisePath rfl L hr (takes_of rfl rfl rfl rfl) (by exact (pa_cons (pv 0) pa_nil)))) pss_nil)), ?_⟩
  obtain ⟨x, b, rfl, hx, hq, he⟩ := h
  refine ⟨_, rfl, x, b, rfl, hx, fun H' sm => ⟨_, rfl, ?_⟩⟩
  cases b with
  | true => exact iteF (hq rfl H' sm)
  | false => exact iteT ⟨_, rfl, x, rfl, fun d hd => he rfl _ d (sm.trans (same_new hd)) upd_same⟩
theorem DGet.kv {H : Hp} {d : Addr} {es : List (Str × V)} {z : Str} (h : H d = some (.dK (kv es))) : DGet H d (.str z) (valV (kv es) (.inr z)) := DGet.k (k := Sum.inr z) h
theorem mem_val {es : List (Str × V)} (nd : (es.map (·.1)).Nodup) {z : Str} {v : V} (hv : valV (kv es) (.inr z) = some v) : (z, v) ∈ es := by
  obtain ⟨e, he1, rfl⟩ := List.mem_map.mp (val_key hv)
  have := val_mem nd (p := e.1) (v := e.2) he1
  rw [hv] at this
  rw [Option.some.inj this]; exact he1
theorem pathsOf_map (es : List (Str × V)) (kd : Str) : (es.filter fun e => decide (kindV e.2 = kd)).map (fun e => V.str e.1) = (pathsOf es kd).map V.str := by
  unfold pathsOf
  rw [List.map_map]; rfl
theorem ok_paths_of {f f1 C : Addr} {fd fd1 : FuncData} (F : Fun K "paths_of" "Package.paths_of" s_paths_of f fd) (R : PkTxt K mg C) (d_kind_of : DefAt P w K mg base "kind_of" 1 f1 fd1 ["item"] spKindOf) : FnOk P w K mg base CX0 2 f fd ["self", "kind"] (spPathsOf C) := by
  refine F.ok sc_paths_of (fun vs H Q E h => ?_) (fun cdv A outer s H vs Q E hr h => ?_)
  · obtain ⟨p, es, kd, rfl, _⟩ := h
    rfl
  have hu1 := hu_of hr
  refine ⟨_, pss_one (ps_ret (pe_lock (pe_lc (own := [("path", 2)]) rfl sc_paths_of.nd (pi_keys (pe_fld (pv 0) rfl)) (blkOk_by (N := N_paths_of) (sc := defScope s_paths_of) (by decide +kernel)) (fun _ _ _ _ _ => pg_name (i := 2) sc_paths_of.nd rfl (Or.inl rfl))
    (fun _ _ _ _ _ => pts_one (pt_cmpR op_eq (pe_callD d_kind_of (hr.mono (by decide)) (pa_cons (pe_dget hu1 (show PE _ _ (tFld K (tVar 0) "entries") from pe_fld (pv 0) rfl) (pv 2) (fun _ _ => rfl)) pa_nil)) (pv 1) (nomark _))) (fun _ _ _ _ _ => pv 2)))), ?_⟩
  obtain ⟨p, es, kd, rfl, ⟨dx, d, ⟨xx_hp, hp, zz_hp⟩, hd⟩, ok, hq⟩ := h
  have npd : p ≠ d := ne_of hp hd (by intro z; cases z)
  refine ⟨d, _, hd, True.intro, fun od => ?_⟩
  refine ⟨_, rfl, p, C, dx, _, _, rfl, (by rw [upd_ne npd]; exact hp), R.cl, R.nE, lk_entries d, ?_⟩
  refine ⟨d, od, rfl, Or.inl ⟨kv es, upd_same, fun D hD => ?_⟩⟩
  have hl0 : (upd H d (.frz od (.dK (kv es)))) d = some (.frz od (.dK (kv es))) := upd_same
  have hp0 : (upd H d (.frz od (.dK (kv es)))) p = some (.ins C dx (pkFs d xx_hp)) := by rw [upd_ne npd]; exact hp
  have hs0 : ∀ H', Same (upd H d (.frz od (.dK (kv es)))) H' → Same H (upd H' d (.dK (kv es))) := fun H' s' => same_unlock hd s'
  have hDH : H D = none := by
    have nd : D ≠ d := fun e => by rw [e, upd_same] at hD; cases hD
    rw [upd_ne nd] at hD; exact hD
  generalize (upd H d (.frz od (.dK (kv es)))) = L at hl0 hp0 hs0 hD
  have hlen := ok.len
  refine lc_keys (fun e => decide (kindV e.2 = kd)) (fun e => .str e.1) hD hl0 (Nat.lt_of_le_of_lt hlen (by decide)) ?_ ?_ ?_
  · rintro ⟨pth, v⟩ H1 R1 hm sm hR
    have hv := val_mem ok.nd hm
    have hg : DGet H1 d (.str pth) (some v) := .inl ⟨kv es, .inr pth, .inr ⟨od, sm _ _ hl0⟩, rfl, hv.symm⟩
    refine ⟨_, rfl, p, C, dx, _, _, rfl, sm _ _ hp0, R.cl, R.nE, lk_entries d, ?_⟩
    refine ⟨_, rfl, d, v, rfl, hg, v, rfl, (ok.it _ hm).1, fun H4 s4 => ?_⟩
    refine ⟨_, rfl, rfl, _, rfl, ?_⟩
    rw [str_dec]
    exact hR H4 s4
  · rintro ⟨pth, v⟩ H1 R1 hm hp sm hR
    exact ⟨_, rfl, hR H1 (Same.refl H1)⟩
  · rintro H1 sm hd1
    refine ⟨sm _ _ hl0, ?_⟩
    have nDd : D ≠ d := Ne.symm (ne_of_none hl0 hD)
    rw [pathsOf_map] at hd1
    exact hq _ D (hs0 _ sm) hDH (by rw [upd_ne nDd]; exact hd1)
theorem ok_references {f f1 C : Addr} {fd fd1 : FuncData} (F : Fun K "references" "Package.references" s_references f fd) (R : PkTxt K mg C) (mP : Meth K C "paths_of" f1) (FP : FnOk P w K mg base CX0 2 f1 fd1 ["self", "kind"] (spPathsOf C)) (bP : Binds K fd1 ["self", "kind"] []) : FnOk P w K mg base CX0 3 f fd ["self"] (spRefs C "reference") := by
  refine F.ok sc_references (fun vs H Q E h => ?_) (fun cdv A outer s H vs Q E hr h => ?_)
  · obtain ⟨p, es, rfl, _⟩ := h
    rfl
  refine ⟨_, pss_one (ps_ret (pe_meth (pv 0) R.cl mP FP hr bP .nil pass0 (pa_cons pe_str pa_nil))), ?_⟩
  obtain ⟨p, es, rfl, ⟨dx, d, ⟨xx_hp, hp, zz_hp⟩, hd⟩, ok, hq⟩ := h
  exact ⟨_, rfl, p, dx, _, rfl, hp, lk_no d (by decide +kernel), p, es, "reference", rfl, ⟨dx, d, ⟨xx_hp, hp, zz_hp⟩, hd⟩, ok, hq⟩
theorem ok_contains {f C : Addr} {fd : FuncData} (F : Fun K "__contains__" "Package.__contains__" s_contains f fd) (T : Txt K mg tk1 tk2) (R : PkTxt K mg C) : FnOk P w K mg base CX0 1 f fd ["self", "thing"] (spIn2 K C) := by
  refine F.ok sc_contains (fun vs H Q E h => ?_) (fun cdv A outer s H vs Q E hr h => ?_)
  · obtain ⟨p, es, x, rfl, _⟩ := h
    rfl
  have hu1 := hu_of hr
  refine ⟨_, pss_one (ps_ret (pe_and (pe_callB call_isi (by rfl) T.n_isinstance (by decide +kernel) (pa_cons (pv 1) (pa_cons (pe_bltn (v := .ty "str") (by rfl) T.n_str (by decide +kernel) rfl) pa_nil))) (pe_one (pe_cmp (pc_din hu1 (pv 1) (pe_fld (pv 0) rfl)) rfl)))), ?_⟩
  obtain ⟨p, es, x, rfl, ⟨dx, d, ⟨xx_hp, hp, zz_hp⟩, hd⟩, h⟩ := h
  rcases h with ⟨z, rfl, hq⟩ | ⟨⟨t, ty, ht⟩, hq⟩
  · refine ⟨_, rfl, _, .ty "str", _, _, true, rfl, .ty _, .base (.str _), kit_str, _, rfl, iteT ?_⟩
    exact ⟨_, rfl, _, rfl, p, C, dx, _, _, rfl, hp, R.cl, R.nE, lk_entries d, d, _, rfl, DGet.kv hd, hq H (Same.refl H)⟩
  · refine ⟨_, rfl, _, .ty "str", _, _, false, rfl, .ty _, ty, ht, _, rfl, iteF ?_⟩
    exact hq H (Same.refl H)
end
end K5

set_option Elab.async false
set_option linter.all false
set_option maxRecDepth 100000
set_option maxHeartbeats 4000000
namespace LF
open PySem PySem.Spec PyProof.Rows L2 TL K5
theorem joinL_snoc (n : List Nat) : ∀ (l : List (List Nat)), l ≠ [] → joinL [47] (l ++ [n]) = joinL [47] l ++ 47 :: n
  | [], h => absurd rfl h
  | [p], _ => rfl
  | p :: q :: r, _ => by
    show p ++ ([47] ++ joinL [47] ((q :: r) ++ [n])) = (p ++ ([47] ++ joinL [47] (q :: r))) ++ 47 :: n
    rw [joinL_snoc n (q :: r) (by simp)]
    simp [List.append_assoc]
theorem join_snoc {init : List Str} (n : Str) (hne : init ≠ []) : tl (PySem.Txt.join c_sl (init ++ [n])) = tl (PySem.Txt.join c_sl init) ++ 47 :: tl n := by
  rw [join_eq, join_eq, tl_join, tl_join, tl_sl, List.map_append]
  exact joinL_snoc (tl n) _ (by simpa using hne)
theorem at_mem {x : Str} {i : Nat} (h : StrLaws.At x c_sl x.length i) : 47 ∈ (tl x).drop i := by
  have h1 := (at_iff (by rw [tl_sl]; simp) i).mp h
  rw [tl_sl] at h1
  have h2 : ((tl x).drop i).take 1 = [47] := eq_of_beq h1
  exact List.mem_of_mem_take (by rw [h2]; exact List.mem_singleton_self _)
/-- a path's parent -/
theorem rpart_join {ns : List Str} (hne : ns ≠ []) (h : ∀ n ∈ ns, isNm n = true) : (PySem.Txt.rpartition (PySem.Txt.join c_sl ns) c_sl).1 = PySem.Txt.join c_sl ns.dropLast := by
  obtain ⟨init, n, rfl⟩ : ∃ init n, ns = init ++ [n] := ⟨ns.dropLast, ns.getLast hne, (List.dropLast_concat_getLast hne).symm⟩
  have hn : 47 ∉ tl n := isNm_sl (h n (by simp))
  rw [List.dropLast_concat]
  unfold PySem.Txt.rpartition
  by_cases hi : init = []
  · subst hi
    have e : PySem.Txt.join c_sl ([] ++ [n]) = n := by
      apply ext_tl
      rw [join_eq, tl_join]; rfl
    rw [e, join_nil0]
    rcases StrLaws.last_spec n c_sl with ⟨h1, _⟩ | ⟨i, h1, h2, _⟩
    · rw [h1]; rfl
    · exact absurd (List.mem_of_mem_drop (at_mem h2)) hn
  · have et := join_snoc n hi
    generalize hx : PySem.Txt.join c_sl (init ++ [n]) = x at et
    generalize hy : PySem.Txt.join c_sl init = y at et
    have hat : StrLaws.At x c_sl x.length (tl y).length := by
      refine (at_iff (by rw [tl_sl]; simp) _).mpr ?_
      rw [et, tl_sl, List.drop_left]
      rfl
    rcases StrLaws.last_spec x c_sl with ⟨_, h2⟩ | ⟨i, h1, h2, h3⟩
    · exact absurd hat (h2 _)
    · have hle : (tl y).length ≤ i := Nat.le_of_not_lt fun q => h3 _ q hat
      have hie : i = (tl y).length := by
        refine Nat.le_antisymm (Nat.le_of_not_lt fun q => ?_) hle
        have hm := at_mem h2
        have e : i = (tl y).length + (1 + (i - (tl y).length - 1)) := by omega
        rw [et, e, ← List.drop_drop, List.drop_left, ← List.drop_drop] at hm
        exact hn (List.mem_of_mem_drop hm)
      rw [h1]
      show Builtin.Str.strSub x 0 i = y
      apply ext_tl
      rw [tl_strSub, hie, List.drop_zero, Nat.sub_zero, et, List.take_left]
end LF

set_option Elab.async false
set_option linter.all false
set_option maxRecDepth 100000
set_option maxHeartbeats 4000000
namespace K5
open PySem PySem.Spec PyProof.Rows L2 LF TL
theorem join_one (s : Str) : jn [s] = s := by
  apply TL.ext_tl
  show TL.tl (PySem.Txt.join c_sl [s]) = _
  rw [join_eq, tl_join]; rfl
theorem join_pair {ns : List Str} (l : Str) (h : ns ≠ []) : jn [jn ns, l] = jn (ns ++ [l]) := by
  apply TL.ext_tl
  have h1 := join_snoc (init := [jn ns]) l (by simp)
  have h2 := join_snoc (init := ns) l h
  have e : [jn ns] ++ [l] = [jn ns, l] := rfl
  rw [e] at h1
  show TL.tl (PySem.Txt.join c_sl [jn ns, l]) = TL.tl (PySem.Txt.join c_sl (ns ++ [l]))
  rw [h1, h2]
  show TL.tl (jn [jn ns]) ++ _ = _
  rw [join_one]
/-- what is drawn for an item -/
def ItemD (v : V) : Prop := v = .non ∨ (∃ i : Int, v = .int i ∧ 0 ≤ i ∧ i < 3) ∨ ∃ ms : List Str, v = .str (jn ms) ∧ ms.length ≤ 3 ∧ ∀ s ∈ ms, isNm s = true
def Nm4 (z : Str) (ns : List Str) : Prop := z = jn ns ∧ ns ≠ [] ∧ ns.length ≤ 4 ∧ ∀ s ∈ ns, isNm s = true
/-- drawn entries: with all folders ahead -/
structure Tree (L : List Str) (m : Nat) (es : List (Str × V)) : Prop where
  nm : ∀ e ∈ es, ∃ ns, Nm4 e.1 ns ∧ ∀ s ∈ ns, s ∈ L
  it : ∀ e ∈ es, ItemD e.2
  up : ∀ e ∈ es, ∀ s ∈ begs e.1, (s, V.non) ∈ es
  nd : (es.map (·.1)).Nodup
  len : es.length ≤ m
/-- a folder of them, or the root -/
def Fold (L : List Str) (es : List (Str × V)) (f : Str) : Prop := f = "" ∨ ∃ ns, Nm4 f ns ∧ (∀ s ∈ ns, s ∈ L) ∧ (f, V.non) ∈ es
theorem Tree.nil {L : List Str} {m : Nat} : Tree L m [] := ⟨fun _ h => (nomatch h), fun _ h => (nomatch h), fun _ h => (nomatch h), .nil, Nat.zero_le _⟩
theorem begs_snoc {ns : List Str} {l : Str} (hn : ∀ s ∈ ns, isNm s = true) (hl : isNm l = true) : ∀ s ∈ begs (jn (ns ++ [l])), s ∈ begs (jn ns) ∨ (ns ≠ [] ∧ s = jn ns) := by
  intro s hs
  have hn2 : ∀ s ∈ ns ++ [l], isNm s = true := fun s hs => (List.mem_append.mp hs).elim (hn s) fun q => by rw [List.mem_singleton.mp q]; exact hl
  rw [begs_jn hn2] at hs
  obtain ⟨i, hi, rfl⟩ := List.mem_map.mp hs
  have hi2 := List.mem_range.mp hi
  rw [List.length_append, List.length_singleton] at hi2
  have et : (ns ++ [l]).take (i + 1) = ns.take (i + 1) := by rw [List.take_append_of_le_length (by omega)]
  rw [et]
  by_cases hi3 : i + 1 = ns.length
  · refine Or.inr ⟨fun e => by (rw [e] at hi3; cases hi3), ?_⟩
    rw [hi3, List.take_length]
  · refine Or.inl ?_
    rw [begs_jn hn]
    exact List.mem_map.mpr ⟨i, List.mem_range.mpr (by omega), rfl⟩
theorem Tree.add {L : List Str} {m : Nat} {es : List (Str × V)} {f l : Str} {v : V} {p : Str} (t : Tree L m es) (hlen : es.length < m) (hf : Fold L es f) (hl : isNm l = true) (hlL : l ∈ L) (hp : p = jn (([f, l] : List Str).filter fun s : Str => !decide (s = ""))) (hc : PySem.Txt.count p c_sl < 4) (hv : ItemD v) (hno : p ∉ es.map (·.1)) :
    (∃ ns, Nm4 p ns ∧ ∀ s ∈ ns, s ∈ L) ∧ Tree L m (es ++ [(p, v)]) := by
  have hl0 : ¬ l = "" := fun e => by rw [e] at hl; exact absurd hl (by decide +kernel)
  have main : ∃ ns, p = jn (ns ++ [l]) ∧ (∀ s ∈ ns, isNm s = true) ∧ (∀ s ∈ begs p, (s, V.non) ∈ es) ∧ ∀ s ∈ ns, s ∈ L := by
    rcases hf with rfl | ⟨ns, ⟨rfl, h2, h3, h4⟩, h6, h5⟩
    · have e : (([("" : Str), l] : List Str).filter fun s : Str => !decide (s = "")) = [l] := by
        rw [List.filter_cons_of_neg (by simp), List.filter_cons_of_pos (by simpa using hl0), List.filter_nil]
      rw [e] at hp
      refine ⟨[], hp, fun _ h => (nomatch h), fun s hs => ?_, fun _ h => (nomatch h)⟩
      rw [hp] at hs
      have := begs_snoc (ns := []) (fun _ h => (nomatch h)) hl s hs
      rcases this with h | ⟨h, _⟩
      · rw [begs_jn (ns := []) (fun _ h => (nomatch h))] at h
        exact absurd h (by simp)
      · exact absurd rfl h
    · have e : (([jn ns, l] : List Str).filter fun s : Str => !decide (s = "")) = [jn ns, l] := by
        rw [List.filter_cons_of_pos (by simpa using join_ne h2 h4), List.filter_cons_of_pos (by simpa using hl0), List.filter_nil]
      rw [e, join_pair l h2] at hp
      refine ⟨ns, hp, h4, fun s hs => ?_, h6⟩
      rw [hp] at hs
      rcases begs_snoc h4 hl s hs with h | ⟨_, rfl⟩
      · exact t.up _ h5 s h
      · exact h5
  obtain ⟨ns, e1, e2, e3, e4⟩ := main
  have hL2 : ∀ s ∈ ns ++ [l], s ∈ L := fun s hs => (List.mem_append.mp hs).elim (e4 s) fun q => by rw [List.mem_singleton.mp q]; exact hlL
  have hn2 : ∀ s ∈ ns ++ [l], isNm s = true := fun s hs => (List.mem_append.mp hs).elim (e2 s) fun q => by rw [List.mem_singleton.mp q]; exact hl
  have hnm : Nm4 p (ns ++ [l]) := by
    refine ⟨e1, by simp, ?_, hn2⟩
    rw [e1, count_jn (by simp) hn2] at hc
    omega
  refine ⟨⟨_, hnm, hL2⟩, fun e he => ?_, fun e he => ?_, fun e he s hs => ?_, ?_, ?_⟩
  · rcases List.mem_append.mp he with h | h
    · exact t.nm e h
    · rw [List.mem_singleton.mp h]; exact ⟨_, hnm, hL2⟩
  · rcases List.mem_append.mp he with h | h
    · exact t.it e h
    · rw [List.mem_singleton.mp h]; exact hv
  · rcases List.mem_append.mp he with h | h
    · exact List.mem_append_left _ (t.up e h s hs)
    · rw [List.mem_singleton.mp h] at hs
      exact List.mem_append_left _ (e3 s hs)
  · rw [List.map_append, List.map_cons, List.map_nil, List.nodup_append]
    refine ⟨t.nd, by simp, fun x hx y hy e => ?_⟩
    rw [List.mem_singleton.mp hy] at e
    have e' : x = p := e
    rw [e'] at hx
    exact hno hx
  · rw [List.length_append, List.length_singleton]; omega
theorem Fold.more {L : List Str} {es : List (Str × V)} {f : Str} {e : Str × V} (h : Fold L es f) : Fold L (es ++ [e]) f := by
  rcases h with rfl | ⟨ns, h1, h3, h2⟩
  · exact Or.inl rfl
  · exact Or.inr ⟨ns, h1, h3, List.mem_append_left _ h2⟩
def spEntries : Sp := fun vs H Q _ => ∃ (b l : Addr) (L : List Str) (m : Nat), vs = [.ref b, .ref l, .int m] ∧ BagAt H b ∧ l ≠ b ∧ H l = some (.lst (L.map V.str)) ∧ 1 ≤ L.length ∧ L.length ≤ 1000 ∧ (∀ s ∈ L, isNm s = true) ∧ m ≤ 100 ∧
  ∀ (H' : Hp) (d : Addr) (es : List (Str × V)), Keep b H H' → BagAt H' b → H d = none → H' d = some (.dK (kv es)) → Tree L m es → Q (.ref d) H'
abbrev s__law_entries : Stmt := topS 50
abbrev N__law_entries : List Str := ["_law_bag_here", "_law_letters", "_law_many", "_law_found", "_law_folders", "_law_turn", "_law_path_here", "_law_way"]
theorem sc__law_entries : FnScope ["_law_bag_here", "_law_letters", "_law_many", "_law_found", "_law_folders", "_law_turn", "_law_path_here", "_law_way"] ["_law_bag_here", "_law_letters", "_law_many"] (defScope s__law_entries) := ⟨rfl, rfl, rfl, by decide +kernel, rfl, by decide +kernel, by decide +kernel⟩
/-- all that was there but the bag is as it was, beside two new objects -/
structure Turn (L : List Str) (H H' : Hp) (b d l : Addr) (m : Nat) (es : List (Str × V)) (fo : List Str) : Prop where
  kp : Keep b H H'
  bg : BagAt H' b
  hd : H' d = some (.dK (kv es))
  hl : H' l = some (.lst (fo.map V.str))
  tr : Tree L m es
  fd : ∀ f ∈ fo, Fold L es f
  fl : fo.length ≤ m + 1
  f1 : 1 ≤ fo.length
theorem Nm4.short {z : Str} {ns : List Str} (h : Nm4 z ns) : z.length ≤ 36 := by
  have := join_len_le h.2.2.2
  rw [h.1]
  have h3 := h.2.2.1
  show (PySem.Txt.join c_sl ns).length ≤ 36
  omega
theorem Nm4.pl {z : Str} {ns : List Str} (h : Nm4 z ns) : isPl z = true := by
  unfold isPl
  rw [h.1, isPt_join h.2.2.2, parts_join h.2.2.2, Bool.true_and]
  have := List.length_pos_iff.mpr h.2.1
  have h3 := h.2.2.1
  exact decide_eq_true ⟨by omega, by omega⟩
section
variable {P : Program} {w : World} {K : PySem.W.Frag} {mg : Str → Option Value} {base : Heap} {tk1 tk2 : Tok}
theorem ok_entries {f f1 f2 f3 f4 : Addr} {fd fd1 fd2 fd3 fd4 : FuncData} (F : Fun K "_law_entries" "_law_entries" s__law_entries f fd) (T : Txt K mg tk1 tk2) (d_take : DefAt P w K mg base "_law_take" 1 f1 fd1 ["_law_bag_here", "_law_many"] spTake)
    (d_pick : DefAt P w K mg base "_law_pick" 2 f2 fd2 ["_law_bag_here", "_law_some"] (spPick K)) (d_path : DefAt P w K mg base "_law_path" 3 f3 fd3 ["_law_bag_here", "_law_letters", "_law_most"] spLPath) (d_joined : DefAt P w K mg base "_law_joined" 1 f4 fd4 ["_law_bits"] (spJoined K)) :
    FnOk P w K mg base CX0 4 f fd ["_law_bag_here", "_law_letters", "_law_many"] spEntries := by
  refine F.ok sc__law_entries (fun vs H Q E h => ?_) (fun cdv A outer s H vs Q E hr h => ?_)
  · obtain ⟨b, l, L, m, rfl, _⟩ := h
    rfl
  have hu1 := hu_of hr
  refine ⟨_, (pss_cons (ps_par (i := 3) (j := 4) (by rfl) sc__law_entries.nd rfl rfl (by decide) rfl rfl (pa_cons pe_dnewK (pa_cons (pe_lst (pa_cons pe_str pa_nil)) pa_nil)) (by rfl))
    (pss_cons (ps_for PassesOwn.never rfl (pi_range1 (by rfl) T.n_range (pa_cons (pe_callD d_take (hr.mono (by decide)) (pa_cons (pv 0) (pa_cons (pe_op op_add (pv 2) pe_int) pa_nil))) pa_nil)) (pg_name (i := 5) sc__law_entries.nd rfl (Or.inl rfl)) (pss_cons (ps_set (i := 6) sc__law_entries.nd rfl (Or.inl rfl) (pe_callD d_joined (hr.mono (by decide)) (pa_cons (pe_lst (pa_cons (pe_callD d_pick (hr.mono (by decide)) (pa_cons (pv 0) (pa_cons (pv 4) pa_nil))) (pa_cons (pe_callD d_pick (hr.mono (by decide)) (pa_cons (pv 0) (pa_cons (pv 1) pa_nil))) pa_nil))) pa_nil)))
    (pss_cons (ps_set (i := 7) sc__law_entries.nd rfl (Or.inl rfl) (pe_callD d_take (hr.mono (by decide)) (pa_cons (pv 0) (pa_cons pe_int pa_nil))))
    (pss_one (ps_if (PW.pt (pw_and (pt_cmp (pc_dnotin hu1 (pv 6) (pv 3))) (pw_and1 (pt_cmpR op_lt (pe_m1 PySem.F.slot_str_count PySem.F.type_str_count mt_count (pv 6) pe_str rfl rfl rfl) pe_int (nomark _)))))
      (pss_one (ps_if (pt_cmpR op_lt (pv 7) pe_int (nomark _)) (pss_one (ps_dput hu1 (pv 3) (pv 6) (pe_callD d_take (hr.mono (by decide)) (pa_cons (pv 0) (pa_cons pe_int pa_nil))) rfl))
        (pss_one (ps_if (pt_cmpR op_lt (pv 7) pe_int (nomark _)) (pss_one (ps_dput hu1 (pv 3) (pv 6) (pe_callD d_path (hr.mono (by decide)) (pa_cons (pv 0) (pa_cons (pv 1) (pa_cons pe_int pa_nil)))) rfl))
          (pss_cons (ps_dput hu1 (pv 3) (pv 6) pe_non rfl) (pss_one (ps_expr (pe_bm PySem.F.plainAttrs_list PySem.F.slot_list_append PySem.F.type_list_append mt_append (pv 4) (pa_cons (pv 6) pa_nil))))))))) pss_nil)))))
    (pss_one (ps_ret (pv 3))))), ?_⟩
  obtain ⟨b, l, L, m, rfl, hb, nlb, hl, hL1, hL2, hL, hm, hq⟩ := h
  intro d hd
  refine ⟨by show 1 ≤ sizeLine; decide, fun g hg => ?_⟩
  have ngd : g ≠ d := fun e => by rw [e, upd_same] at hg; cases hg
  have hgH : H g = none := by rw [upd_ne ngd] at hg; exact hg
  refine ⟨_, _, rfl, ?_⟩
  have t0 : Turn L H (upd (upd H d (.dK [])) g (.lst [.str ""])) b d g m [] [""] :=
    ⟨Same.keep ((same_new hd).trans (same_new hg)), (hb.same (same_new hd)).same (same_new hg), by rw [upd_ne ngd.symm]; exact upd_same, upd_same, Tree.nil, fun f hf => Or.inl (List.mem_singleton.mp hf), Nat.le_add_left _ _, Nat.le_refl _⟩
  generalize (upd (upd H d (.dK [])) g (.lst [.str ""])) = H0 at t0
  have ndb : d ≠ b := hb.ne hd
  have ngb : g ≠ b := hb.ne hgH
  refine ⟨_, rfl, _, rfl, _, _, rfl, rfl, b, m + 1, rfl, t0.bg, by omega, by omega, fun H1 r k1 b1 r0 r1 => ?_⟩
  have t1 : Turn L H H1 b d g m [] [""] := ⟨t0.kp.trans k1, b1, k1 _ _ ndb t0.hd, k1 _ _ ngb t0.hl, t0.tr, t0.fd, t0.fl, t0.f1⟩
  refine ⟨r, rfl, by omega, by omega, for_range (lo := 0) (fun i σ H' => ∃ v5 v6 v7 es fo, σ = [some (.ref b), some (.ref l), some (.int m), some (.ref d), some (.ref g), v5, v6, v7] ∧ Turn L H H' b d g m es fo ∧ es.length ≤ i ∧ fo.length ≤ i + 1) ⟨_, _, _, _, _, rfl, t1, Nat.zero_le _, Nat.le_refl _⟩ ?_ ?_⟩
  · rintro i σ H2 hi ⟨v5, v6, v7, es, fo, rfl, t2, he1, he2⟩
    have hi2 : i < m := by omega
    refine ⟨_, rfl, _, rfl, b, _, rfl, t2.bg, Or.inl ⟨g, fo.map V.str, rfl, ngb, SqL.of t2.hl, by rw [List.length_map]; exact t2.f1, by rw [List.length_map]; omega, fun H3 v k3 b3 hv => ?_⟩⟩
    obtain ⟨f, hf, rfl⟩ := List.mem_map.mp hv
    have K3 := t2.kp.trans k3
    refine ⟨_, rfl, _, rfl, b, _, rfl, b3, Or.inl ⟨l, L.map V.str, rfl, nlb, SqL.of (K3 _ _ nlb hl), by rw [List.length_map]; exact hL1, by rw [List.length_map]; omega, fun H4 w k4 b4 hw => ?_⟩⟩
    obtain ⟨lt, hlt, rfl⟩ := List.mem_map.mp hw
    have K5' := K3.trans k4
    refine ⟨by show 2 ≤ sizeLine; decide, fun q hq2 => ?_⟩
    have hfs : f.length ≤ 36 := by
      rcases t2.fd f hf with rfl | ⟨ns, h1, _, _⟩
      · decide +kernel
      · exact h1.short
    refine ⟨q, [f, lt], rfl, SqL.of upd_same, by show 2 ≤ 1000; decide, fun s hs => ?_, fun H5 s5 => ?_⟩
    · rcases List.mem_cons.mp hs with rfl | hs
      · omega
      · rw [List.mem_singleton.mp hs]
        have := (isNm_len (hL lt hlt)).2
        omega
    have K5 := (K5'.trans (Same.keep (same_new hq2))).trans (Same.keep s5)
    have b5 := (b4.same (same_new hq2)).same s5
    have d5 := s5 _ _ (same_new hq2 _ _ (k4 _ _ ndb (k3 _ _ ndb t2.hd)))
    have l5 := s5 _ _ (same_new hq2 _ _ (k4 _ _ ngb (k3 _ _ ngb t2.hl)))
    generalize hpp : jn (([f, lt] : List Str).filter fun s : Str => !decide (s = "")) = p
    refine ⟨_, rfl, b, 7, rfl, b5, by omega, by omega, fun H6 way k6 b6 w0 w1 => ?_⟩
    have K6 := K5.trans k6
    have d6 := k6 _ _ ndb d5
    have l6 := k6 _ _ ngb l5
    have stay : ∀ v5 v6 v7, ∃ v5' v6' v7' es fo, ([some (.ref b), some (.ref l), some (.int m), some (.ref d), some (.ref g), v5, v6, v7] : L2.St) = [some (.ref b), some (.ref l), some (.int m), some (.ref d), some (.ref g), v5', v6', v7'] ∧ Turn L H H6 b d g m es fo ∧ es.length ≤ i + 1 ∧ fo.length ≤ i + 1 + 1 := fun v5 v6 v7 =>
      ⟨_, _, _, es, fo, rfl, ⟨K6, b6, d6, l6, t2.tr, t2.fd, t2.fl, t2.f1⟩, by omega, by omega⟩
    refine ⟨_, rfl, _, rfl, d, _, rfl, DGet.kv d6, _, rfl, ?_⟩
    cases hv : valV (kv es) (.inr p) with
    | some v => exact iteF (stay _ _ _)
    | none =>
      refine iteT ⟨_, rfl, ⟨_, rfl⟩, p, c_sl, rfl, rfl, _, _, rfl, rfl, _, rfl, ?_⟩
      refine ifD (fun hc => ?_) (fun hc => stay _ _ _)
      have hno : p ∉ es.map (·.1) := fun h => by
        obtain ⟨v, h2⟩ := key_val h
        rw [hv] at h2; cases h2
      have put : ∀ v, putK (kv es) (.inr p) v = kv (es ++ [(p, v)]) := fun v => by
        rw [putK_new _ hv]
        unfold kv
        rw [List.map_append]; rfl
      have add : ∀ v, ItemD v → (∃ ns, Nm4 p ns ∧ ∀ s ∈ ns, s ∈ L) ∧ Tree L m (es ++ [(p, v)]) := fun v hv => t2.tr.add (by omega) (t2.fd f hf) (hL lt hlt) hlt hpp.symm hc hv hno
      have hkl : (kv es).length < sizeLine := by
        rw [kv_length]
        exact Nat.lt_of_le_of_lt (by omega : es.length ≤ 100) (by decide)
      have fin : ∀ (v5 v6 v7 : Option V) (v : V) (H7 : Hp), ItemD v → Keep b H6 H7 → BagAt H7 b → ∃ v5' v6' v7' es' fo', ([some (.ref b), some (.ref l), some (.int m), some (.ref d), some (.ref g), v5, v6, v7] : L2.St) = [some (.ref b), some (.ref l), some (.int m), some (.ref d), some (.ref g), v5', v6', v7'] ∧ Turn L H (upd H7 d (.dK (putK (kv es) (.inr p) v))) b d g m es' fo' ∧ es'.length ≤ i + 1 ∧ fo'.length ≤ i + 1 + 1 := fun v5 v6 v7 v H7 hv k7 b7 => by
        have b8 : BagAt (upd H7 d (.dK (putK (kv es) (.inr p) v))) b := by
          obtain ⟨a1, a2, a3, e, r⟩ := b7
          exact ⟨a1, a2, a3, by rw [upd_ne ndb.symm]; exact e, r⟩
        refine ⟨_, _, _, es ++ [(p, v)], fo, rfl, ⟨keep_upd hd (K6.trans k7), b8, by rw [upd_same, put], by rw [upd_ne ngd]; exact k7 _ _ ngb l6, (add v hv).2, fun f hf => (t2.fd f hf).more, t2.fl, t2.f1⟩, ?_, by omega⟩
        rw [List.length_append, List.length_singleton]; omega
      refine ⟨_, rfl, _, _, rfl, rfl, _, rfl, ?_⟩
      refine ifD (fun h2 => ?_) (fun h2 => ?_)
      · exact ⟨_, rfl, b, 3, rfl, b6, by omega, by omega, fun H7 r2 k7 b7 q0 q1 => ⟨_, rfl, _, rfl, d, _, rfl, DPut.k (k := Sum.inr p) (k7 _ _ ndb d6) hkl, fin (some (.int (0 + (i : Int)))) (some (.str p)) (some (.int way)) (.int r2) H7 (Or.inr (Or.inl ⟨r2, rfl, q0, q1⟩)) k7 b7⟩⟩
      · refine ⟨_, rfl, _, _, rfl, rfl, _, rfl, ?_⟩
        refine ifD (fun h3 => ?_) (fun h3 => ?_)
        · exact ⟨_, rfl, _, rfl, b, l, L, 3, rfl, b6, nlb, K6 _ _ nlb hl, hL1, hL2, hL, by omega, by omega, fun H7 ms k7 b7 q0 q1 => ⟨_, rfl, _, rfl, d, _, rfl, DPut.k (k := Sum.inr p) (k7 _ _ ndb d6) hkl, fin (some (.int (0 + (i : Int)))) (some (.str p)) (some (.int way)) (.str (jn ms)) H7 (Or.inr (Or.inr ⟨ms, rfl, by omega, q0⟩)) k7 b7⟩⟩
        · refine ⟨_, rfl, _, rfl, d, _, rfl, DPut.k (k := Sum.inr p) d6 hkl, ?_⟩
          obtain ⟨a1, a2, a3, es', fo', e1, t7, e3, e4⟩ := fin none none none .non H6 (Or.inl rfl) (Keep.refl b H6) b6
          have t8 : Turn L H (upd H6 d (.dK (putK (kv es) (.inr p) .non))) b d g m (es ++ [(p, .non)]) fo := by
            have b8 : BagAt (upd H6 d (.dK (putK (kv es) (.inr p) .non))) b := by
              obtain ⟨a1, a2, a3, e, r⟩ := b6
              exact ⟨a1, a2, a3, by rw [upd_ne ndb.symm]; exact e, r⟩
            exact ⟨keep_upd hd K6, b8, by rw [upd_same, put], by rw [upd_ne ngd]; exact l6, (add .non (Or.inl rfl)).2, fun f hf => (t2.fd f hf).more, t2.fl, t2.f1⟩
          generalize (upd H6 d (.dK (putK (kv es) (.inr p) .non))) = H7 at t8
          refine ⟨_, rfl, Or.inl ⟨rfl, _, SqL.of t8.hl⟩, _, rfl, g, _, _, rfl, rfl, t8.hl, ?_, ?_⟩
          · rw [List.length_map]
            exact Nat.lt_of_le_of_lt (by omega : fo.length ≤ 101) (by decide)
          have b9 : BagAt (upd H7 g (.lst (fo.map V.str ++ [.str p]))) b := by
            obtain ⟨a1, a2, a3, e, r⟩ := t8.bg
            exact ⟨a1, a2, a3, by rw [upd_ne ngb.symm]; exact e, r⟩
          obtain ⟨ns, hns, hnL⟩ := (add .non (Or.inl rfl)).1
          refine ⟨_, _, _, es ++ [(p, .non)], fo ++ [p], rfl, ⟨keep_upd hgH t8.kp, b9, by rw [upd_ne ngd.symm]; exact t8.hd, by rw [upd_same, List.map_append]; rfl, t8.tr, fun f hf => ?_, by rw [List.length_append, List.length_singleton]; omega, by rw [List.length_append]; exact Nat.le_trans t8.f1 (Nat.le_add_right _ _)⟩, by rw [List.length_append, List.length_singleton]; omega, by rw [List.length_append, List.length_singleton]; omega⟩
          rcases List.mem_append.mp hf with h | h
          · exact t8.fd f h
          · rw [List.mem_singleton.mp h]
            exact Or.inr ⟨ns, hns, hnL, List.mem_append_right _ (List.mem_singleton_self _)⟩
  · rintro σ H2 ⟨v5, v6, v7, es, fo, rfl, t2, _, _⟩
    exact ⟨_, rfl, hq H2 d es t2.kp t2.bg hd t2.hd t2.tr⟩
end
end K5

set_option Elab.async false
set_option linter.all false
set_option maxRecDepth 100000
set_option maxHeartbeats 4000000
namespace K5
open PySem PySem.Spec PyProof.Rows L2 LF TL
theorem join_parts {z : Str} (h : ¬ z = "") : PySem.Txt.join c_sl (parts z) = z := by
  unfold parts
  rw [if_neg h]
  rw [TL.join_eq]
  exact PySem.StrLaws.join_split _ _
theorem eqv_str1 (x y : Str) : PyData.eqv (.str x) (.str y) = decide (x = y) := by
  have h := eqv_strs [x] [y]
  simp only [List.map_cons, List.map_nil, PyData.eqvAll, Bool.and_true] at h
  rw [h]
  by_cases e : x = y
  · rw [decide_eq_true e, decide_eq_true (by rw [e])]
  · rw [decide_eq_false e, decide_eq_false (fun q => e (List.cons.inj q).1)]
theorem strs_apart : ∀ (xs ys : List Str), xs.length = ys.length → xs ≠ ys → PySem.W.rowLt (xs.map .str) (ys.map .str) = true ∨ PySem.W.rowLt (ys.map .str) (xs.map .str) = true
  | [], [], _, h => absurd rfl h
  | x :: xs, y :: ys, hl, h => by
    rw [List.map_cons, List.map_cons]
    have al : PySem.W.alike (.str x) (.str y) = true := by simp [PySem.W.alike]
    have al2 : PySem.W.alike (.str y) (.str x) = true := by simp [PySem.W.alike]
    unfold PySem.W.rowLt
    rw [PySem.W.dataLt_cons al, PySem.W.dataLt_cons al2]
    have e1 : PyData.eqv (.str x) (.str y) = decide (x = y) := eqv_str1 x y
    have e2 : PyData.eqv (.str y) (.str x) = decide (y = x) := eqv_str1 y x
    rw [e1, e2]
    by_cases hxy : x = y
    · subst hxy
      rw [decide_eq_true rfl, if_pos rfl, if_pos rfl]
      exact strs_apart xs ys (by simpa using hl) fun e => h (by rw [e])
    · rw [decide_eq_false hxy, decide_eq_false (fun e => hxy e.symm), if_neg Bool.false_ne_true, if_neg Bool.false_ne_true, PySem.W.dataLt_str, PySem.W.dataLt_str]
      have hne : x.cps.toList ≠ y.cps.toList := fun e => hxy (ext_tl e)
      by_cases hlt : x.cps.toList < y.cps.toList
      · exact Or.inl (decide_eq_true hlt)
      · refine Or.inr (decide_eq_true ?_)
        by_cases h2 : y.cps.toList < x.cps.toList
        · exact h2
        · exact absurd (List.le_antisymm (List.not_lt.mp h2) (List.not_lt.mp hlt)) hne
theorem pLt_rows (a b : Str) : pLt a b = if (parts a).length = (parts b).length then PySem.W.rowLt ((parts a).map .str) ((parts b).map .str) else decide ((parts a).length < (parts b).length) := by
  unfold pLt keyD
  have al : PySem.W.alike (.int ((parts a).length : Int)) (.int ((parts b).length : Int)) = true := by simp [PySem.W.alike]
  have al2 : PySem.W.alike (.list ((parts a).map .str)) (.list ((parts b).map .str)) = true := alike_strs _ _
  rw [PySem.W.dataLt_pair al al2, eqv_list_strs, PySem.W.dataLt_int]
  have ei : PyData.eqv (.int ((parts a).length : Int)) (.int ((parts b).length : Int)) = decide ((parts a).length = (parts b).length) := by
    simp only [PyData.eqv]
    by_cases e : (parts a).length = (parts b).length
    · rw [e]; simp
    · rw [decide_eq_false e]
      exact beq_eq_false_iff_ne.mpr fun q => e (by omega)
  rw [ei]
  by_cases hl : (parts a).length = (parts b).length
  · rw [decide_eq_true hl, if_pos rfl, if_pos hl]
    by_cases hp : parts a = parts b
    · rw [decide_eq_true hp, if_pos rfl, hp]
      exact (PyProof.Rows.lex_irrefl _).symm
    · rw [decide_eq_false hp, if_neg Bool.false_ne_true]
      exact PySem.W.dataLt_list _ _
  · rw [decide_eq_false hl, if_neg Bool.false_ne_true, if_neg hl]
    by_cases h2 : (parts a).length < (parts b).length
    · rw [decide_eq_true h2, decide_eq_true (by omega)]
    · rw [decide_eq_false h2, decide_eq_false (by omega)]
theorem pLt_apart {a b : Str} (ha : ¬ a = "") (hb : ¬ b = "") (h : a ≠ b) : pLt a b = true ∨ pLt b a = true := by
  have hp : parts a ≠ parts b := fun e => h (by rw [← join_parts ha, ← join_parts hb, e])
  rw [pLt_rows, pLt_rows]
  by_cases hl : (parts a).length = (parts b).length
  · rw [if_pos hl, if_pos hl.symm]
    exact strs_apart _ _ hl hp
  · rw [if_neg hl, if_neg (fun e => hl e.symm)]
    rcases Nat.lt_or_gt_of_ne hl with h1 | h1
    · exact Or.inl (decide_eq_true h1)
    · exact Or.inr (decide_eq_true h1)
end K5

set_option Elab.async false
set_option linter.all false
set_option maxRecDepth 100000
set_option maxHeartbeats 4000000
namespace LF
open PySem PySem.Spec PyProof.Rows L2 TL
theorem starts_iff {x y : Str} : PySem.Txt.startswith x y = true ↔ tl y <+: tl x := by
  unfold PySem.Txt.startswith
  rw [Bool.and_eq_true, PySem.StrLaws.subAt_eq, decide_eq_true_eq, List.drop_zero, Nat.zero_add, len_tl, len_tl, List.prefix_iff_eq_take, beq_iff_eq]
  constructor
  · rintro ⟨h1, h2⟩
    exact h2.symm
  · intro h
    refine ⟨?_, h.symm⟩
    have := congrArg List.length h
    rw [List.length_take] at this
    omega
theorem cut47 : ∀ (x y s t : List Nat), 47 ∉ x → 47 ∉ y → x ++ 47 :: s = y ++ 47 :: t → x = y ∧ s = t
  | [], [], s, t, _, _, h => ⟨rfl, (List.cons.inj h).2⟩
  | [], c :: y, s, t, _, hy, h => absurd (by rw [(List.cons.inj h).1]; exact List.mem_cons_self) hy
  | c :: x, [], s, t, hx, _, h => absurd (by rw [(List.cons.inj h).1]; exact List.mem_cons_self) hx
  | c :: x, d :: y, s, t, hx, hy, h => by
    have h2 := List.cons.inj h
    obtain ⟨e1, e2⟩ := cut47 x y s t (fun m => hx (List.mem_cons_of_mem _ m)) (fun m => hy (List.mem_cons_of_mem _ m)) h2.2
    exact ⟨by rw [h2.1, e1], e2⟩
theorem joinL_two (x y : List Nat) (r : List (List Nat)) : joinL [47] (x :: y :: r) = x ++ 47 :: joinL [47] (y :: r) := rfl
theorem pre_names : ∀ (b a : List (List Nat)), b ≠ [] → a ≠ [] → (∀ n ∈ b, 47 ∉ n) → (∀ n ∈ a, 47 ∉ n) → (joinL [47] b ++ [47] <+: joinL [47] a ↔ ∃ c, c ≠ [] ∧ a = b ++ c)
  | [], _, h, _, _, _ => absurd rfl h
  | _, [], _, h, _, _ => absurd rfl h
  | [x], [y], _, _, _, ha => by
    constructor
    · intro h
      have : 47 ∈ y := h.subset (List.mem_append_right _ (List.mem_singleton_self _))
      exact absurd this (ha y List.mem_cons_self)
    · rintro ⟨c, hc, h⟩
      cases c with
      | nil => exact absurd rfl hc
      | cons d c => simp at h
  | [x], y :: z :: r, _, _, hb, ha => by
    rw [joinL_two]
    constructor
    · rintro ⟨s, h⟩
      have h' : x ++ 47 :: s = y ++ 47 :: joinL [47] (z :: r) := by rw [← h, List.append_assoc]; rfl
      obtain ⟨e1, _⟩ := cut47 _ _ _ _ (hb x List.mem_cons_self) (ha y List.mem_cons_self) h'
      exact ⟨z :: r, by simp, by rw [e1]; rfl⟩
    · rintro ⟨c, hc, h⟩
      have h2 : y = x ∧ z :: r = c := List.cons.inj h
      refine ⟨joinL [47] (z :: r), ?_⟩
      rw [h2.1, List.append_assoc]; rfl
  | x :: x2 :: b, [y], _, _, _, ha => by
    constructor
    · intro h
      rw [joinL_two] at h
      have : 47 ∈ y := h.subset (List.mem_append_right _ (List.mem_singleton_self _))
      exact absurd this (ha y List.mem_cons_self)
    · rintro ⟨c, hc, h⟩
      simp at h
  | x :: x2 :: b, y :: y2 :: a, _, _, hb, ha => by
    have ih := pre_names (x2 :: b) (y2 :: a) (by simp) (by simp) (fun n hn => hb n (List.mem_cons_of_mem _ hn)) (fun n hn => ha n (List.mem_cons_of_mem _ hn))
    rw [joinL_two, joinL_two]
    constructor
    · rintro ⟨s, h⟩
      have h' : x ++ 47 :: (joinL [47] (x2 :: b) ++ [47] ++ s) = y ++ 47 :: joinL [47] (y2 :: a) := by rw [← h]; simp
      obtain ⟨e1, e2⟩ := cut47 _ _ _ _ (hb x List.mem_cons_self) (ha y List.mem_cons_self) h'
      obtain ⟨c, hc, h3⟩ := ih.mp ⟨s, e2⟩
      exact ⟨c, hc, by rw [e1, h3]; rfl⟩
    · rintro ⟨c, hc, h⟩
      have h2 : y = x ∧ y2 :: a = x2 :: b ++ c := List.cons.inj h
      obtain ⟨s, hs⟩ := ih.mpr ⟨c, hc, h2.2⟩
      exact ⟨s, by rw [← hs, h2.1]; simp⟩
end LF
namespace K5
open PySem PySem.Spec PyProof.Rows L2 LF TL
theorem isPl_jn {z : Str} (h : isPl z = true) : ∃ ns, z = jn ns ∧ ns ≠ [] ∧ Nms 10 ns := by
  obtain ⟨h1, h2, h3⟩ := isPl_parts h
  exact ⟨parts z, (join_parts (isPl_pt h).2).symm, List.length_pos_iff.mp h2, h3, h1⟩
theorem jn_inj {a b : List Str} (ha : ∀ s ∈ a, isNm s = true) (hb : ∀ s ∈ b, isNm s = true) (h : jn a = jn b) : a = b := by
  rw [← parts_join ha, ← parts_join hb]
  show parts (jn a) = parts (jn b)
  rw [h]
theorem begs_iff {a b : List Str} (ha : ∀ s ∈ a, isNm s = true) (hb : ∀ s ∈ b, isNm s = true) (hne : b ≠ []) : jn b ∈ begs (jn a) ↔ ∃ c, c ≠ [] ∧ a = b ++ c := by
  rw [begs_jn ha, List.mem_map]
  constructor
  · rintro ⟨i, hi, h⟩
    have hi2 := List.mem_range.mp hi
    have e := jn_inj (fun s hs => ha s (List.mem_of_mem_take hs)) hb h
    refine ⟨a.drop (i + 1), fun hd => ?_, by rw [← e, List.take_append_drop]⟩
    have := congrArg List.length hd
    rw [List.length_drop, List.length_nil] at this
    omega
  · rintro ⟨c, hc, rfl⟩
    have h1 := List.length_pos_iff.mpr hne
    have h2 := List.length_pos_iff.mpr hc
    refine ⟨b.length - 1, List.mem_range.mpr (by rw [List.length_append]; omega), ?_⟩
    rw [show b.length - 1 + 1 = b.length by omega, List.take_append_of_le_length (Nat.le_refl _), List.take_length]
theorem below_begs {q z : Str} (hq : isPl q = true) (hz : isPl z = true) : belowB q z = decide (z ∈ begs q) := by
  obtain ⟨a, rfl, a1, a2⟩ := isPl_jn hq
  obtain ⟨b, rfl, b1, b2⟩ := isPl_jn hz
  have e : belowB (jn a) (jn b) = PySem.Txt.startswith (jn a) (jn b ++ c_sl) := by
    unfold belowB
    rw [if_neg (join_ne b1 b2.2)]
  rw [e, Bool.eq_iff_iff, decide_eq_true_eq, starts_iff, begs_iff a2.2 b2.2 b1, tl_append, tl_sl]
  show TL.tl (PySem.Txt.join c_sl b) ++ [47] <+: TL.tl (PySem.Txt.join c_sl a) ↔ _
  rw [join_eq, join_eq, tl_join, tl_join, tl_sl, pre_names (b.map TL.tl) (a.map TL.tl) (by simpa using b1) (by simpa using a1) (fun n hn => ?_) (fun n hn => ?_)]
  · constructor
    · rintro ⟨c, hc, h⟩
      obtain ⟨l1, l2, e0, h1, h2⟩ := List.map_eq_append_iff.mp h
      have e1 := map_tl_inj h1
      refine ⟨l2, fun e => hc (by rw [← h2, e]; rfl), ?_⟩
      rw [e0, e1]
    · rintro ⟨c, hc, rfl⟩
      exact ⟨c.map TL.tl, by simpa using hc, by rw [List.map_append]⟩
  · obtain ⟨s, hs, rfl⟩ := List.mem_map.mp hn
    exact isNm_sl (b2.2 s hs)
  · obtain ⟨s, hs, rfl⟩ := List.mem_map.mp hn
    exact isNm_sl (a2.2 s hs)
end K5

set_option Elab.async false
set_option linter.all false
set_option maxRecDepth 100000
set_option maxHeartbeats 4000000
namespace K5
open PySem PySem.Spec PyProof.Rows L2 LF TL
open PySem.W (EachIs)
theorem ItemD.ok {v : V} (h : ItemD v) : Plain v ∧ itemV v = true := by
  rcases h with rfl | ⟨i, rfl, h1, h2⟩ | ⟨ms, rfl, h1, h2⟩
  · exact ⟨Or.inl rfl, rfl⟩
  · refine ⟨Or.inr (Or.inl ⟨i, rfl⟩), ?_⟩
    show (contentV (.int i) || targetV (.int i)) = true
    have : contentV (.int i) = true := by
      show decide ((if i < 0 then -i else i) ≤ 999999999999) = true
      rw [if_neg (by omega)]
      exact decide_eq_true (by omega)
    rw [this]; rfl
  · have hl := join_len_le h2
    refine ⟨Or.inr (Or.inr ⟨_, rfl, ?_⟩), ?_⟩
    · show (PySem.Txt.join c_sl ms).length ≤ 1000000
      omega
    · show (contentV (.str (jn ms)) || targetV (.str (jn ms))) = true
      have : targetV (.str (jn ms)) = true := by
        show (isPt (jn ms) && decide ((parts (jn ms)).length ≤ 8)) = true
        rw [isPt_join h2, parts_join h2, Bool.true_and]
        exact decide_eq_true (by omega)
      rw [this, Bool.or_true]
theorem Tree.okU {L : List Str} {m : Nat} {es : List (Str × V)} (t : Tree L m es) : OkU es := by
  refine ⟨fun e he => ?_, fun e he => (t.it e he).ok, fun e he s hs => Or.inr (val_mem t.nd (t.up e he s hs)), t.nd⟩
  obtain ⟨ns, h, _⟩ := t.nm e he
  exact ⟨h.pl, Nat.le_trans h.short (by decide)⟩
theorem Tree.full {L : List Str} {m : Nat} {es : List (Str × V)} (t : Tree L m es) : fullU es = es := full_id fun e he s hs => List.mem_map.mpr ⟨_, t.up e he s hs, rfl⟩
theorem Tree.pkl {L : List Str} {m : Nat} {es : List (Str × V)} (t : Tree L m es) : (pkE es).length = es.length := by rw [pkE_len, t.full]
theorem Tree.pk {L : List Str} {m : Nat} {es : List (Str × V)} (t : Tree L m es) (hm : m ≤ 1000) : OkE (pkE es) := pkE_ok t.okU (by rw [t.full]; have := t.len; omega)
theorem mem_full {es : List (Str × V)} (h : OkU es) {s : Str} : s ∈ (fullU es).map (·.1) ↔ s ∈ es.map (·.1) ∨ ∃ e ∈ es, s ∈ begs e.1 := by
  obtain ⟨g, gb⟩ := full_grown h
  constructor
  · intro hs
    obtain ⟨e, he, rfl⟩ := List.mem_map.mp hs
    rcases g.new e he with h1 | ⟨_, _, q, hq, hb⟩
    · exact Or.inl (List.mem_map.mpr ⟨e, h1, rfl⟩)
    · exact Or.inr ⟨q, hq, hb⟩
  · rintro (hs | ⟨e, he, hs⟩)
    · obtain ⟨e, he, rfl⟩ := List.mem_map.mp hs
      exact List.mem_map.mpr ⟨e, g.sub e he, rfl⟩
    · exact gb e he s hs
/-- one order for the same paths -/
theorem sort_uniq {l m : List Str} (hp : l.Perm m) (hl : ∀ x ∈ l, ¬ x = "") : l.mergeSort pLe = m.mergeSort pLe := by
  have hm : ∀ x ∈ m, ¬ x = "" := fun x hx => hl x (hp.mem_iff.mpr hx)
  refine List.Perm.eq_of_pairwise (le := fun a b => pLe a b = true) (fun a b ha hb h1 h2 => ?_) (List.pairwise_mergeSort pLe_trans pLe_total _) (List.pairwise_mergeSort pLe_trans pLe_total _) (((List.mergeSort_perm l pLe).trans hp).trans (List.mergeSort_perm m pLe).symm)
  by_cases e : a = b
  · exact e
  · rw [pLe_eq] at h1 h2
    rcases pLt_apart (hl a (sort_mem.mp ha)) (hm b (sort_mem.mp hb)) e with h | h
    · rw [h] at h2; cases h2
    · rw [h] at h1; cases h1
/-- the paths that the law brings together -/
def allP (es : List (Str × V)) (i : Nat) : List Str := es.map (·.1) ++ ((es.take i).map (·.1)).flatMap begs
theorem allP_next {es : List (Str × V)} {i : Nat} {e : Str × V} (h : es[i]? = some e) : allP es (i + 1) = allP es i ++ begs e.1 := by
  unfold allP
  rw [List.take_add_one, h, List.map_append, List.flatMap_append, List.append_assoc]
  simp
theorem begs_len {p : Str} (h : isPl p = true) : (begs p).length ≤ 10 := by
  obtain ⟨h1, h2, h3⟩ := isPl_parts h
  unfold begs
  rw [List.length_map, List.length_range]; omega
theorem allP_len {es : List (Str × V)} (h : OkU es) : ∀ i, (allP es i).length ≤ es.length + 10 * i
  | 0 => by unfold allP; simp
  | i + 1 => by
    cases e : es[i]? with
    | none =>
      have h1 : es.length ≤ i := by simpa using e
      have := allP_len h i
      unfold allP at this ⊢
      rw [List.take_of_length_le (by omega)]
      rw [List.take_of_length_le h1] at this
      omega
    | some q =>
      rw [allP_next e, List.length_append]
      have := allP_len h i
      have h2 := begs_len (h.pl q (List.mem_of_getElem? e)).1
      omega
theorem mem_allP {es : List (Str × V)} (h : OkU es) {s : Str} : s ∈ allP es es.length ↔ s ∈ (fullU es).map (·.1) := by
  rw [mem_full h]
  unfold allP
  rw [List.take_length, List.mem_append, List.mem_flatMap]
  constructor
  · rintro (h1 | ⟨p, hp, h1⟩)
    · exact Or.inl h1
    · obtain ⟨e, he, rfl⟩ := List.mem_map.mp hp
      exact Or.inr ⟨e, he, h1⟩
  · rintro (h1 | ⟨e, he, h1⟩)
    · exact Or.inl h1
    · exact Or.inr ⟨e.1, List.mem_map.mpr ⟨e, he, rfl⟩, h1⟩
theorem full_ne {es : List (Str × V)} (h : OkU es) : ∀ x : Str, x ∈ (fullU es).map (·.1) → ¬ x = "" := fun x hx => by
  obtain ⟨e, he, rfl⟩ := List.mem_map.mp hx
  exact (isPl_pt (full_pl h e he).1.1).2
theorem keys_sorted {es : List (Str × V)} (h : OkU es) {zs : List Str} (hz : zs.Perm (once [] (allP es es.length))) : zs.mergeSort pLe = (pkE es).map (·.1) := by
  rw [pkE_keys]
  have hp : zs.Perm ((fullU es).map (·.1)) := by
    refine (List.perm_ext_iff_of_nodup ?_ (full_grown h).1.nd).mpr fun a => ?_
    · exact hz.nodup_iff.mpr (once_nodup _ [] List.nodup_nil)
    · rw [hz.mem_iff, mem_once, ← mem_allP h]
      simp
  exact sort_uniq hp fun x hx => full_ne h x (hp.mem_iff.mp hx)
theorem get_full {es : List (Str × V)} (h : OkU es) {e : Str × V} (he : e ∈ pkE es) : (valV (kv es) (.inr e.1)).getD .non = e.2 := by
  have h1 := (mem_pkE h).mp he
  rcases (full_grown h).1.new e h1 with h2 | ⟨h2, h3, _⟩
  · rw [val_mem h.nd (p := e.1) (v := e.2) h2]; rfl
  · rw [val_no h3, h2]; rfl
def PairAt (H : Hp) (v : V) (e : Str × V) : Prop := ∃ t, v = .ref t ∧ H t = some (.tup [.str e.1, e.2])
theorem PairAt.same {H H' : Hp} {v : V} {e : Str × V} (h : PairAt H v e) (s : Same H H') : PairAt H' v e := by
  obtain ⟨t, h1, h2⟩ := h
  exact ⟨t, h1, s _ _ h2⟩
theorem PairAt.put {H : Hp} {D : Addr} {xs ys : List V} {v : V} {e : Str × V} (h : PairAt H v e) (hD : H D = some (.lst xs)) : PairAt (upd H D (.lst ys)) v e := by
  obtain ⟨t, h1, h2⟩ := h
  exact ⟨t, h1, by rw [upd_ne (ne_of h2 hD (by intro z; cases z))]; exact h2⟩
def spFull : Sp := fun vs H Q _ => ∃ (d : Addr) (es : List (Str × V)), vs = [.ref d] ∧ H d = some (.dK (kv es)) ∧ OkU es ∧ es.length ≤ 100 ∧
  ∀ H' q acc, Same H H' → H q = none → H' q = some (.lst acc) → EachIs (PairAt H') acc (pkE es) → Q (.ref q) H'
abbrev s__law_full : Stmt := topS 54
abbrev N__law_full : List Str := ["_law_entries_here", "_law_paths", "_law_path_here"]
theorem sc__law_full : FnScope ["_law_entries_here", "_law_paths", "_law_path_here"] ["_law_entries_here"] (defScope s__law_full) := ⟨rfl, rfl, rfl, by decide +kernel, rfl, by decide +kernel, by decide +kernel⟩
section
variable {P : Program} {w : World} {K : PySem.W.Frag} {mg : Str → Option Value} {base : Heap} {tk1 tk2 : Tok}
theorem ok_full {f f1 f2 : Addr} {fd fd1 fd2 : FuncData} (F : Fun K "_law_full" "_law_full" s__law_full f fd) (T : Txt K mg tk1 tk2) (d_starts : DefAt P w K mg base "_law_starts" 1 f1 fd1 ["_law_path_here"] spStarts) (d_ordered : DefAt P w K mg base "_law_ordered" 1 f2 fd2 ["_law_paths"] (spOrdered K)) :
    FnOk P w K mg base CX0 2 f fd ["_law_entries_here"] spFull := by
  refine F.ok sc__law_full (fun vs H Q E h => ?_) (fun cdv A outer s H vs Q E hr h => ?_)
  · obtain ⟨d, es, rfl, _⟩ := h
    rfl
  have hu := hr.units
  have hu1 := hu_of hr
  refine ⟨_, (pss_cons (ps_set (i := 1) sc__law_full.nd rfl (Or.inl rfl) (pe_callTy (call_listD rfl) (by rfl) T.n_list (by decide +kernel) (pa_cons (pv 0) pa_nil)))
    (pss_cons (ps_for PassesOwn.never rfl (pi_list (pe_callTy (call_listD rfl) (by rfl) T.n_list (by decide +kernel) (pa_cons (pv 0) pa_nil))) (pg_name (i := 2) sc__law_full.nd rfl (Or.inl rfl)) (pss_one (ps_set (i := 1) sc__law_full.nd rfl (Or.inl rfl) (pe_op op_cat (pv 1) (pe_callD d_starts (hr.mono (by decide)) (pa_cons (pv 2) pa_nil))))))
    (pss_one (ps_ret (pe_lc (own := [("_law_path_here", 2)]) rfl sc__law_full.nd (pi_list (pe_callD d_ordered (hr.mono (by decide)) (pa_cons (pe_callB (call_sortTx rfl hu) (by rfl) T.n_sorted (by decide +kernel) (pa_cons (pe_callTy (call_setTx rfl) (by rfl) T.n_set (by decide +kernel) (pa_cons (pv 1) pa_nil)) pa_nil)) pa_nil))) (blkOk_by (N := N__law_full) (sc := defScope s__law_full) (by decide +kernel)) (fun _ _ _ _ _ => pg_name (i := 2) sc__law_full.nd rfl (Or.inl rfl)) (fun _ _ _ _ _ => pts_nil) (fun _ _ _ _ _ => (pe_tup (pa_cons (pv 2) (pa_cons (pe_dget2 hu1 (pv 0) (pv 2) pe_non ⟨rfl, rfl, rfl, rfl⟩) pa_nil))))))))), ?_⟩
  obtain ⟨d, es, rfl, hd, ok, hlen, hq⟩ := h
  refine ⟨_, rfl, d, _, rfl, Or.inl hd, fun a ha => ?_⟩
  rw [keys_kv]
  have s1 : Same H (upd H a (.lst ((es.map (·.1)).map V.str))) := same_new ha
  have ha1 : (upd H a (.lst ((es.map (·.1)).map V.str))) a = some (.lst ((allP es 0).map V.str)) := by
    rw [upd_same]
    unfold allP
    simp
  generalize (upd H a (.lst ((es.map (·.1)).map V.str))) = H1 at s1 ha1
  refine ⟨_, rfl, d, _, rfl, Or.inl (s1 _ _ hd), fun q hq1 => ?_⟩
  rw [keys_kv]
  have s2 : Same H1 (upd H1 q (.lst ((es.map (·.1)).map V.str))) := same_new hq1
  have hq2 : (upd H1 q (.lst ((es.map (·.1)).map V.str))) q = some (.lst ((es.map (·.1)).map V.str)) := upd_same
  generalize (upd H1 q (.lst ((es.map (·.1)).map V.str))) = H2 at s2 hq2
  have hbig := sizeLine_big
  refine ⟨q, rfl, ⟨_, SqL.of hq2⟩, for_list (K := K) (a := q) (xs := (es.map (·.1)).map V.str) (fun i σ H' => ∃ p v2, σ = [some (.ref d), some (.ref p), v2] ∧ Same H2 H' ∧ H' p = some (.lst ((allP es i).map V.str))) ⟨a, _, rfl, Same.refl H2, s2 _ _ ha1⟩ (fun i σ H' _ ⟨_, _, _, sm, _⟩ => sqL_same sm (SqL.of hq2)) ?_ ?_⟩
  · rintro i x σ H3 hi ⟨p, v2, rfl, s3, hp⟩
    rw [List.getElem?_map, List.getElem?_map] at hi
    cases e : es[i]? with
    | none => rw [e] at hi; cases hi
    | some en =>
      rw [e] at hi
      obtain rfl : V.str en.1 = x := Option.some.inj hi
      have hpl := (ok.pl en (List.mem_of_getElem? e)).1
      obtain ⟨ns, e1, e2, e3⟩ := isPl_jn hpl
      have hbl := begs_len hpl
      rw [e1] at hbl ⊢
      have hal := allP_len ok i
      have hil := (List.getElem?_eq_some_iff.mp e).1
      refine ⟨_, rfl, _, rfl, ns, rfl, ⟨Nat.le_trans e3.1 (by decide), e3.2⟩, fun H4 b s4 nb hb => ?_⟩
      refine ⟨p, b, _, _, rfl, rfl, s4 _ _ hp, hb, by rw [List.length_map, List.length_map]; omega, fun r hr1 => ?_⟩
      refine ⟨r, _, rfl, (s3.trans s4).trans (same_new hr1), ?_⟩
      rw [upd_same, allP_next e, List.map_append, e1]
  · rintro σ H3 ⟨p, v2, rfl, s3, hp⟩
    rw [List.length_map, List.length_map] at hp
    have hal := allP_len ok es.length
    have hsb : scanBound = 4096 := rfl
    refine ⟨_, rfl, p, allP es es.length, rfl, SqL.of hp, by omega, fun st hst => ?_⟩
    have hol := once_len (allP es es.length) []
    rw [List.length_nil, Nat.zero_add] at hol
    refine ⟨st, _, rfl, upd_same, by omega, fun zs q2 pm hq3 => ?_⟩
    have hzl := pm.length_eq
    have hzm : ∀ z ∈ zs, z ∈ (fullU es).map (·.1) := fun z hz => by
      have := pm.mem_iff.mp hz
      rw [mem_once] at this
      exact (mem_allP ok).mp (this.elim (fun h => (nomatch h)) id)
    refine ⟨q2, zs, rfl, SqL.of upd_same, fun z hz => ?_, by omega, fun H5 o s5 no ho => ?_⟩
    · obtain ⟨e, he, rfl⟩ := List.mem_map.mp (hzm z hz)
      obtain ⟨ns, e1, e2, e3⟩ := isPl_jn (full_pl ok e he).1.1
      exact ⟨ns, e1, e2, Nat.le_trans e3.1 (by decide), e3.2⟩
    rw [keys_sorted ok pm] at ho
    have S5 : Same H H5 := (((s1.trans s2).trans s3).trans ((same_new hst).trans (same_new hq3))).trans s5
    have hd5 := S5 _ _ hd
    refine ⟨o, rfl, ⟨_, SqL.of ho⟩, fun D hD => ?_⟩
    have hpl : (pkE es).length ≤ 1200 := by
      have h1 : ((pkE es).map (·.1)).length = zs.length := by rw [← keys_sorted ok pm, List.length_mergeSort]
      rw [List.length_map] at h1
      omega
    refine lc_it (walk_list (xs := ((pkE es).map (·.1)).map V.str)) (fun i H' => Same H5 H' ∧ ∃ acc, H' D = some (.lst acc) ∧ EachIs (PairAt H') acc ((pkE es).take i)) ⟨same_new hD, [], by rw [upd_same], by rw [List.take_zero]; exact .nil⟩ (fun i H' _ h => sqL_same h.1 (SqL.of ho)) ?_ ?_
    · rintro i x H6 H7 hi ⟨s6, acc, hd6, ea⟩ ⟨rfl, hx⟩
      rw [List.length_map, List.length_map] at hi
      rw [List.getElem?_map, List.getElem?_map] at hx
      cases e : (pkE es)[i]? with
      | none => rw [e] at hx; cases hx
      | some en =>
        rw [e] at hx
        obtain rfl : V.str en.1 = x := Option.some.inj hx
        have hget := get_full ok (List.mem_of_getElem? e)
        have hd7 := s6 _ _ hd5
        refine ⟨rfl, _, rfl, _, rfl, d, rfl, Or.inl ⟨_, Or.inl hd7⟩, _, rfl, _, DGet.kv hd7, (by show 2 ≤ sizeLine; decide), fun t ht => ?_⟩
        rw [hget]
        have hl3 := ea.length
        rw [List.length_take] at hl3
        refine ⟨acc, same_new ht _ _ hd6, by omega, fun b o e => ?_, acc ++ [.ref t], upd_same, ?_⟩
        · rw [upd_ne (ne_of_none e hD)]; exact same_new ht _ _ (s6 _ _ e)
        · have et : (pkE es).take (i + 1) = (pkE es).take i ++ [en] := by rw [List.take_add_one, e]; rfl
          rw [et]
          have hDt : (upd H7 t (.tup [.str en.1, en.2])) D = some (.lst acc) := same_new ht _ _ hd6
          refine PySem.W.each_snoc (PairAt.put ⟨t, rfl, upd_same⟩ hDt) (ea.mono fun v z r => (r.same (same_new ht)).put hDt)
    · rintro H6 ⟨s6, acc, hd6, ea⟩
      rw [List.length_map, List.length_map, List.take_length] at ea
      exact hq H6 D acc (S5.trans s6) (S5.free hD) hd6 ea
end
end K5

set_option Elab.async false
set_option linter.all false
set_option maxRecDepth 100000
set_option maxHeartbeats 4000000
namespace LF
open PySem PySem.Spec PyProof.Rows L2
/-- the least of some texts -/
def ltT (a b : Str) : Bool := PySem.W.dataLt (.str a) (.str b)
def minT (z : Str) (zs : List Str) : Str := zs.foldl (fun a y => if ltT y a = true then y else a) z
theorem minD_strs : ∀ (zs : List Str) (z : Str), PySem.W.minD (.str z) (zs.map .str) = .str (minT z zs)
  | [], _ => rfl
  | y :: zs, z => by
    show PySem.W.minD (if PySem.W.dataLt (.str y) (.str z) = true then .str y else .str z) (zs.map .str) = .str (minT (if ltT y z = true then y else z) zs)
    unfold ltT
    by_cases h : PySem.W.dataLt (.str y) (.str z) = true
    · rw [if_pos h, if_pos h]; exact minD_strs zs y
    · rw [if_neg h, if_neg h]; exact minD_strs zs z
def rMinS (K : PySem.W.Frag) : List V → Hp → VK → Prop := fun vs H Q => ∃ (a : Addr) (z : Str) (zs : List Str), vs = [.ref a] ∧ SqL K H a ((z :: zs).map V.str) ∧ Q (.str (minT z zs)) H
theorem dps : ∀ {K : PySem.W.Frag} {H : Hp} (l : List Str), DpAll K H (l.map V.str) (l.map .str)
  | _, _, [] => .nil
  | _, _, a :: l => .cons (.str a) (dps l)
theorem depths : ∀ xs : List Str, PyData.depthAll (xs.map .str) = 0
  | [] => by simp [PyData.depthAll]
  | x :: xs => by
    show PyData.depthAll (.str x :: xs.map .str) = 0
    rw [PyData.depthAll, depths xs]
    simp [PyData.depth]
theorem call_minS {X : Cx} (hc : X.calm = true) (hu : X.A.units + 64 < cLine) : CallR X (.builtin "min") (rMinS X.K) := by
  intro pins s σ H vs us Q I r h
  obtain ⟨a, z, zs, rfl, hs, q⟩ := h
  obtain ⟨its, rv, hl, hz⟩ := I.list hs
  rw [Vals.ref1 r]
  obtain ⟨as, ra⟩ := Dp.readsAll I ((z :: zs).map .str) _ _ (dps (z :: zs)) rv
  have hd := depths (z :: zs)
  refine PySem.W.min_list_data (x := .str z) (xs := zs.map .str) (I.ok.hd hc) hl.isList (by simpa using ra) ⟨fun x hx y hy => ?_, fun x hx => ?_⟩ ?_ (fun i v h' tk bs hv hr hk => ?_)
  · have hx' : x ∈ (z :: zs).map PyData.str := hx
    have hy' : y ∈ (z :: zs).map PyData.str := hy
    obtain ⟨x0, _, rfl⟩ := List.mem_map.mp hx'
    obtain ⟨y0, _, rfl⟩ := List.mem_map.mp hy'
    simp [PySem.W.alike]
  · have hx' : x ∈ (z :: zs).map PyData.str := hx
    obtain ⟨x0, _, rfl⟩ := List.mem_map.mp hx'
    simp
  · show X.A.units + 1 + PyData.depthAll ((z :: zs).map .str) < cLine
    rw [hd]; omega
  · rw [minD_strs] at hr
    cases hr
    exact ⟨.str _, H, I.kept hk, ⟨_, rfl⟩, q⟩
end LF

set_option Elab.async false
set_option linter.all false
set_option maxRecDepth 100000
set_option maxHeartbeats 4000000
namespace PySem
namespace BadEntryX
open PySem.W PySem.Calls PyProof.Rows PySem.HandSPX
abbrev veETail : List Value := [.type "ValueError", .type "Exception", .type "BaseException", .type "object"]
/-! ### the text of __init__ -/
def iA (p1 p2 : Pos) : Arguments := { posonlyargs := [], args := [{ arg := "self", annotation := none, pos := p1 }, { arg := "path", annotation := none, pos := p2 }], vararg := none, kwonlyargs := [], kw_defaults := [], kwarg := none, defaults := [] }
def iB (q1 q2 q3 q4 : Pos) : List Stmt := [.Assign [.Attribute (.Name "self" q1) "path" q2] (.Name "path" q3) q4]
def iS : Scope := { kind := .function, names := [(PySem.Str.ofString "self", .local), (PySem.Str.ofString "path", .local)], isGenerator := false, isCoroutine := false, more := [] }
/-- what the written part says of Low, at C, and of its __init__, at fI -/
structure EntryTxt (K : Frag) (mg : Str → Option Value) (C fI : Addr) : Prop where
  gC : mg "BadEntry" = some (.ref C)
  cls : ∃ nm q N bs bm sn sub ab col dd k0 k1 k2 k3 k5, K.lookup C = some (excClassObj nm q C N bs bm true sn sub ab col dd k0 k1 k2 k3 k5 "ValueError.__new__") ∧ bm = veETail
  sa : findIn K (.ref C) "__setattr__" = some (some (.builtin "object.__setattr__"))
  ga : findIn K (.ref C) "__getattribute__" = some (some (.builtin "BaseException.__getattribute__"))
  gg : findIn K (.ref C) "__getattr__" = some none
  noN : findIn K (.ref C) "path" = some none
  iC : findIn K (.ref C) "__init__" = some (some (.ref fI))
  tC : typeIn K (.ref fI) = some (.type "function")
  kC : keepIn K (.ref C) = true
  exC : subIn K (.ref C) (.type "BaseException") = some true
  tyC : typeIn K (.ref C) = some (.type "type")
  hdC : hasDictIn K C = true
  te : exmOne K (.ref C) (.ref C) = some true
  fn : ∃ (oc : Value) (od : Option Addr) (doc pm : Value) (an : Option Addr) (cdv ct : Value) (osl : Array (Option Value)) (p1 p2 q1 q2 q3 q4 : Pos),
    K.lookup fI = some ⟨oc, od, .func (fnOf "__init__" "BadEntry.__init__" (iA p1 p2) (iB q1 q2 q3 q4) iS .none .none doc pm an cdv ct), osl⟩ ∧ codeIn K cdv "BadEntry.__init__" = true
theorem one_size (v : Value) : [v].length ≤ sizeLine := by
  rw [sizeLine_eq]
  exact (by decide : 1 ≤ 16777216)
theorem kept_but {K : Frag} {h h' : Heap} {x : Addr} (X : K.In h) (hx : K.lookup x = none) (k : ∀ b o, b ≠ x → h.get? b = some o → h'.get? b = some o) : K.In h' := fun a o e =>
  k a o (fun z => by rw [z, hx] at e; cases e) (X a o e)
theorem ldC {M : Model} {s : Shared} {name : Str} {scope : Scope} {L a : Addr} {cd : Value} {m : Str → Option Value} {x : Str} {pos : Pos} {v : Value} {Q : Value → Shared → Prop} {A : Around} {E : Value → Shared → Prop} (hn : s.heap.Ns L m) (hv : m x = some v) (h : Q v s)
    (hk : scope.kind = .function := by rfl) (hl : (envOfC name scope L a cd).kindOf x = some .local := by rfl) (hd : (x == ("__debug__" : Str)) = false := by decide) :
    wpAny M A (eval (.Name x pos) (envOfC name scope L a cd)) Q E s := wpAny_Name (wpAny_loadName_local hk hl hn hv h) hd
/-- what __init__ leaves of a fresh exception at x -/
structure InitEnd (h h' : Heap) (x C dx t1 : Addr) (v : Value) : Prop where
  keep : ∀ b o, b ≠ x → h.get? b = some o → h'.get? b = some o
  obj : h'.get? x = some { cls := .ref C, dict := some dx, data := .fields #[.ref t1, .none, .none, .none, .bool false, .none] }
  dbig : h.objs.size ≤ dx
  dne : dx ≠ x
  ns : h'.Ns1 dx (fun y => if y = "path" then some v else none)
/-- a made Low -/
structure OwnMade (h h' : Heap) (e C d : Addr) (v : Value) : Prop where
  keep : ∀ b o, h.get? b = some o → h'.get? b = some o
  new : h.objs.size ≤ e
  obj : ∃ oe vs, h'.get? e = some oe ∧ oe.cls = .ref C ∧ oe.dict = some d ∧ oe.data = .fields vs ∧ vs[1]? = some .none
  dbig : h.objs.size ≤ d
  dne : d ≠ e
  ns : h'.Ns1 d (fun y => if y = "path" then some v else none)
section
variable {prog : Program} {w : World} {A : Around} {E : Value → Shared → Prop} {R : Result → Shared → Prop} {s : Shared} {K : Frag} {mg : Str → Option Value} {C fI : Addr}
theorem low_init (T : EntryTxt K mg C fI) {x t0 : Addr} {v : Value} (X : K.In s.heap) (hlim : s.heap.NoLimit) (hx : s.heap.get? x = some (excO C t0)) (hnx : K.lookup x = none) (hroom : A.depth < recursionLimit)
    (hq : ∀ h' tk dx, InitEnd s.heap h' x C dx t0 v → R (.ok (.ret .none)) { s with heap := h', toks := tk }) :
    codeAny (model prog w) A (.call (.ref fI) ⟨[.ref x, v], []⟩) R s := by
  obtain ⟨oc, od, doc, pm, an, cdv, ct, osl, p1, p2, q1, q2, q3, q4, ho, hcd⟩ := T.fn
  obtain ⟨nm, q, N, bs, bm, sn, sub, ab, col, dd, k0, k1, k2, k3, k5, hC, hbm⟩ := T.cls
  have hcl : clsIn K C = some { name := nm, bases := bs, mro := .ref C :: bm, ns := N, qualname := q, hasDict := true, slotNames := sn, subclasses := sub, abstract := ab, collection := col, hasDel := false } := by unfold clsIn; rw [hC] <;> rfl
  refine Att.call_fn (binds := [("self", .ref x), ("path", v)]) X hlim ho hcd hroom (BindsTo.of_eq (by first | rfl | with_unfolding_all rfl)) (by first | rfl | decide | with_unfolding_all rfl) (fun s₁ IC => ?_) rfl rfl rfl
  obtain ⟨h₁, tk₁, rfl⟩ := IC.toInCall.same
  have k : ∀ b o, s.heap.get? b = some o → h₁.get? b = some o := IC.toInCall.keep
  have hn := IC.toInCall.ns
  have hxL : s.heap.objs.size ≠ x := Nat.ne_of_gt (Heap.lt_size hx)
  have X₁ : K.In h₁ := X.keeps k
  have hx₁ := k _ _ hx
  -- self.by = by
  show wpAny _ _ (execs _ _) _ _ _
  refine wpAny_execs_cons (plainObj_wpAny_Assign_Attribute ?_)
  refine ldC (v := v) hn (by first | rfl | with_unfolding_all rfl | kernel_rfl) (ldC (v := .ref x) hn (by first | rfl | with_unfolding_all rfl | kernel_rfl) ?_)
  refine set_plain X₁ (ox := excO C t0) (od := none) ⟨hx₁, rfl, rfl, trivial⟩ T.sa ?_
  subst hbm
  refine LF.put_field PySem.F.store_ValueError (by decide +kernel) X₁ hx₁ hcl rfl rfl T.noN (fun h₃ tk₃ dx k₃ dn dne hx₃ hn₃ => ?_)
  show wpAny _ _ (execs _ _) _ _ _
  have z : s.heap.objs.size < h₁.objs.size := hn.lt
  exact wpAny_execs_nil (hq h₃ tk₃ dx ⟨fun b o hb e => k₃ b o hb (k b o e), hx₃, Nat.le_of_lt (Nat.lt_of_lt_of_le z dn), dne, hn₃⟩)
theorem low_made (T : EntryTxt K mg C fI) {v : Value} (X : K.In s.heap) (hlim : s.heap.NoLimit) (hroom : A.depth + 1 < recursionLimit)
    (hq : ∀ h' tk e d, OwnMade s.heap h' e C d v → R (.ok (.ret (.ref e))) { s with heap := h', toks := tk }) :
    codeAny (model prog w) A (.call (.ref C) ⟨[v], []⟩) R s := by
  obtain ⟨nm, q, N, bs, bm, sn, sub, ab, col, dd, k0, k1, k2, k3, k5, hC, hbm⟩ := T.cls
  obtain ⟨hp, g, dr, tk, os⟩ := s
  have k : ∀ b o, hp.get? b = some o → ((hp.push (kdv_tup [v])).push (excO C hp.objs.size)).get? b = some o := fun b o e => Heap.get?_push_of_some _ (Heap.get?_push_of_some _ e)
  have hget : ((hp.push (kdv_tup [v])).push (excO C hp.objs.size)).get? (hp.objs.size + 1) = some (excO C hp.objs.size) := by heap_get
  have hnx : K.lookup (hp.objs.size + 1) = none := by
    cases e : K.lookup (hp.objs.size + 1) with
    | none => rfl
    | some o =>
      have z : hp.get? (hp.objs.size + 1) = some o := X _ _ e
      exact absurd (Nat.lt_of_succ_lt (Heap.lt_size z)) (Nat.lt_irrefl _)
  subst hbm
  refine call_own F.excBase_ValueError (fun X => rfl) (X _ _ hC) (looks_findIn X T.iC) (fun self => bind_fn X self T.tC) (one_size v) ?_
  refine low_init (s := ⟨(hp.push (kdv_tup [v])).push (excO C hp.objs.size), g, dr, tk, os⟩) T (X.keeps k) (hlim.keeps k) hget hnx ?_ fun h' tk' dx ⟨k', hx, dn, dne, hns⟩ => ?_
  · show A.depth + 1 < recursionLimit
    exact hroom
  · have old : ∀ b o, hp.get? b = some o → h'.get? b = some o := fun b o e => k' b o (Nat.ne_of_lt (Nat.lt_succ_of_lt (Heap.lt_size e))) (k b o e)
    have z : hp.objs.size + 1 + 1 ≤ dx := by
      first
        | (simpa only [Heap.size_push] using dn)
        | exact dn
        | (have q := dn; rw [Heap.size_push, Heap.size_push] at q; exact q)
    exact ⟨rfl, hq h' tk' (hp.objs.size + 1) dx ⟨old, Nat.le_succ _, ⟨_, _, hx, rfl, rfl, rfl, rfl⟩, Nat.le_trans (Nat.le_trans (Nat.le_succ _) (Nat.le_succ _)) z, dne, hns⟩⟩
end
end BadEntryX
end PySem
namespace L2
open PySem PySem.Spec PyProof.Rows
theorem relO_Entry {v : V} {v' : Value} (r : RelV v v') (f : Str) : RelO (List.lookup f [(("path" : Str), v)]) (if f = "path" then some v' else none) := by
  by_cases hw : f = "path"
  · subst hw
    rw [if_pos rfl]
    have q : List.lookup ("path" : Str) [(("path" : Str), v)] = some v := by simp [List.lookup]
    rw [q]
    exact r
  · rw [if_neg hw]
    have qw : (f == ("path" : Str)) = false := by simpa using hw
    have q2 : List.lookup f [(("path" : Str), v)] = none := by simp [List.lookup, qw]
    rw [q2]
    trivial
section
variable {X : Cx} {C fI : Addr}
/-- Low(e) -/
def tMkEntry (C : Addr) (ta : TA) : St → Hp → XK → Prop := fun σ H Q => ta σ H fun vs H1 => ∃ v, vs = [v] ∧ ∀ d, H1 d = none → Q (.ref C) (some d) (upd H1 d (.xd [(("path" : Str), v)]))
theorem pmk_Entry {a : Expr} {ta : TA} {p pos : Pos} {k : Nat} (T : PySem.BadEntryX.EntryTxt X.K X.mg C fI) (hr : Room k X.A) (ha : PA X [a] ta) (hg : Gl X "BadEntry" := by rfl)
    (he : starEach (a :: []) X.env = (false, eval a X.env) :: starEach [] X.env := by rfl) (hpl : (backTo pos (starEach [] X.env)).any (·.1) = false := by rfl) :
    PMk X (.Call (.Name "BadEntry" p) [a] [] pos) (tMkEntry C ta) := by
  intro pins s σ H Q I h
  refine wpAny_Call_Name_kw (ld_glob I hg T.gC ?_)
  refine PySem.W.callWith_K (h₀ := X.base) I.ok.mod.kin T.kC (thn (ha.run pos pins s σ H _ I h) fun us s1 hh => ?_) he hpl
  obtain ⟨vs, H1, I1, r1, v, ev, q1⟩ := hh
  subst ev
  refine ⟨I1.kIn, ?_⟩
  cases r1 with
  | cons rv rn =>
    rename_i v' us'
    cases rn
    show wpAny _ _ (call (.ref C) [v']) _ _ _
    have hlim := I1.nolimit
    obtain ⟨hp, g, dr, tk, os⟩ := s1
    refine wpAny_call (PySem.BadEntryX.low_made T I1.kIn hlim (by have := hr.dp; omega) fun h' tk' e d M => ?_)
    show MkP X pins σ Q (.ref e) ⟨h', g, dr, tk', os⟩
    obtain ⟨oe, fv, hoe, hc, hd, hdat, h1⟩ := M.obj
    have hns := M.ns
    obtain ⟨G', g1, g2⟩ := restrict h' fun b => decide (b ≠ e)
    have gk : ∀ b, b ≠ e → G'.get? b = h'.get? b := fun b hb => g1 b (decide_eq_true hb)
    have ge : G'.get? e = none := g2 e (by simp)
    have old : ∀ b o, hp.get? b = some o → G'.get? b = some o := fun b o q => (gk b (Nat.ne_of_lt (Nat.lt_of_lt_of_le (Heap.lt_size q) M.new))).trans (M.keep b o q)
    have ob : ObjOk X.prog X.w (upd H1 d (.xd [(("path" : Str), v)])) G' d (.xd [(("path" : Str), v)]) :=
      ⟨_, hns.at (fun o q => (gk d M.dne).trans q), fun f => relO_Entry rv f⟩
    have J : Inv X pins σ (upd H1 d (.xd [(("path" : Str), v)])) ⟨G', g, dr, tk', os⟩ := I1.laid (t' := tk') old M.dbig ob
    refine ⟨e, oe, fv, ⟨G', g, dr, tk', os⟩, _, .ref C, some d, rfl, J, fun b o q => ?_, ge, hoe, ⟨hc, hd⟩, hdat, h1, ?_, rfl, I1.bare, raises_own T.exC T.tyC, q1 d (I1.hok.fresh M.dbig)⟩
    · by_cases hb : b = e
      · have q' : G'.get? b = some o := q
        rw [hb, ge] at q'; cases q'
      · exact (gk b hb).symm.trans q
    · rw [upd_ne (Ne.symm M.dne)]
      exact I1.hok.fresh M.new
/-- raise Low(e) -/
def tRaiseEntry (C : Addr) (W : WX) (ta : TA) : TS := fun _ σ H => tMkEntry C ta σ H fun cls d H' => W cls d σ H'
theorem ps_raiseEntry {a : Expr} {ta : TA} {W : WX} {p pos pos2 : Pos} {k : Nat} (hc : X.calm = true) (T : PySem.BadEntryX.EntryTxt X.K X.mg C fI) (hr : Room k X.A) (tk : Takes X W) (ha : PA X [a] ta) (hg : Gl X "BadEntry" := by rfl)
    (he : starEach (a :: []) X.env = (false, eval a X.env) :: starEach [] X.env := by rfl) (hpl : (backTo pos (starEach [] X.env)).any (·.1) = false := by rfl) :
    PS X (.Raise (some (.Call (.Name "BadEntry" p) [a] [] pos)) none pos2) (tRaiseEntry C W ta) := ps_raise hc tk (pmk_Entry T hr ha hg he hpl)
/-- low.by, low the exception that the suite holds (at a; its class cls, its dict d) -/
def tOfEntry (C : Addr) (a : Addr) (cls : Value) (d : Option Addr) (te : TE) : TE := fun σ H Q => te σ H fun x H1 => x = .ref a ∧ cls = .ref C ∧ ∃ (dd : Addr) (v : V), d = some dd ∧ H1 dd = some (.xd [(("path" : Str), v)]) ∧ Q v H1
theorem pe_ofEntry {a : Addr} {oe : Obj} {cls : Value} {d : Option Addr} {pn : List (Addr × Obj)} {e : Expr} {te : TE} {pos : Pos} (T : PySem.BadEntryX.EntryTxt X.K X.mg C fI) (hz : Zc cls d oe) (hf : ∃ vs, oe.data = .fields vs) (he : PE (X.suite a ((a, oe) :: pn)) e te)
    (hb : attributeBase e "path" X.env (eval e X.env) = eval e X.env := by rfl) :
    PE (X.suite a ((a, oe) :: pn)) (.Attribute e "path" pos) (tOfEntry C a cls d te) := by
  refine ⟨fun pins s σ H Q I h => ?_⟩
  refine attr_of hb (thn (he.run pins s σ H _ I h) fun u s1 hh => ?_)
  obtain ⟨x, H1, I1, rx, ex, ec, dd, v, ed, ea, q⟩ := hh
  subst ex
  obtain rfl : u = Value.ref a := rx
  subst ec
  subst ed
  obtain ⟨ha, _⟩ := I1.pin (a, oe) (List.mem_append_left _ List.mem_cons_self)
  obtain ⟨vs, hd⟩ := hf
  have hx : ObjOk X.prog X.w H1 s1.heap dd (.xd [(("path" : Str), v)]) := I1.hok dd _ ea
  obtain ⟨mA, hns, hr⟩ := hx
  obtain ⟨od, ho, hl⟩ := lookIn_ns hns
  have l : List.lookup ("path" : Str) [(("path" : Str), v)] = some v := by simp [List.lookup]
  obtain ⟨u, hu, ru⟩ := RelO.some_of (v := v) (o := mA "path") (by rw [← l]; exact hr "path")
  have J : PySem.W.InstAt s1.heap a oe C (some od) := ⟨ha, hz.1, by unfold PySem.W.notCls; rw [hd] <;> rfl, by rw [hz.2]; exact ho⟩
  exact HandSPX.exc_get I1.kIn J T.ga T.gg T.exC (PySem.W.findObj_own T.hdC T.noN rfl (by rw [hl, hu])) (handed_of ru) ⟨v, H1, I1.tok _, ru, q⟩
end
end L2


set_option Elab.async false
set_option linter.all false
set_option maxRecDepth 100000
set_option maxHeartbeats 4000000
namespace K5
open PySem PySem.Spec PyProof.Rows L2 LF TL
/-- a truth value, a list, a tuple or a dict -/
def Odd (H : Hp) (x : V) : Prop := (∃ b, x = .bl b) ∨ (∃ a xs, x = .ref a ∧ H a = some (.lst xs)) ∨ (∃ a xs, x = .ref a ∧ H a = some (.tup xs)) ∨ ∃ a kvs, x = .ref a ∧ H a = some (.dK kvs)
def PlainX (H : Hp) (x : V) : Prop := Plain x ∨ Odd H x
theorem Odd.same {H H' : Hp} {x : V} (h : Odd H x) (s : Same H H') : Odd H' x := by
  rcases h with h | ⟨a, xs, h1, h2⟩ | ⟨a, xs, h1, h2⟩ | ⟨a, xs, h1, h2⟩
  · exact Or.inl h
  · exact Or.inr (Or.inl ⟨a, xs, h1, s _ _ h2⟩)
  · exact Or.inr (Or.inr (Or.inl ⟨a, xs, h1, s _ _ h2⟩))
  · exact Or.inr (Or.inr (Or.inr ⟨a, xs, h1, s _ _ h2⟩))
theorem PlainX.same {H H' : Hp} {x : V} (h : PlainX H x) (s : Same H H') : PlainX H' x := h.elim Or.inl fun h => Or.inr (h.same s)
theorem Odd.ty {K : PySem.W.Frag} {H : Hp} {x : V} (h : Odd H x) : ∃ t, TyX K H x (.type t) ∧ t ∈ ["bool", "list", "tuple", "dict"] := by
  rcases h with ⟨b, rfl⟩ | ⟨a, xs, rfl, h2⟩ | ⟨a, xs, rfl, h2⟩ | ⟨a, xs, rfl, h2⟩
  · exact ⟨_, .base (.bl b), by simp⟩
  · exact ⟨_, .base (.lst h2), by simp⟩
  · exact ⟨_, .base (.tup h2), by simp⟩
  · exact ⟨_, .base (.dK h2), by simp⟩
theorem odd_str {K : PySem.W.Frag} {H : Hp} {x : V} (h : Odd H x) : ∃ t, TyX K H x t ∧ PySem.W.kitOne K t (.type "str") = some false := by
  obtain ⟨t, h1, h2⟩ := h.ty (K := K)
  refine ⟨_, h1, ?_⟩
  simp only [List.mem_cons, List.not_mem_nil, or_false] at h2
  rcases h2 with rfl | rfl | rfl | rfl <;> exact kit_ty (by decide +kernel)
theorem odd_item {H : Hp} {x : V} (h : Odd H x) : contentV x = false ∧ targetV x = false ∧ itemV x = false ∧ x ≠ .non := by
  rcases h with ⟨b, rfl⟩ | ⟨a, xs, rfl, h2⟩ | ⟨a, xs, rfl, h2⟩ | ⟨a, xs, rfl, h2⟩ <;> exact ⟨rfl, rfl, rfl, fun h => (nomatch h)⟩
def spVX (g : V → Bool) : Sp := fun vs H Q _ => ∃ x, vs = [x] ∧ PlainX H x ∧ ∀ H', Same H H' → Q (.bl (g x)) H'
def ptV : V → Bool
  | .str z => isPt z
  | _ => false
theorem plainX_ok {K : PySem.W.Frag} {H : Hp} {x : V} (h : PlainX H x) : isOk K H x isPt (ptV x) := by
  rcases h with (rfl | ⟨i, rfl⟩ | ⟨z, rfl, hz⟩) | h
  · exact Or.inr ⟨⟨_, .base .non, kit_no (t := "NoneType") (by simp [notStr])⟩, rfl⟩
  · exact Or.inr ⟨⟨_, .base (.int i), kit_no (t := "int") (by simp [notStr])⟩, rfl⟩
  · exact Or.inl ⟨z, rfl, hz, rfl⟩
  · have h2 := odd_str (K := K) h
    refine Or.inr ⟨h2, ?_⟩
    rcases h with ⟨b, rfl⟩ | ⟨a, xs, rfl, _⟩ | ⟨a, xs, rfl, _⟩ | ⟨a, xs, rfl, _⟩ <;> rfl
section
variable {P : Program} {w : World} {K : PySem.W.Frag} {mg : Str → Option Value} {base : Heap} {tk1 tk2 : Tok}
theorem ok_is_integerX {f : Addr} {fd : FuncData} (F : Fun K "is_integer" "is_integer" s_is_integer f fd) (T : Txt K mg tk1 tk2) : FnOk P w K mg base CX0 1 f fd ["thing"] (spVX integerV) := by
  refine F.ok sc_is_integer (fun vs H Q E h => ?_) (fun cdv A outer s H vs Q E hr h => ?_)
  · obtain ⟨x, rfl, _⟩ := h
    rfl
  refine ⟨_, (pss_one (ps_ret (pe_and (pe_callB call_isi (by rfl) T.n_isinstance (by decide +kernel) (pa_cons (pv 0) (pa_cons (pe_bltn (v := .ty "int") (by rfl) T.n_int (by decide +kernel) rfl) pa_nil))) (pe_one (pe_not (pe_callB call_isi (by rfl) T.n_isinstance (by decide +kernel) (pa_cons (pv 0) (pa_cons (pe_bltn (v := .ty "bool") (by rfl) T.n_bool (by decide +kernel) rfl) pa_nil)))))))), ?_⟩
  obtain ⟨x, rfl, hx, hq⟩ := h
  rcases hx with (rfl | ⟨i, rfl⟩ | ⟨z, rfl, hz⟩) | ho
  · refine ⟨_, rfl, _, .ty "int", _, _, false, rfl, .ty _, .base .non, kit_ty (by decide +kernel), ?_⟩
    exact ⟨_, rfl, iteF (hq H (Same.refl H))⟩
  · refine ⟨_, rfl, _, .ty "int", _, _, true, rfl, .ty _, .base (.int i), kit_ty (by decide +kernel), ?_⟩
    refine ⟨_, rfl, iteT ?_⟩
    refine ⟨_, rfl, _, .ty "bool", _, _, false, rfl, .ty _, .base (.int i), kit_ty (by decide +kernel), ?_⟩
    exact ⟨_, rfl, hq H (Same.refl H)⟩
  · refine ⟨_, rfl, _, .ty "int", _, _, false, rfl, .ty _, .base (.str z), kit_ty (by decide +kernel), ?_⟩
    exact ⟨_, rfl, iteF (hq H (Same.refl H))⟩
  · have hc : integerV x = false := by
      rcases ho with ⟨b, rfl⟩ | ⟨a, xs, rfl, h2⟩ | ⟨a, xs, rfl, h2⟩ | ⟨a, xs, rfl, h2⟩ <;> rfl
    rw [hc] at hq
    obtain ⟨t, ty, ht⟩ := ho.ty (K := K)
    by_cases hb : t = "bool"
    · subst hb
      refine ⟨_, rfl, _, .ty "int", _, _, true, rfl, .ty _, ty, kit_ty (by decide +kernel), ?_⟩
      refine ⟨_, rfl, iteT ?_⟩
      refine ⟨_, rfl, _, .ty "bool", _, _, true, rfl, .ty _, ty, kit_ty (by decide +kernel), ?_⟩
      exact ⟨_, rfl, hq H (Same.refl H)⟩
    · have hk : PySem.W.kitOne K (.type t) (.type "int") = some false := by
        simp only [List.mem_cons, List.not_mem_nil, or_false] at ht
        rcases ht with rfl | rfl | rfl | rfl
        · exact absurd rfl hb
        · exact kit_ty (by decide +kernel)
        · exact kit_ty (by decide +kernel)
        · exact kit_ty (by decide +kernel)
      refine ⟨_, rfl, _, .ty "int", _, _, false, rfl, .ty _, ty, hk, ?_⟩
      exact ⟨_, rfl, iteF (hq H (Same.refl H))⟩
theorem ok_is_contentX {f f1 : Addr} {fd fd1 : FuncData} (F : Fun K "is_content" "is_content" s_is_content f fd) (T : Txt K mg tk1 tk2) (N : Nums K mg) (d_int : DefAt P w K mg base "is_integer" 1 f1 fd1 ["thing"] (spVX integerV)) : FnOk P w K mg base CX0 2 f fd ["thing"] (spVX contentV) := by
  obtain ⟨tg, hg⟩ := N.great
  refine F.ok sc_is_content (fun vs H Q E h => ?_) (fun cdv A outer s H vs Q E hr h => ?_)
  · obtain ⟨x, rfl, _⟩ := h
    rfl
  refine ⟨_, (pss_one (ps_ret (pe_and (pe_callD d_int (hr.mono (by decide)) (pa_cons (pv 0) pa_nil)) (pe_one (pe_cmpR op_le (pe_callB call_abs (by rfl) T.n_abs (by decide +kernel) (pa_cons (pv 0) pa_nil)) (pe_glob (v := .int 999999999999) rfl hg ⟨_, rfl⟩) (nomark _)))))), ?_⟩
  obtain ⟨x, rfl, hx, hq⟩ := h
  refine ⟨_, rfl, x, rfl, hx, fun H1 s1 => ⟨_, rfl, ?_⟩⟩
  rcases hx with (rfl | ⟨i, rfl⟩ | ⟨z, rfl, hz⟩) | ho
  · exact iteF (hq H1 s1)
  · exact iteT ⟨_, rfl, _, rfl, _, _, rfl, rfl, hq H1 s1⟩
  · exact iteF (hq H1 s1)
  · have hc := (odd_item ho).1
    have hi : integerV x = false := by
      rcases ho with ⟨b, rfl⟩ | ⟨a, xs, rfl, h2⟩ | ⟨a, xs, rfl, h2⟩ | ⟨a, xs, rfl, h2⟩ <;> rfl
    have := hq H1 s1
    rw [hc] at this
    rw [hi]
    exact iteF this
theorem ok_is_targetX {f f1 f2 : Addr} {fd fd1 fd2 : FuncData} (F : Fun K "is_target" "is_target" s_is_target f fd) (T : Txt K mg tk1 tk2) (N : Nums K mg) (d_is_path : DefAt P w K mg base "is_path" 2 f1 fd1 ["thing"] (spPath K)) (d_split : DefAt P w K mg base "split_path" 1 f2 fd2 ["path"] spSplit) :
    FnOk P w K mg base CX0 3 f fd ["thing"] (spVX targetV) := by
  obtain ⟨tg, hg⟩ := N.tnames
  refine F.ok sc_is_target (fun vs H Q E h => ?_) (fun cdv A outer s H vs Q E hr h => ?_)
  · obtain ⟨x, rfl, _⟩ := h
    rfl
  refine ⟨_, (pss_one (ps_ret (pe_and (pe_callD d_is_path (hr.mono (by decide)) (pa_cons (pv 0) pa_nil)) (pe_one (pe_cmpR op_le (pe_callB call_len_seq (by rfl) T.n_len (by decide +kernel) (pa_cons (pe_callD d_split (hr.mono (by decide)) (pa_cons (pv 0) pa_nil)) pa_nil)) (pe_glob (v := .int 8) rfl hg ⟨_, rfl⟩) (nomark _)))))), ?_⟩
  obtain ⟨x, rfl, hx, hq⟩ := h
  refine ⟨_, rfl, x, _, rfl, plainX_ok hx, fun H1 s1 => ⟨_, rfl, ?_⟩⟩
  rcases hx with (rfl | ⟨i, rfl⟩ | ⟨z, rfl, hz⟩) | ho
  · exact iteF (hq H1 s1)
  · exact iteF (hq H1 s1)
  · have hfin : ∀ b : Bool, isTg z = b → ∀ H', Same H H' → Q (.bl b) H' := fun b e H' s' => by have h0 : Q (.bl (isTg z)) H' := hq H' s'; rw [e] at h0; exact h0
    show if isPt z = true then _ else _
    cases hb : isPt z with
    | false => exact iteF (hfin false (by unfold isTg; rw [hb]; rfl) H1 s1)
    | true =>
      refine iteT ⟨_, rfl, z, rfl, hz, fun H2 p s2 np hp => ?_⟩
      refine ⟨p, _, rfl, Or.inl (SqL.of hp), _, _, rfl, rfl, ?_⟩
      rw [List.length_map]
      refine hfin _ ?_ H2 (s1.trans s2)
      unfold isTg
      rw [hb, Bool.true_and]
      by_cases h8 : (parts z).length ≤ 8
      · rw [decide_eq_true h8]; exact (decide_eq_true (by omega)).symm
      · rw [decide_eq_false h8]; exact (decide_eq_false (by omega)).symm
  · have hc := (odd_item ho).2.1
    rw [hc] at hq
    rcases ho with ⟨b, rfl⟩ | ⟨a, xs, rfl, _⟩ | ⟨a, xs, rfl, _⟩ | ⟨a, xs, rfl, _⟩ <;> exact iteF (hq H1 s1)
theorem ok_is_itemX {f f1 f2 : Addr} {fd fd1 fd2 : FuncData} (F : Fun K "is_item" "is_item" s_is_item f fd) (d_c : DefAt P w K mg base "is_content" 2 f1 fd1 ["thing"] (spVX contentV)) (d_t : DefAt P w K mg base "is_target" 3 f2 fd2 ["thing"] (spVX targetV)) :
    FnOk P w K mg base CX0 4 f fd ["thing"] (spVX itemV) := by
  refine F.ok sc_is_item (fun vs H Q E h => ?_) (fun cdv A outer s H vs Q E hr h => ?_)
  · obtain ⟨x, rfl, _⟩ := h
    rfl
  refine ⟨_, (pss_one (ps_ret (pe_or (pe_cmpR op_isN (pv 0) pe_non (nomark _)) (pe_or (pe_callD d_c (hr.mono (by decide)) (pa_cons (pv 0) pa_nil)) (pe_one (pe_callD d_t (hr.mono (by decide)) (pa_cons (pv 0) pa_nil))))))), ?_⟩
  obtain ⟨x, rfl, hx, hq⟩ := h
  refine ⟨_, rfl, rfl, _, rfl, ?_⟩
  refine ifD (fun h1 => ?_) (fun h1 => ?_)
  · subst h1; exact hq H (Same.refl H)
  · have e : itemV x = (contentV x || targetV x) := by
      cases x with
      | non => exact absurd rfl h1
      | _ => rfl
    rw [e] at hq
    refine ⟨_, rfl, x, rfl, hx, fun H1 s1 => ⟨_, rfl, ?_⟩⟩
    cases hc : contentV x with
    | true => rw [hc] at hq; exact iteT (hq H1 s1)
    | false =>
      rw [hc] at hq
      exact iteF ⟨_, rfl, x, rfl, hx.same s1, fun H2 s2 => hq H2 (s1.trans s2)⟩
end
/-- a file or a reference lies ahead -/
def liesB (es : List (Str × V)) (p : Str) : Bool := (begs p).any fun s => !decide ((valV (kv es) (.inr s)).getD .non = .non)
def spLBX : Sp := fun vs H Q _ => ∃ (d : Addr) (es : List (Str × V)) (p : Str), vs = [.ref d, .str p] ∧ H d = some (.dK (kv es)) ∧ p.length ≤ 1000000 ∧ isPl p = true ∧ ∀ H', Same H H' → Q (.bl (liesB es p)) H'
section
variable {P : Program} {w : World} {K : PySem.W.Frag} {mg : Str → Option Value} {base : Heap} {tk1 tk2 : Tok}
theorem ok_liesX {f f1 : Addr} {fd fd1 : FuncData} (F : Fun K "lies_below_leaf" "lies_below_leaf" s_lies_below_leaf f fd) (n_any : mg "any" = none) (d_beg : DefAt P w K mg base "beginnings" 2 f1 fd1 ["path"] spBeg) :
    FnOk P w K mg base CX0 3 f fd ["entries", "path"] spLBX := by
  refine F.ok sc_lies_below_leaf (fun vs H Q E h => ?_) (fun cdv A outer s H vs Q E hr h => ?_)
  · obtain ⟨d, kvs, p, rfl, _⟩ := h
    rfl
  have hu1 := hu_of hr
  refine ⟨_, (pss_one (ps_ret (pe_callB (cr_any rfl) (by rfl) n_any (by decide +kernel) (pa_cons (pe_lc (own := [("place", 2)]) rfl sc_lies_below_leaf.nd (pi_list (pe_callD d_beg (hr.mono (by decide)) (pa_cons (pv 1) pa_nil))) (blkOk_by (N := N_lies_below_leaf) (sc := defScope s_lies_below_leaf) (by decide +kernel)) (fun _ _ _ _ _ => pg_name (i := 2) sc_lies_below_leaf.nd rfl (Or.inl rfl)) (fun _ _ _ _ _ => pts_nil)
      (fun _ _ _ _ _ => (pe_cmpR op_notN (pe_dget1 hu1 (pv 0) (pv 2) ⟨rfl, rfl, rfl, rfl⟩) pe_non (nomark _)))) pa_nil)))), ?_⟩
  obtain ⟨d, es, p, rfl, hd, hp, hpl, hq⟩ := h
  refine ⟨_, rfl, p, rfl, hp, hpl, fun H1 b s1 nb hb => ?_⟩
  refine ⟨b, rfl, ⟨_, SqL.of hb⟩, fun D hD => ?_⟩
  have hbl := begs_len hpl
  refine lc_filt (xs := (begs p).map V.str) (fun _ => true) (fun x => match x with | .str s => .bl (!decide ((valV (kv es) (.inr s)).getD .non = .non)) | _ => .non) hD (SqL.of hb) (by rw [List.length_map]; exact Nat.lt_of_le_of_lt hbl (by decide)) (fun x H1 R _ sm hR => hR H1 (Same.refl H1)) ?_ ?_
  · intro x H2 R1 hx _ sm hR
    obtain ⟨s0, hs0, rfl⟩ := List.mem_map.mp hx
    have hd3 := sm _ _ (s1 _ _ hd)
    exact ⟨_, rfl, d, rfl, Or.inl ⟨_, Or.inl hd3⟩, _, rfl, _, DGet.kv hd3, rfl, hR H2 (Same.refl H2)⟩
  · intro H2 sm hd2
    refine ⟨D, (begs p).map fun s => !decide ((valV (kv es) (.inr s)).getD .non = .non), rfl, SqL.of ?_, ?_⟩
    · rw [hd2, List.filter_eq_self.mpr (fun _ _ => rfl), List.map_map, List.map_map]; rfl
    · rw [List.any_map]
      exact hq H2 (s1.trans sm)
end
end K5

set_option Elab.async false
set_option linter.all false
set_option maxRecDepth 100000
set_option maxHeartbeats 4000000
namespace K5
open PySem PySem.Spec PyProof.Rows L2 LF TL
/-- entries as they may be given, keys texts -/
structure Ent (H : Hp) (es : List (Str × V)) : Prop where
  kl : ∀ e ∈ es, e.1.length ≤ 100000
  it : ∀ e ∈ es, PlainX H e.2
  nd : (es.map (·.1)).Nodup
  len : es.length ≤ 1000
theorem Ent.same {H H' : Hp} {es : List (Str × V)} (h : Ent H es) (s : Same H H') : Ent H' es := ⟨h.kl, fun e he => (h.it e he).same s, h.nd, h.len⟩
def wrongs (es : List (Str × V)) : List Str := (es.map (·.1)).filter fun p => !isPl p
def badAt (es : List (Str × V)) (p : Str) : Bool := !itemV ((valV (kv es) (.inr p)).getD .non) || liesB es p
/-- the first thing that is wrong with entries -/
def firstBad (es : List (Str × V)) : Option Str := match wrongs es with
  | [] => ((es.map (·.1)).mergeSort pLe).find? (badAt es)
  | z :: zs => some (minT z zs)
def strKey : Key → Bool
  | .inl _ => false
  | .inr _ => true
def spCEX (K : PySem.W.Frag) (CE : Addr) : Sp := fun vs H Q E => ∃ x, vs = [x] ∧
  ((∃ d es, x = .ref d ∧ H d = some (.dK (kv es)) ∧ Ent H es ∧ (firstBad es = none → ∀ H', Same H H' → Q .non H') ∧ (∀ p, firstBad es = some p → ∀ H' dd, Same H H' → H' dd = some (.xd [("path", .str p)]) → E (.ref CE) (some dd) H')) ∨
   (((∃ d kvs, x = .ref d ∧ H d = some (.dK kvs) ∧ kvs.length ≤ 1000 ∧ (kvs.all fun q => strKey q.1) = false) ∨ ∃ t, TyX K H x t ∧ PySem.W.kitOne K t (.type "dict") = some false) ∧ ∀ H' dd, Same H H' → H' dd = some (.xd [("path", .non)]) → E (.ref CE) (some dd) H'))
theorem kv_all (es : List (Str × V)) : ((kv es).all fun q => strKey q.1) = true := by
  rw [List.all_eq_true]
  intro q hq
  unfold kv at hq
  obtain ⟨e, _, rfl⟩ := List.mem_map.mp hq
  rfl
section
variable {P : Program} {w : World} {K : PySem.W.Frag} {mg : Str → Option Value} {base : Heap} {tk1 tk2 : Tok}
theorem ok_check_entriesX {f f1 f2 f3 f4 CE fE : Addr} {fd fd1 fd2 fd3 fd4 : FuncData} (F : Fun K "check_entries" "check_entries" s_check_entries f fd) (T : Txt K mg tk1 tk2) (LE : PySem.BadEntryX.EntryTxt K mg CE fE) (d_in_order : DefAt P w K mg base "in_order" 5 f1 fd1 ["paths"] (spOrder K))
    (d_place : DefAt P w K mg base "is_place" 3 f2 fd2 ["thing"] (spS isPl)) (d_item : DefAt P w K mg base "is_item" 4 f3 fd3 ["thing"] (spVX itemV)) (d_lies : DefAt P w K mg base "lies_below_leaf" 3 f4 fd4 ["entries", "path"] spLBX) :
    FnOk P w K mg base (L2.CX P w) 6 f fd ["entries"] (spCEX K CE) := by
  refine F.okX sc_check_entries (fun vs H Q E h => ?_) (fun cdv A outer s H vs Q E hr h => ?_)
  · obtain ⟨x, rfl, _⟩ := h
    rfl
  have hu := hr.units
  have hu1 := hu_of hr
  refine ⟨_, (pss_cons (ps_if (PW.pt (pw_or (pt_not (pt_val (pe_callB call_isi (by rfl) T.n_isinstance (by decide +kernel) (pa_cons (pv 0) (pa_cons (pe_bltn (v := .ty "dict") (by rfl) T.n_dict (by decide +kernel) rfl) pa_nil))))) (pw_or1 (pt_not (pt_val (pe_callB (cr_all rfl) (by rfl) T.n_all (by decide +kernel) (pa_cons (pe_lock (pe_lc (own := [("key", 1)]) rfl sc_check_entries.nd (pi_keys (pv 0)) (blkOk_by (N := N_check_entries) (sc := defScope s_check_entries) (by decide +kernel)) (fun _ _ _ _ _ => pg_name (i := 1) sc_check_entries.nd rfl (Or.inl rfl)) (fun _ _ _ _ _ => pts_nil)
      (fun _ _ _ _ _ => (pe_callB (show CallR _ (.builtin "isinstance") (rIsi K) from call_isi) (by rfl) T.n_isinstance (by decide +kernel) (pa_cons (pv 1) (pa_cons (pe_bltn (v := .ty "str") (by rfl) T.n_str (by decide +kernel) rfl) pa_nil)))))) pa_nil))))))) (pss_one (ps_raiseEntry rfl LE hr (takes_of rfl rfl rfl rfl) (by exact (pa_cons pe_non pa_nil)))) pss_nil)
    (pss_cons (ps_lock (ps_setLc (i := 2) (own := [("key", 1)]) rfl sc_check_entries.nd rfl rfl (sw_true rfl rfl rfl (by decide +kernel)) (pi_keys (pv 0)) (blkOk_by (N := N_check_entries) (sc := defScope s_check_entries) (by decide +kernel)) (fun _ _ _ _ _ => pg_name (i := 1) sc_check_entries.nd rfl (Or.inl rfl))
      (fun _ _ _ _ _ => pts_one (pt_not (pt_val (pe_callD d_place (hr.mono (by decide)) (pa_cons (pv 1) pa_nil))))) (fun _ _ _ _ _ => pv 1)))
    (pss_cons (ps_if (pt_cmpR op_gt (pe_callB call_len_seq (by rfl) T.n_len (by decide +kernel) (pa_cons (pv 2) pa_nil)) pe_int (nomark _)) (pss_one (ps_raiseEntry rfl LE hr (takes_of rfl rfl rfl rfl) (by exact (pa_cons (pe_callB (call_minS rfl hu) (by rfl) T.n_min (by decide +kernel) (pa_cons (pv 2) pa_nil)) pa_nil)))) pss_nil)
    (pss_one (ps_for (passes_of rfl) rfl (pi_list (pe_callD d_in_order (hr.mono (by decide)) (pa_cons (pe_callTy (call_listD rfl) (by rfl) T.n_list (by decide +kernel) (pa_cons (pv 0) pa_nil)) pa_nil))) (pg_name (i := 3) sc_check_entries.nd rfl (Or.inl rfl))
      (pss_one (ps_if (PW.pt (pw_or (pt_not (pt_val (pe_callD d_item (hr.mono (by decide)) (pa_cons (pe_dget hu1 (pv 0) (pv 3) (fun _ _ => rfl)) pa_nil)))) (pw_or1 (pt_val (pe_callD d_lies (hr.mono (by decide)) (pa_cons (pv 0) (pa_cons (pv 3) pa_nil))))))) (pss_one (ps_raiseEntry rfl LE hr (takes_of rfl rfl rfl rfl) (by exact (pa_cons (pv 3) pa_nil)))) pss_nil))))))), ?_⟩
  obtain ⟨x, rfl, h⟩ := h
  have hbig := sizeLine_big
  by_cases hty : ∃ t, TyX K H x t ∧ PySem.W.kitOne K t (.type "dict") = some false ∧ ∀ H' dd, Same H H' → H' dd = some (.xd [("path", .non)]) → E (.ref CE) (some dd) H'
  · obtain ⟨t, ty, ht, he⟩ := hty
    refine ⟨_, rfl, _, .ty "dict", _, _, false, rfl, .ty _, ty, ht, ?_⟩
    exact ⟨_, rfl, iteT (iteT ⟨_, rfl, fun dd hdd => he _ dd (same_new hdd) upd_same⟩)⟩
  have hd : ∃ d kvs, x = .ref d ∧ H d = some (.dK kvs) ∧ kvs.length ≤ 1000 ∧
      (((kvs.all fun q => strKey q.1) = false ∧ ∀ H' dd, Same H H' → H' dd = some (.xd [("path", .non)]) → E (.ref CE) (some dd) H') ∨
       ∃ es, kvs = kv es ∧ Ent H es ∧ (firstBad es = none → ∀ H', Same H H' → Q .non H') ∧ (∀ p, firstBad es = some p → ∀ H' dd, Same H H' → H' dd = some (.xd [("path", .str p)]) → E (.ref CE) (some dd) H')) := by
    rcases h with ⟨d, es, rfl, h1, h2, h3, h4⟩ | ⟨⟨d, kvs, rfl, h1, h2, h3⟩ | ⟨t, h1, h2⟩, he⟩
    · exact ⟨d, kv es, rfl, h1, by rw [kv_length]; exact h2.len, Or.inr ⟨es, rfl, h2, h3, h4⟩⟩
    · exact ⟨d, kvs, rfl, h1, h2, Or.inl ⟨h3, he⟩⟩
    · exact absurd ⟨t, h1, h2, he⟩ hty
  clear h hty
  obtain ⟨d, kvs, rfl, hd, hlen, h⟩ := hd
  refine ⟨_, rfl, _, .ty "dict", _, _, true, rfl, .ty _, .base (.dK hd), kit_ty (by decide +kernel), ?_⟩
  refine ⟨_, rfl, iteF ?_⟩
  -- every key is a text
  refine ⟨d, _, hd, True.intro, fun od => ?_⟩
  refine ⟨_, rfl, d, od, rfl, Or.inl ⟨kvs, upd_same, fun D hD => ?_⟩⟩
  have hl0 : (upd H d (.frz od (.dK kvs))) d = some (.frz od (.dK kvs)) := upd_same
  have hs0 : ∀ H', Same (upd H d (.frz od (.dK kvs))) H' → Same H (upd H' d (.dK kvs)) := fun H' s' => same_unlock hd s'
  generalize (upd H d (.frz od (.dK kvs))) = L at hl0 hs0 hD
  refine lc_it walk_keys (fun i H' => Same L H' ∧ H' D = some (.lst (((kvs.take i).map fun q => strKey q.1).map V.bl))) ⟨same_new hD, by rw [upd_same]; rfl⟩ (fun i H' _ h => h.1 _ _ hl0) ?_ ?_
  · rintro i x H1 H2 hi ⟨sm, hd1⟩ ⟨rfl, k, v, hk, rfl⟩
    have et : kvs.take (i + 1) = kvs.take i ++ [(k, v)] := by rw [List.take_add_one, hk]; rfl
    have hll : (((kvs.take i).map fun q => strKey q.1).map V.bl).length < sizeLine := by
      rw [List.length_map, List.length_map, List.length_take]; omega
    cases k with
    | inl n =>
      refine ⟨rfl, _, rfl, _, .ty "str", _, _, false, rfl, .ty _, .base (.int n), kit_no (by simp [notStr]), _, hd1, hll, fun b' o e => ?_, ?_⟩
      · rw [upd_ne (ne_of_none e hD)]; exact sm _ _ e
      · rw [upd_same, et, List.map_append, List.map_append]; rfl
    | inr p =>
      refine ⟨rfl, _, rfl, _, .ty "str", _, _, true, rfl, .ty _, .base (.str p), kit_str, _, hd1, hll, fun b' o e => ?_, ?_⟩
      · rw [upd_ne (ne_of_none e hD)]; exact sm _ _ e
      · rw [upd_same, et, List.map_append, List.map_append]; rfl
  rintro H1 ⟨sm1, hd1⟩
  refine ⟨sm1 _ _ hl0, ?_⟩
  have S1 := hs0 _ sm1
  have nDd : D ≠ d := Ne.symm (ne_of_none hl0 hD)
  rw [List.take_length] at hd1
  have hD1 : (upd H1 d (.dK kvs)) D = some (.lst ((kvs.map fun q => strKey q.1).map V.bl)) := by rw [upd_ne nDd]; exact hd1
  generalize (upd H1 d (.dK kvs)) = G1 at S1 hD1
  refine ⟨D, _, rfl, SqL.of hD1, ?_⟩
  have e1 : (kvs.map fun q => strKey q.1).all id = (kvs.all fun q => strKey q.1) := by rw [List.all_map]; rfl
  rw [e1]
  rcases h with ⟨hno, he⟩ | ⟨es, rfl, en, hq, he⟩
  · rw [hno]
    exact ⟨_, rfl, iteT ⟨_, rfl, fun dd hdd => he _ dd (S1.trans (same_new hdd)) upd_same⟩⟩
  rw [kv_all]
  refine ⟨_, rfl, iteF ?_⟩
  -- wrong
  have hdG := S1 _ _ hd
  have enl := en.len
  refine ⟨d, _, hdG, True.intro, fun od2 => ?_⟩
  refine ⟨_, rfl, d, od2, rfl, Or.inl ⟨kv es, upd_same, fun D2 hD2 => ?_⟩⟩
  have hl2 : (upd G1 d (.frz od2 (.dK (kv es)))) d = some (.frz od2 (.dK (kv es))) := upd_same
  have hs2 : ∀ H', Same (upd G1 d (.frz od2 (.dK (kv es)))) H' → Same G1 (upd H' d (.dK (kv es))) := fun H' s' => same_unlock hdG s'
  generalize (upd G1 d (.frz od2 (.dK (kv es)))) = L2' at hl2 hs2 hD2
  refine lc_keys (fun e => !isPl e.1) (fun e => .str e.1) hD2 hl2 (by omega) ?_ ?_ ?_
  · rintro ⟨p, v⟩ H3 R1 hm sm hR
    exact ⟨_, rfl, p, rfl, Nat.le_trans (en.kl _ hm) (by decide), fun H4 s4 => ⟨_, rfl, hR H4 s4⟩⟩
  · rintro ⟨p, v⟩ H3 R1 hm hp sm hR
    exact ⟨_, rfl, hR H3 (Same.refl H3)⟩
  rintro H2 sm2 hd2
  refine ⟨sm2 _ _ hl2, ?_⟩
  have S2 := hs2 _ sm2
  have nD2 : D2 ≠ d := Ne.symm (ne_of_none hl2 hD2)
  have hD3 : (upd H2 d (.dK (kv es))) D2 = some (.lst ((wrongs es).map V.str)) := by
    rw [upd_ne nD2, hd2]
    unfold wrongs
    rw [List.filter_map, List.map_map]; rfl
  have hwl : (wrongs es).length ≤ 1000 := by
    unfold wrongs
    refine Nat.le_trans (List.length_filter_le _ _) ?_
    rw [List.length_map]; exact enl
  generalize (upd H2 d (.dK (kv es))) = G2 at S2 hD3
  have SG2 := S1.trans S2
  refine ⟨_, rfl, D2, _, rfl, Or.inl (SqL.of hD3), _, _, rfl, rfl, _, rfl, ?_⟩
  rw [List.length_map]
  cases hw : wrongs es with
  | cons z zs =>
    rw [hw] at hD3
    refine ifD (fun _ => ?_) (fun h => absurd h (by rw [List.length_cons]; omega))
    refine ⟨_, rfl, D2, z, zs, rfl, SqL.of hD3, _, rfl, fun dd hdd => ?_⟩
    refine he _ ?_ _ dd (SG2.trans (same_new hdd)) upd_same
    unfold firstBad
    rw [hw]
  | nil =>
    refine ifD (fun h => absurd h (by decide)) (fun _ => ?_)
    have hfb : firstBad es = ((es.map (·.1)).mergeSort pLe).find? (badAt es) := by unfold firstBad; rw [hw]
    have hpl : ∀ e ∈ es, isPl e.1 = true := fun e hm => by
      have h1 : ∀ p ∈ es.map (·.1), ¬ ((!isPl p) = true) := List.filter_eq_nil_iff.mp hw
      have h2 := h1 e.1 (List.mem_map.mpr ⟨e, hm, rfl⟩)
      simpa using h2
    -- the loop
    have hdG2 := SG2 _ _ hd
    refine ⟨_, rfl, d, _, rfl, Or.inl hdG2, fun q hq1 => ?_⟩
    rw [keys_kv]
    refine ⟨q, es.map (·.1), rfl, SqL.of upd_same, fun x hx => ?_, fun H3 p s3 np hp => ?_⟩
    · obtain ⟨e, he, rfl⟩ := List.mem_map.mp hx
      exact Nat.le_trans (en.kl e he) (by decide)
    have S3 : Same H H3 := (SG2.trans (same_new hq1)).trans s3
    rw [hfb] at hq he
    have hkm : ∀ p ∈ (es.map (·.1)).mergeSort pLe, ∃ v, (p, v) ∈ es := fun p hp => by
      obtain ⟨e, he, rfl⟩ := List.mem_map.mp (sort_mem.mp hp)
      exact ⟨e.2, he⟩
    have hp' : H3 p = some (.lst (((es.map (·.1)).mergeSort pLe).map V.str)) := hp
    clear hp
    generalize (es.map (·.1)).mergeSort pLe = ks at hp' hkm hq he
    refine ⟨p, rfl, ⟨_, SqL.of hp'⟩, for_list (K := K) (a := p) (xs := ks.map V.str) (fun i σ H' => ∃ v3, σ = [some (.ref d), none, some (.ref D2), v3] ∧ Same H3 H' ∧ ∀ p ∈ ks.take i, badAt es p = false) ⟨_, rfl, Same.refl H3, fun p hp => by rw [List.take_zero] at hp; cases hp⟩ (fun i σ H' _ ⟨_, _, sm, _⟩ => sqL_same sm (SqL.of hp')) ?_ ?_⟩
    · rintro i x σ H' hi ⟨v3, rfl, sm, hall⟩
      rw [List.getElem?_map] at hi
      cases e : ks[i]? with
      | none => rw [e] at hi; cases hi
      | some pth =>
        rw [e] at hi
        obtain rfl : V.str pth = x := Option.some.inj hi
        obtain ⟨v, hm⟩ := hkm pth (List.mem_of_getElem? e)
        have hp1 := hpl _ hm
        have hp2 := en.kl _ hm
        have hi1 := en.it _ hm
        have hv := val_mem en.nd hm
        have S4 := S3.trans sm
        have hd4 := S4 _ _ hd
        have hg := DGet.kv (z := pth) hd4
        rw [hv] at hg
        have et : ks.take (i + 1) = ks.take i ++ [pth] := by rw [List.take_add_one, e]; rfl
        have bad : badAt es pth = true → ks.find? (badAt es) = some pth := fun hb => by
          have e2 : ks = ks.take i ++ pth :: ks.drop (i + 1) := by
            have h1 := (List.getElem?_eq_some_iff.mp e)
            have h2 := List.take_append_drop i ks
            have h3 : ks.drop i = pth :: ks.drop (i + 1) := by
              obtain ⟨hil, h4⟩ := h1
              rw [List.drop_eq_getElem_cons hil, h4]
            rw [h3] at h2
            exact h2.symm
          rw [e2, List.find?_append]
          have h5 : (ks.take i).find? (badAt es) = none := by
            rw [List.find?_eq_none]
            intro x hx
            rw [hall x hx]
            exact Bool.false_ne_true
          rw [h5, List.find?_cons, hb]; rfl
        refine ⟨_, rfl, _, rfl, d, v, rfl, hg, v, rfl, hi1.same S4, fun H4 s4 => ⟨_, rfl, ?_⟩⟩
        have hba : badAt es pth = (!itemV v || liesB es pth) := by unfold badAt; rw [hv]; rfl
        cases hiv : itemV v with
        | false =>
          rw [hiv] at hba
          refine iteT (iteT ?_)
          exact ⟨_, rfl, _, rfl, fun dd hdd => he pth (bad hba) _ dd ((S4.trans s4).trans (same_new hdd)) upd_same⟩
        | true =>
          rw [hiv] at hba
          refine iteF ?_
          refine ⟨_, rfl, _, rfl, d, es, pth, rfl, s4 _ _ hd4, Nat.le_trans hp2 (by decide), hp1, fun H5 s5 => ⟨_, rfl, ?_⟩⟩
          cases hl : liesB es pth with
          | true =>
            rw [hl] at hba
            refine iteT ?_
            exact ⟨_, rfl, _, rfl, fun dd hdd => he pth (bad hba) _ dd (((S4.trans s4).trans s5).trans (same_new hdd)) upd_same⟩
          | false =>
            rw [hl] at hba
            refine iteF ⟨_, rfl, (sm.trans s4).trans s5, fun x hx => ?_⟩
            rw [et] at hx
            rcases List.mem_append.mp hx with hx | hx
            · exact hall x hx
            · rw [List.mem_singleton.mp hx]; exact hba
    · rintro σ H' ⟨v3, rfl, sm, hall⟩
      rw [List.length_map, List.take_length] at hall
      refine hq ?_ H' (S3.trans sm)
      rw [List.find?_eq_none]
      intro x hx
      rw [hall x hx]
      exact Bool.false_ne_true
end
end K5

set_option Elab.async false
set_option linter.all false
set_option maxRecDepth 100000
set_option maxHeartbeats 4000000
namespace K5
open PySem PySem.Spec PyProof.Rows L2 LF
/-- the rest of a package's making, behind the look at how many entries there are -/
theorem init_tail {K : PySem.W.Frag} {mg : Str → Option Value} {C CT CN p dx d : Addr} {H H3 : Hp} {y z : Option V} {D : Ends} {es : List (Str × V)} (R : PkTxt K mg C) (ok : OkE es) (h40 : es.length ≤ 40)
    (hd3 : H3 d = some (.dK (kv es))) (hp3 : H3 p = some (.ins C dx (pf1 d))) (K3 : Keep p H H3) (npd : d ≠ p) (hq : ∀ H', Keep p H H' → PkAt C H' p es → D.nx [some (.ref p), y, z] H') :
    tSeq (sFld K (tVar 0) (tCall spSolid [] E0 (tCons (tFld K (tVar 0) "entries") tNil)) "solid")
      (tSeq (sFld K (tVar 0) (tCall spWithin [] E0 (tCons (tFld K (tVar 0) "entries") tNil)) "rooms")
      (tSeq (sFld K (tVar 0) (tMake0 CT) "token")
      (sFld K (tVar 0) (tMake CN (spNote CN) [] E0 tNil) "notes"))) D [some (.ref p), y, z] H3 := by
  -- solid
  refine ⟨_, rfl, p, C, dx, _, _, rfl, hp3, R.cl, R.nE, lkE1, d, es, rfl, hd3, ok, by omega, fun H4 so s4 hso0 hso => ?_⟩
  have hp4 := s4 _ _ hp3
  refine ⟨_, rfl, p, C, dx, _, rfl, hp4, R.cl, R.nS, (by show 1 < 1000; decide), ?_⟩
  rw [put1]
  have nso : so ≠ p := Ne.symm (ne_of_none hp3 hso0)
  have hd5 : (upd H4 p (.ins C dx (pf2 d so))) d = some (.dK (kv es)) := by rw [upd_ne npd]; exact s4 _ _ hd3
  have hs5 : (upd H4 p (.ins C dx (pf2 d so))) so = some (.dK (kv (solidE es))) := by rw [upd_ne nso]; exact hso
  have hp5 : (upd H4 p (.ins C dx (pf2 d so))) p = some (.ins C dx (pf2 d so)) := upd_same
  have K5 : Keep p H (upd H4 p (.ins C dx (pf2 d so))) := K3.trans (keep_put (Same.keep s4))
  generalize (upd H4 p (.ins C dx (pf2 d so))) = H5 at hd5 hs5 hp5 K5
  -- rooms
  refine ⟨_, rfl, p, C, dx, _, _, rfl, hp5, R.cl, R.nE, lkE1, d, es, rfl, hd5, ok, by omega, fun H6 ro rs s6 hro0 hro hbr => ?_⟩
  have hp6 := s6 _ _ hp5
  refine ⟨_, rfl, p, C, dx, _, rfl, hp6, R.cl, R.nR, (by show 2 < 1000; decide), ?_⟩
  rw [put2]
  have rest6 : PkRest H6 ⟨so, ro, so, so⟩ es := ⟨s6 _ _ hs5, rs, hro, hbr⟩
  have rest7 := rest6.keep (H' := upd H6 p (.ins C dx (pf3 d so ro))) hp6 ⟨(fun _ q => nomatch q), (fun _ q => nomatch q)⟩ (keep_put (Keep.refl _ _))
  have hd7 : (upd H6 p (.ins C dx (pf3 d so ro))) d = some (.dK (kv es)) := by rw [upd_ne npd]; exact s6 _ _ hd5
  have hp7 : (upd H6 p (.ins C dx (pf3 d so ro))) p = some (.ins C dx (pf3 d so ro)) := upd_same
  have K7 : Keep p H (upd H6 p (.ins C dx (pf3 d so ro))) := K5.trans (keep_put (Same.keep s6))
  generalize (upd H6 p (.ins C dx (pf3 d so ro))) = H7 at hd7 hp7 K7 rest7
  -- token
  intro t dt ht hdt ndt
  have s8 : Same H7 (upd (upd H7 dt (.own t)) t (.ins CT dt [])) := same_upd ht (same_new hdt)
  have npt : p ≠ t := ne_of_none hp7 ht
  generalize (upd (upd H7 dt (.own t)) t (.ins CT dt [])) = H8 at s8
  have hp8 := s8 _ _ hp7
  refine ⟨_, rfl, p, C, dx, _, rfl, hp8, R.cl, R.nT, (by show 3 < 1000; decide), ?_⟩
  rw [put3]
  have rest9 := (rest7.same s8).keep (H' := upd H8 p (.ins C dx (pf4 d so ro t))) hp8 ⟨(fun _ q => nomatch q), (fun _ q => nomatch q)⟩ (keep_put (Keep.refl _ _))
  have hd9 : (upd H8 p (.ins C dx (pf4 d so ro t))) d = some (.dK (kv es)) := by rw [upd_ne npd]; exact s8 _ _ hd7
  have hp9 : (upd H8 p (.ins C dx (pf4 d so ro t))) p = some (.ins C dx (pf4 d so ro t)) := upd_same
  have K5' : Keep p H (upd H8 p (.ins C dx (pf4 d so ro t))) := K7.trans (keep_put (Same.keep s8))
  generalize (upd H8 p (.ins C dx (pf4 d so ro t))) = H9 at hd9 hp9 K5' rest9
  -- notes
  intro n dn hn hdn ndn
  have sN : Same H9 (upd (upd H9 dn (.own n)) n (.ins CN dn [])) := same_upd hn (same_new hdn)
  have npn : p ≠ n := ne_of_none hp9 hn
  have hN : (upd (upd H9 dn (.own n)) n (.ins CN dn [])) n = some (.ins CN dn []) := upd_same
  refine ⟨n, dn, rfl, hN, fun Ha r kp hr0 hna hra => ⟨rfl, ?_⟩⟩
  have sa : Same H9 Ha := fun a o e => kp a o (ne_of_none e hn) (sN _ _ e)
  have hpa := sa _ _ hp9
  refine ⟨_, rfl, p, C, dx, _, rfl, hpa, R.cl, R.nN, (by show 4 < 1000; decide), ?_⟩
  rw [put4]
  have restA := (rest9.same sa).keep (H' := upd Ha p (.ins C dx (pkFs d ⟨so, ro, t, n⟩))) hpa ⟨(fun _ q => nomatch q), (fun _ q => nomatch q)⟩ (keep_put (Keep.refl _ _))
  exact hq _ (K5'.trans (keep_put (Same.keep sa))) ⟨dx, d, ⟨⟨so, ro, t, n⟩, upd_same, ⟨restA.s, restA.r⟩⟩, by rw [upd_ne npd]; exact sa _ _ hd9⟩
end K5

set_option Elab.async false
set_option linter.all false
set_option maxRecDepth 100000
set_option maxHeartbeats 4000000
namespace K5
open PySem PySem.Spec PyProof.Rows L2 LF TL
theorem okU_of {H : Hp} {es : List (Str × V)} (en : Ent H es) (h : firstBad es = none) : OkU es := by
  have hw : wrongs es = [] := by
    cases hw : wrongs es with
    | nil => rfl
    | cons z zs =>
      unfold firstBad at h
      rw [hw] at h; cases h
  have hf : ((es.map (·.1)).mergeSort pLe).find? (badAt es) = none := by
    unfold firstBad at h
    rw [hw] at h; exact h
  have hb : ∀ e ∈ es, itemV e.2 = true ∧ liesB es e.1 = false := fun e he => by
    have h1 := (List.find?_eq_none.mp hf) e.1 (sort_mem.mpr (List.mem_map.mpr ⟨e, he, rfl⟩))
    have hv := val_mem en.nd (p := e.1) (v := e.2) he
    unfold badAt at h1
    rw [hv] at h1
    have h2 : (!itemV e.2 || liesB es e.1) = false := by simpa using h1
    rw [Bool.or_eq_false_iff] at h2
    exact ⟨by simpa using h2.1, h2.2⟩
  refine ⟨fun e he => ?_, fun e he => ?_, fun e he s hs => ?_, en.nd⟩
  · have h1 : ∀ p ∈ es.map (·.1), ¬ ((!isPl p) = true) := List.filter_eq_nil_iff.mp hw
    have h2 := h1 e.1 (List.mem_map.mpr ⟨e, he, rfl⟩)
    exact ⟨by simpa using h2, Nat.le_trans (en.kl e he) (by decide)⟩
  · obtain ⟨h1, _⟩ := hb e he
    rcases en.it e he with h2 | h2
    · exact ⟨h2, h1⟩
    · rw [(odd_item h2).2.2.1] at h1; cases h1
  · obtain ⟨_, h1⟩ := hb e he
    unfold liesB at h1
    rw [List.any_eq_false] at h1
    have h2 := h1 s hs
    have h3 : (valV (kv es) (.inr s)).getD .non = .non := by simpa using h2
    cases hv : valV (kv es) (.inr s) with
    | none => exact Or.inl rfl
    | some v =>
      rw [hv] at h3
      exact Or.inr (congrArg some h3)
theorem full_len {es : List (Str × V)} (h : OkU es) : (fullU es).length ≤ 11 * es.length := by
  have hp : (once [] (allP es es.length)).Perm ((fullU es).map (·.1)) := by
    refine (List.perm_ext_iff_of_nodup (once_nodup _ [] List.nodup_nil) (full_grown h).1.nd).mpr fun a => ?_
    rw [mem_once, ← mem_allP h]
    simp
  have h1 := hp.length_eq
  have h2 := once_len (allP es es.length) []
  have h3 := allP_len h es.length
  rw [List.length_map] at h1
  rw [List.length_nil, Nat.zero_add] at h2
  omega
/-- no dict of texts -/
def NoEnt (K : PySem.W.Frag) (H : Hp) (y : V) : Prop := (∃ d kvs, y = .ref d ∧ H d = some (.dK kvs) ∧ kvs.length ≤ 1000 ∧ (kvs.all fun q => strKey q.1) = false) ∨ ∃ t, TyX K H y t ∧ PySem.W.kitOne K t (.type "dict") = some false
def spInX (K : PySem.W.Frag) (CK CE CM : Addr) : Sp := fun vs H Q E => ∃ (p dx : Addr) (y : V), vs = [.ref p, y] ∧ H p = some (.ins CK dx []) ∧
  ((∃ es : List (Str × V), ((y = .non ∧ es = []) ∨ ∃ d, y = .ref d ∧ H d = some (.dK (kv es))) ∧ Ent H es ∧
      (∀ z, firstBad es = some z → ∀ H' dd, Keep p H H' → H' dd = some (.xd [("path", .str z)]) → E (.ref CE) (some dd) H') ∧
      (firstBad es = none → (pkE es).length ≤ 40 → ∀ H', Keep p H H' → PkAt CK H' p (pkE es) → Q .non H') ∧
      (firstBad es = none → 40 < (pkE es).length → ∀ H' dd, Keep p H H' → H' dd = some (.xd [("limit", .int 40)]) → E (.ref CM) (some dd) H')) ∨
   (y ≠ .non ∧ NoEnt K H y ∧ ∀ H' dd, Keep p H H' → H' dd = some (.xd [("path", .non)]) → E (.ref CE) (some dd) H'))
theorem bad_nil : firstBad [] = none := by
  unfold firstBad wrongs
  simp
section
variable {P : Program} {w : World} {K : PySem.W.Frag} {mg : Str → Option Value} {base : Heap} {tk1 tk2 : Tok}
theorem ok_initX {f f1 f2 f3 f4 C CE CM CT CN fM fN : Addr} {fd fd1 fd2 fd3 fd4 fdN : FuncData} (F : FunD K "__init__" "Package.__init__" (defArgs s_init) (defBody s_init) (defScope s_init) [.non] [] f fd) (T : Txt K mg tk1 tk2) (R : PkTxt K mg C) (L : PySem.TooManyX.ManyTxt K mg CM fM)
    (FC : FnOk P w K mg base (L2.CX P w) 6 f1 fd1 ["entries"] (spCEX K CE)) (gC : mg "check_entries" = some (.ref f1)) (kC : PySem.W.keepIn K (.ref f1) = true) (bC : Binds K fd1 ["entries"] []) (d_wp : DefAt P w K mg base "with_parents" 6 f2 fd2 ["entries"] spWP)
    (d_so : DefAt P w K mg base "solid_entries" 3 f3 fd3 ["entries"] spSolid) (d_nw : DefAt P w K mg base "names_within" 1 f4 fd4 ["entries"] spWithin) (TT : TokTxt K mg CT) (NT : NoteTxt P w K mg base CN fN fdN) :
    FnOk P w K mg base (L2.CX P w) 8 f fd ["self", "entries"] (spInX K C CE CM) := by
  refine F.ok sc_init (fun vs H Q E h => ?_) (fun cdv A outer s H vs Q E hr h => ?_)
  · obtain ⟨p, dx, y, rfl, _⟩ := h
    rfl
  refine ⟨_, (pss_cons (ps_set (i := 2) sc_init.nd rfl (Or.inl rfl) (pe_ifExp (pt_cmpR op_isN (pv 1) pe_non (nomark _)) pe_dnewK (pv 1)))
    (pss_cons (ps_expr (pe_callS FC (hr.mono (by decide)) rfl gC kC bC (fun σ => passAt (takes_of rfl rfl rfl rfl) σ) (by exact (pa_cons (pv 2) pa_nil))))
    (pss_cons (ps_fld (pv 0) (pe_callD d_wp (hr.mono (by decide)) (pa_cons (pv 2) pa_nil)) rfl)
    (pss_cons (ps_if (pt_cmpR op_gt (pe_callB call_lenD (by rfl) T.n_len (by decide +kernel) (pa_cons (pe_fld (pv 0) rfl) pa_nil)) (pe_con (pv 0) rfl) (nomark _)) (pss_one (ps_raiseMany rfl L hr (takes_of rfl rfl rfl rfl) (by exact (pa_cons (pe_con (pv 0) rfl) pa_nil)))) pss_nil)
    (pss_cons (ps_fld (pv 0) (pe_callD d_so (hr.mono (by decide)) (pa_cons (pe_fld (pv 0) rfl) pa_nil)) rfl)
    (pss_cons (ps_fld (pv 0) (pe_callD d_nw (hr.mono (by decide)) (pa_cons (pe_fld (pv 0) rfl) pa_nil)) rfl)
    (pss_cons (ps_fld (pv 0) (pe_new0 TT.made (by rfl) TT.g) rfl)
    (pss_one (ps_fld (pv 0) (pe_make0 NT.made NT.F (hr.mono (by decide)) rfl NT.g NT.b .nil pass0) rfl))))))))), ?_⟩
  obtain ⟨p, dx, y, rfl, hp, h⟩ := h
  obtain ⟨tkL, lim⟩ := R.lim
  refine ⟨_, rfl, rfl, _, rfl, ?_⟩
  rcases h with ⟨es, hy, en, hb, hq, he⟩ | ⟨hyn, hno, he⟩
  rotate_left
  · refine ifD (fun h => absurd h hyn) (fun _ => ?_)
    refine ⟨_, rfl, ?_⟩
    refine ⟨_, rfl, y, rfl, Or.inr ⟨hno, fun H' dd s hdd => he H' dd (Same.keep s) hdd⟩⟩
  have fin : ∀ (H0 : Hp) (g : Addr), Same H H0 → H0 g = some (.dK (kv es)) → firstBad es = none → tSeq (sFld K (tVar 0) (tCall spWP [] E0 (tCons (tVar 2) tNil)) "entries")
        (tSeq (tIfS (tTest (tOp (rI0 fun i j => .bl (decide (j < i))) (tCB (fun xs H Q => ∃ a kvs, xs = [V.ref a] ∧ H a = some (.dK kvs) ∧ Q (.int kvs.length) H) (tCons (tFld K (tVar 0) "entries") tNil)) (tCon K (tVar 0) "LIMIT")))
          (tRaiseMany CM (fun cls d _ H' => E cls d H') (tCons (tCon K (tVar 0) "LIMIT") tNil)) tNext)
        (tSeq (sFld K (tVar 0) (tCall spSolid [] E0 (tCons (tFld K (tVar 0) "entries") tNil)) "solid")
        (tSeq (sFld K (tVar 0) (tCall spWithin [] E0 (tCons (tFld K (tVar 0) "entries") tNil)) "rooms")
        (tSeq (sFld K (tVar 0) (tMake0 CT) "token")
        (sFld K (tVar 0) (tMake CN (spNote CN) [] E0 tNil) "notes")))))
      { nx := fun _ H' => Q .non H', rt := Q } [some (.ref p), some y, some (.ref g)] H0 := by
    intro H1 g S1 hg hfb
    have ok := okU_of en hfb
    have hful : (fullU es).length ≤ 1000000 := by
      have := full_len ok
      have := en.len
      omega
    have hq := hq hfb
    have he := he hfb
    refine ⟨_, rfl, g, es, rfl, hg, ok, hful, fun H2 d s2 hd0 hd => ?_⟩
    have S2 := S1.trans s2
    have hp2 := S2 _ _ hp
    have npd : d ≠ p := Ne.symm (ne_of_none (S1 _ _ hp) hd0)
    refine ⟨_, rfl, p, C, dx, [], rfl, hp2, R.cl, R.nE, (by show 0 < 1000; decide), ?_⟩
    rw [put0]
    have lk : List.lookup ("entries" : Str) (pf1 d) = some (.ref d) := lkE1
    have lk2 : List.lookup ("LIMIT" : Str) (pf1 d) = none := by
      have e : ((Str.ofString "LIMIT") == (Str.ofString "entries")) = false := by decide +kernel
      simp [pf1, List.lookup, e]
    have hd3 : (upd H2 p (.ins C dx (pf1 d))) d = some (.dK (kv (pkE es))) := by rw [upd_ne npd]; exact hd
    have hp3 : (upd H2 p (.ins C dx (pf1 d))) p = some (.ins C dx (pf1 d)) := upd_same
    have K5 : Keep p H (upd H2 p (.ins C dx (pf1 d))) := keep_put (Same.keep S2)
    generalize (upd H2 p (.ins C dx (pf1 d))) = H3 at hd3 hp3 K5
    refine ⟨_, rfl, p, C, dx, _, _, rfl, hp3, R.cl, R.nE, lk, d, kv (pkE es), rfl, hd3, ?_⟩
    refine ⟨_, rfl, p, C, dx, _, _, _, rfl, hp3, R.cl, lim, lk2, _, _, rfl, rfl, _, rfl, ?_⟩
    have hkl := kv_length (pkE es)
    rw [hkl]
    refine ifD (fun h => ?_) (fun h => ?_)
    · refine ⟨_, rfl, p, C, dx, _, _, _, rfl, hp3, R.cl, lim, lk2, _, rfl, fun dd hdd => he (by omega) _ dd (K5.trans (Same.keep (same_new hdd))) upd_same⟩
    · exact init_tail R (pkE_ok ok hful) (by omega) hd3 hp3 K5 npd (hq (by omega))
  have main : ∀ (H0 : Hp) (g : Addr), Same H H0 → H0 g = some (.dK (kv es)) → spCEX K CE [.ref g] H0 (fun _ H1 => tSeq (sFld K (tVar 0) (tCall spWP [] E0 (tCons (tVar 2) tNil)) "entries")
        (tSeq (tIfS (tTest (tOp (rI0 fun i j => .bl (decide (j < i))) (tCB (fun xs H Q => ∃ a kvs, xs = [V.ref a] ∧ H a = some (.dK kvs) ∧ Q (.int kvs.length) H) (tCons (tFld K (tVar 0) "entries") tNil)) (tCon K (tVar 0) "LIMIT")))
          (tRaiseMany CM (fun cls d _ H' => E cls d H') (tCons (tCon K (tVar 0) "LIMIT") tNil)) tNext)
        (tSeq (sFld K (tVar 0) (tCall spSolid [] E0 (tCons (tFld K (tVar 0) "entries") tNil)) "solid")
        (tSeq (sFld K (tVar 0) (tCall spWithin [] E0 (tCons (tFld K (tVar 0) "entries") tNil)) "rooms")
        (tSeq (sFld K (tVar 0) (tMake0 CT) "token")
        (sFld K (tVar 0) (tMake CN (spNote CN) [] E0 tNil) "notes")))))
      { nx := fun _ H' => Q .non H', rt := Q } [some (.ref p), some y, some (.ref g)] H1) E := fun H0 g s0 hg =>
    ⟨_, rfl, Or.inl ⟨g, es, rfl, hg, en.same s0, fun hfb H1 s1 => fin H1 g (s0.trans s1) (s1 _ _ hg) hfb, fun z hz H1 dd s1 hdd => hb z hz H1 dd (Same.keep (s0.trans s1)) hdd⟩⟩
  rcases hy with ⟨rfl, rfl⟩ | ⟨d, rfl, hd⟩
  · refine ifD (fun _ => ?_) (fun h => absurd rfl h)
    intro g hg
    exact ⟨_, rfl, main _ g (same_new hg) upd_same⟩
  · refine ifD (fun h => nomatch h) (fun _ => ?_)
    exact ⟨_, rfl, _, rfl, main H d (Same.refl H) hd⟩
end
end K5

set_option Elab.async false
set_option linter.all false
set_option maxRecDepth 100000
set_option maxHeartbeats 4000000
namespace K5
open PySem PySem.Spec PyProof.Rows L2 LF TL
/-- a value whose texts are of plain signs -/
def ItA (x : V) : Prop := ∀ z, x = .str z → Asc z ∧ z.length ≤ 1000
def spLItem (K : PySem.W.Frag) : Sp := fun vs H Q _ => ∃ x, vs = [x] ∧ PlainX H x ∧ ItA x ∧ ∀ H', Same H H' → Q (.bl (itemV x)) H'
abbrev s__law_is_item : Stmt := topS 55
theorem sc__law_is_item : FnScope ["_law_item"] ["_law_item"] (defScope s__law_is_item) := ⟨rfl, rfl, rfl, by decide +kernel, rfl, by decide +kernel, by decide +kernel⟩
theorem isPt_jn {z : Str} (h : isPt z = true) (hz : ¬ z = "") : ∃ ns, z = jn ns ∧ ns ≠ [] ∧ (∀ s ∈ ns, isNm s = true) ∧ parts z = ns := by
  have h1 : ∀ s ∈ parts z, isNm s = true := by
    unfold isPt at h
    rw [decide_eq_false hz, Bool.false_or, List.all_eq_true] at h
    unfold parts
    rw [if_neg hz]
    exact h
  refine ⟨parts z, (join_parts hz).symm, fun e => ?_, h1, rfl⟩
  have := join_parts hz
  rw [e] at this
  exact hz (by rw [← this, join_nil0])
theorem count_parts {z : Str} (h : isPt z = true) (hz : ¬ z = "") : PySem.Txt.count z c_sl = ((parts z).length : Int) - 1 := by
  obtain ⟨ns, e1, e2, e3, e4⟩ := isPt_jn h hz
  rw [e4, e1]
  exact count_jn e2 e3
theorem item_str {z : Str} (h : isPt z = true) : itemV (.str z) = (decide (z = "") || decide (PySem.Txt.count z c_sl < 8)) := by
  have e : itemV (.str z) = isTg z := by
    show (contentV (.str z) || targetV (.str z)) = _
    rfl
  rw [e]
  unfold isTg
  rw [h, Bool.true_and]
  by_cases hz : z = ""
  · rw [decide_eq_true hz, Bool.true_or, hz]
    decide +kernel
  · rw [decide_eq_false hz, Bool.false_or, count_parts h hz, Bool.eq_iff_iff, decide_eq_true_eq, decide_eq_true_eq]
    omega
theorem item_no {z : Str} (h : isPt z = false) : itemV (.str z) = false := by
  show isTg z = false
  unfold isTg
  rw [h]; rfl
section
variable {P : Program} {w : World} {K : PySem.W.Frag} {mg : Str → Option Value} {base : Heap} {tk1 tk2 : Tok}
theorem ok_litem {f f1 : Addr} {fd fd1 : FuncData} (F : Fun K "_law_is_item" "_law_is_item" s__law_is_item f fd) (T : Txt K mg tk1 tk2) (d_ask : DefAt P w K mg base "_law_is_path" 1 f1 fd1 ["_law_thing"] (spAsk K)) : FnOk P w K mg base CX0 2 f fd ["_law_item"] (spLItem K) := by
  refine F.ok sc__law_is_item (fun vs H Q E h => ?_) (fun cdv A outer s H vs Q E hr h => ?_)
  · obtain ⟨x, rfl, _⟩ := h
    rfl
  refine ⟨_, (pss_cons (ps_if (PW.pt (pw_or (pt_cmpR op_isN (pv 0) pe_non (nomark _)) (pw_or1 (pt_val (pe_callB call_isi (by rfl) T.n_isinstance (by decide +kernel) (pa_cons (pv 0) (pa_cons (pe_bltn (v := .ty "str") (by rfl) T.n_str (by decide +kernel) rfl) pa_nil))))))) (pss_one (ps_ret (pe_or (pe_cmpR op_isN (pv 0) pe_non (nomark _)) (pe_one (pe_and (pe_callD d_ask (hr.mono (by decide)) (pa_cons (pv 0) pa_nil)) (pe_one (pe_or (pe_cmpR op_eq (pv 0) pe_str (nomark _)) (pe_one (pe_cmpR op_lt (pe_m1 PySem.F.slot_str_count PySem.F.type_str_count mt_count (pv 0) pe_str rfl rfl rfl) pe_int (nomark _)))))))))) pss_nil)
    (pss_one (ps_ret (pe_and (pe_callB call_isi (by rfl) T.n_isinstance (by decide +kernel) (pa_cons (pv 0) (pa_cons (pe_bltn (v := .ty "int") (by rfl) T.n_int (by decide +kernel) rfl) pa_nil))) (pe_and (pe_not (pe_callB call_isi (by rfl) T.n_isinstance (by decide +kernel) (pa_cons (pv 0) (pa_cons (pe_bltn (v := .ty "bool") (by rfl) T.n_bool (by decide +kernel) rfl) pa_nil)))) (pe_one (pe_cmpR op_lt (pe_callB call_abs (by rfl) T.n_abs (by decide +kernel) (pa_cons (pv 0) pa_nil)) (pe_op op_pow pe_int pe_int) (nomark _)))))))), ?_⟩
  obtain ⟨x, rfl, hx, hia, hq⟩ := h
  refine ⟨_, rfl, rfl, _, rfl, ?_⟩
  refine ifD (fun h1 => ?_) (fun h1 => ?_)
  · subst h1
    refine iteT ?_
    refine ⟨_, rfl, rfl, _, rfl, iteT ?_⟩
    exact hq H (Same.refl H)
  rcases hx with (rfl | ⟨i, rfl⟩ | ⟨z, rfl, hz⟩) | ho
  · exact absurd rfl h1
  · refine ⟨_, rfl, _, .ty "str", _, _, false, rfl, .ty _, .base (.int i), kit_ty (by decide +kernel), _, rfl, iteF ?_⟩
    refine ⟨_, rfl, _, .ty "int", _, _, true, rfl, .ty _, .base (.int i), kit_ty (by decide +kernel), _, rfl, iteT ?_⟩
    refine ⟨_, rfl, _, .ty "bool", _, _, false, rfl, .ty _, .base (.int i), kit_ty (by decide +kernel), _, rfl, _, rfl, iteT ?_⟩
    refine ⟨_, rfl, _, rfl, _, _, rfl, rfl, ⟨by decide, by decide, by decide⟩, _, _, rfl, rfl, ?_⟩
    have e : itemV (.int i) = decide ((if i < 0 then -i else i) < 10 ^ (12 : Int).toNat) := by
      show (contentV (.int i) || targetV (.int i)) = _
      have e1 : targetV (.int i) = false := rfl
      rw [e1, Bool.or_false]
      show decide ((if i < 0 then -i else i) ≤ 999999999999) = _
      have e2 : (10 : Int) ^ (12 : Int).toNat = 1000000000000 := by decide
      rw [e2, Bool.eq_iff_iff, decide_eq_true_eq, decide_eq_true_eq]
      omega
    have := hq H (Same.refl H)
    rw [e] at this
    exact this
  · obtain ⟨hasc, hzl⟩ := hia z rfl
    refine ⟨_, rfl, _, .ty "str", _, _, true, rfl, .ty _, .base (.str z), kit_str, _, rfl, iteT ?_⟩
    refine ⟨_, rfl, rfl, _, rfl, iteF ?_⟩
    refine ⟨_, rfl, .str z, isPt z, rfl, Or.inl ⟨z, rfl, hz, hasc, rfl⟩, fun H1 s1 => ⟨_, rfl, ?_⟩⟩
    cases hp : isPt z with
    | false =>
      rw [item_no hp] at hq
      exact iteF (hq H1 s1)
    | true =>
      rw [item_str hp] at hq
      refine iteT ⟨_, rfl, rfl, _, rfl, ?_⟩
      rw [str_dec]
      refine ifD (fun h2 => ?_) (fun h2 => ?_)
      · rw [decide_eq_true h2, Bool.true_or] at hq
        exact hq H1 s1
      · rw [decide_eq_false h2, Bool.false_or] at hq
        exact ⟨_, rfl, ⟨_, rfl⟩, z, c_sl, rfl, rfl, _, _, rfl, rfl, hq H1 s1⟩
  · obtain ⟨hc, ht, hi, _⟩ := odd_item ho
    rw [hi] at hq
    obtain ⟨ts, ty1, k1⟩ := odd_str (K := K) ho
    refine ⟨_, rfl, _, .ty "str", _, _, false, rfl, .ty _, ty1, k1, _, rfl, iteF ?_⟩
    obtain ⟨t, ty, ht⟩ := ho.ty (K := K)
    by_cases hb : t = "bool"
    · subst hb
      refine ⟨_, rfl, _, .ty "int", _, _, true, rfl, .ty _, ty, kit_ty (by decide +kernel), _, rfl, iteT ?_⟩
      refine ⟨_, rfl, _, .ty "bool", _, _, true, rfl, .ty _, ty, kit_ty (by decide +kernel), _, rfl, _, rfl, iteF ?_⟩
      exact hq H (Same.refl H)
    · have hk : PySem.W.kitOne K (.type t) (.type "int") = some false := by
        simp only [List.mem_cons, List.not_mem_nil, or_false] at ht
        rcases ht with rfl | rfl | rfl | rfl
        · exact absurd rfl hb
        · exact kit_ty (by decide +kernel)
        · exact kit_ty (by decide +kernel)
        · exact kit_ty (by decide +kernel)
      refine ⟨_, rfl, _, .ty "int", _, _, false, rfl, .ty _, ty, hk, _, rfl, iteF ?_⟩
      exact hq H (Same.refl H)
end
end K5

set_option Elab.async false
set_option linter.all false
set_option maxRecDepth 100000
set_option maxHeartbeats 4000000
namespace LF
open PySem PySem.Spec PyProof.Rows L2 TL
theorem cut_last (xs : List V) : cutV xs none (some (-1)) = xs.dropLast := by
  unfold cutV
  rw [HT.sIx_none]
  have e : HT.sIx xs.length xs.length (some (-1)) = xs.length - 1 := by
    show (if (-1 : Int) < 0 then ((-1 : Int) + (xs.length : Int)).toNat else min (-1 : Int).toNat xs.length) = _
    rw [if_pos (by decide)]
    omega
  rw [e, List.drop_zero, Nat.sub_zero, List.dropLast_eq_take]
theorem ltT_iff {a b : Str} : ltT a b = true ↔ a.cps.toList < b.cps.toList := by
  unfold ltT
  rw [PySem.W.dataLt_str, decide_eq_true_eq]
theorem ltT_no {a b : Str} : ltT a b = false ↔ b.cps.toList ≤ a.cps.toList := by
  rw [← Bool.not_eq_true, ltT_iff, List.not_lt]
def sortS (ws : List Str) : List Str := ws.mergeSort (PySem.W.dataLe false PyData.str)
theorem leT_eq (a b : Str) : PySem.W.dataLe false PyData.str a b = !ltT b a := by
  rw [PySem.W.dataLe_eq]; rfl
theorem sortS_pw (ws : List Str) : (sortS ws).Pairwise fun a b => ltT b a = false := by
  have h := List.pairwise_mergeSort (le := PySem.W.dataLe false PyData.str) (fun a b c h1 h2 => by
    rw [leT_eq, Bool.not_eq_true'] at h1 h2 ⊢
    rw [ltT_no] at h1 h2 ⊢
    exact List.le_trans h1 h2) (fun a b => by
    rw [leT_eq, leT_eq, Bool.or_eq_true, Bool.not_eq_true', Bool.not_eq_true', ltT_no, ltT_no]
    exact List.le_total _ _) ws
  refine h.imp fun {a b} q => ?_
  rw [leT_eq, Bool.not_eq_true'] at q
  exact q
theorem minT_facts : ∀ (zs : List Str) (z : Str), minT z zs ∈ z :: zs ∧ ∀ y ∈ z :: zs, (minT z zs).cps.toList ≤ y.cps.toList
  | [], z => ⟨List.mem_cons_self, fun y hy => by rw [List.mem_singleton.mp hy]; exact List.le_refl _⟩
  | y :: zs, z => by
    have e : minT z (y :: zs) = minT (if ltT y z = true then y else z) zs := rfl
    rw [e]
    by_cases h : ltT y z = true
    · rw [if_pos h]
      obtain ⟨h1, h2⟩ := minT_facts zs y
      refine ⟨List.mem_cons_of_mem _ h1, fun x hx => ?_⟩
      rcases List.mem_cons.mp hx with rfl | hx
      · exact List.le_trans (h2 y List.mem_cons_self) (List.le_of_lt (ltT_iff.mp h))
      · exact h2 x hx
    · rw [if_neg h]
      obtain ⟨h1, h2⟩ := minT_facts zs z
      rw [Bool.not_eq_true, ltT_no] at h
      refine ⟨?_, fun x hx => ?_⟩
      · rcases List.mem_cons.mp h1 with h3 | h3
        · rw [h3]; exact List.mem_cons_self
        · exact List.mem_cons_of_mem _ (List.mem_cons_of_mem _ h3)
      · rcases List.mem_cons.mp hx with rfl | hx
        · exact h2 x List.mem_cons_self
        · rcases List.mem_cons.mp hx with rfl | hx
          · exact List.le_trans (h2 z List.mem_cons_self) h
          · exact h2 x (List.mem_cons_of_mem _ hx)
/-- the first of the sorted ones is the least -/
theorem sort_head {ks : List Str} {p : Str → Bool} {z : Str} {zs : List Str} (h : ks.filter p = z :: zs) : ∃ r, (sortS ks).filter p = minT z zs :: r := by
  have hp : ((sortS ks).filter p).Perm (z :: zs) := by
    rw [← h]
    exact (List.mergeSort_perm ks _).filter p
  have hw := (sortS_pw ks).filter p
  cases hs : (sortS ks).filter p with
  | nil => rw [hs] at hp; exact absurd hp.length_eq (by simp)
  | cons a r =>
    rw [hs] at hp hw
    obtain ⟨m1, m2⟩ := minT_facts zs z
    have h1 := m2 a (hp.mem_iff.mp List.mem_cons_self)
    have h2 : a.cps.toList ≤ (minT z zs).cps.toList := by
      rcases List.mem_cons.mp (hp.mem_iff.mpr m1) with e | e
      · rw [e]; exact List.le_refl _
      · exact ltT_no.mp (List.rel_of_pairwise_cons hw e)
    exact ⟨r, by rw [show a = minT z zs from PySem.W.str_of_cps (List.le_antisymm h2 h1)]⟩
theorem sort_none {ks : List Str} {p : Str → Bool} (h : ks.filter p = []) : (sortS ks).filter p = [] := by
  have hp : ((sortS ks).filter p).Perm [] := by
    rw [← h]
    exact (List.mergeSort_perm ks _).filter p
  exact hp.eq_nil
end LF
namespace K5
open PySem PySem.Spec PyProof.Rows L2 LF TL
open PySem.W (EachIs dataLe AllAlike Sortable)
theorem sortS_mem {l : List Str} {p : Str} : p ∈ sortS l ↔ p ∈ l := (List.mergeSort_perm l _).mem_iff
theorem sortS_len (l : List Str) : (sortS l).length = l.length := by unfold sortS; rw [List.length_mergeSort]
theorem str_alike (x y : Str) : PySem.W.alike (.str x) (.str y) = true := by simp [PySem.W.alike]
theorem str_depth (x : Str) : (PyData.str x).depth ≤ 60 := by simp [PyData.depth]
theorem str_sortable (l : List Str) : Sortable (l.map PyData.str) := Or.inr fun d hd => by
  obtain ⟨z, _, rfl⟩ := List.mem_map.mp hd
  exact ⟨by simp, by simp⟩
theorem each_strs : ∀ (l : List Str), EachIs (fun v z => v = V.str z) (l.map V.str) l
  | [] => .nil
  | z :: l => .cons rfl (each_strs l)
theorem strs_back : ∀ {ys : List V} {l : List Str}, EachIs (fun v z => v = V.str z) ys l → ys = l.map V.str
  | _, _, .nil => rfl
  | _, _, .cons rfl t => by rw [strs_back t]; rfl
def dV : V → PyData
  | .non => .none
  | .int i => .int i
  | .str z => .str z
  | _ => .none
theorem dp_plain {K : PySem.W.Frag} {H : Hp} {v : V} (h : Plain v) : Dp K H v (dV v) := by
  rcases h with rfl | ⟨i, rfl⟩ | ⟨z, rfl, _⟩
  · exact .non
  · exact .int i
  · exact .str z
def listD (es : List (Str × V)) : PyData := .list (es.map fun e => .tuple [.str e.1, dV e.2])
structure EntA (H : Hp) (es : List (Str × V)) : Prop where
  en : Ent H es
  ka : ∀ e ∈ es, Asc e.1 ∧ e.1.length ≤ 1000
  ia : ∀ e ∈ es, ItA e.2
  len : es.length ≤ 100
theorem EntA.same {H H' : Hp} {es : List (Str × V)} (h : EntA H es) (s : Same H H') : EntA H' es := ⟨h.en.same s, h.ka, h.ia, h.len⟩
/-- no dict of texts, for the law -/
def NoEntA (K : PySem.W.Frag) (H : Hp) (y : V) : Prop := (∃ d kvs i v, y = .ref d ∧ H d = some (.dK kvs) ∧ kvs.length ≤ 1000 ∧ kvs.filter (fun q => !strKey q.1) = [((.inl i : Key), v)] ∧ (i = 0 ∨ i = 1)) ∨ ∃ t, TyX K H y t ∧ PySem.W.kitOne K t (.type "dict") = some false
theorem NoEntA.no {K : PySem.W.Frag} {H : Hp} {y : V} (h : NoEntA K H y) : NoEnt K H y := by
  rcases h with ⟨d, kvs, i, v, h1, h2, h3, h4, _⟩ | h
  · refine Or.inl ⟨d, kvs, h1, h2, h3, ?_⟩
    have hm : ((.inl i : Key), v) ∈ kvs := by
      have : ((.inl i : Key), v) ∈ kvs.filter (fun q => !strKey q.1) := by rw [h4]; exact List.mem_singleton_self _
      exact (List.mem_filter.mp this).1
    rw [List.all_eq_false]
    exact ⟨_, hm, by exact Bool.false_ne_true⟩
  · exact Or.inr h
def wrongK (z : Str) : Bool := decide (z = "") || (!isPt z || decide (PySem.Txt.count z c_sl > 9))
theorem wrongK_is (z : Str) : wrongK z = !isPl z := by
  unfold wrongK isPl
  by_cases hz : z = ""
  · subst hz
    decide +kernel
  · rw [decide_eq_false hz, Bool.false_or]
    cases hp : isPt z with
    | false => rfl
    | true =>
      rw [Bool.not_true, Bool.false_or, Bool.true_and, count_parts hp hz]
      obtain ⟨ns, e1, e2, e3, e4⟩ := isPt_jn hp hz
      have hl : 1 ≤ (parts z).length := by rw [e4]; exact List.length_pos_iff.mpr e2
      rw [Bool.eq_iff_iff, decide_eq_true_eq, Bool.not_eq_true', decide_eq_false_iff_not]
      omega
section
variable {P : Program} {w : World} {K : PySem.W.Frag} {mg : Str → Option Value} {base : Heap} {tk1 tk2 : Tok}
end
end K5

set_option Elab.async false
set_option linter.all false
set_option maxRecDepth 100000
set_option maxHeartbeats 4000000
namespace LF
open PySem PySem.Spec PyProof.Rows L2 GenW
/-- a run that ends nowhere is none -/
theorem wp_no {α : Type} {M : Model} {Γ : PySem.Ctx} (t : Sem α) : ∀ (p : Pos) (s : Shared), Sem.wp M Γ t (fun _ _ _ => False) (fun _ _ _ => False) p s → False := by
  induction t with
  | pure a => intro p s h; rw [Sem.wp] at h; exact h
  | raise e => intro p s h; rw [Sem.wp] at h; exact h
  | unsupported q => intro p s h; rw [Sem.wp] at h; exact h
  | finish e => intro p s h; rw [Sem.wp] at h; exact h
  | register a k => intro p s h; rw [Sem.wp] at h; exact h
  | yield v g l k => intro p s h; rw [Sem.wp] at h; exact h
  | fork c k => intro p s h; rw [Sem.wp] at h; exact h
  | await a f d l k => intro p s h; rw [Sem.wp] at h; exact h
  | rule t k ih => intro p s h; rw [Sem.wp] at h; exact ih _ _ _ h
  | «at» p' k ih => intro p s h; rw [Sem.wp] at h; exact ih _ _ _ h
  | load a q k ih => intro p s h; rw [Sem.wp] at h; obtain ⟨o, _, h⟩ := h; exact ih _ _ _ h
  | update a q f k ih => intro p s h; rw [Sem.wp] at h; exact ih _ _ _ h.2
  | loadIfAlive a k ih => intro p s h; rw [Sem.wp] at h; exact ih _ _ _ h
  | point l k ih => intro p s h; rw [Sem.wp] at h; exact ih _ _ _ h
  | alloc o k ih => intro p s h; rw [Sem.wp] at h; exact ih _ _ _ h
  | fresh k ih => intro p s h; rw [Sem.wp] at h; exact ih _ _ _ h
  | ask k ih => intro p s h; rw [Sem.wp] at h; exact ih _ _ _ h
  | choose q n k ih => intro p s h; rw [Sem.wp] at h; exact ih _ _ _ h.2
  | os q l k ih => intro p s h; rw [Sem.wp] at h; exact ih _ _ _ h
  | call c m g l k ih => intro p s h; rw [Sem.wp] at h; obtain ⟨r, s1, _, h⟩ := h; exact ih _ _ _ h
  | handled o k ih => intro p s h; rw [Sem.wp] at h; exact ih _ _ _ h
  | genState g k ih => intro p s h; rw [Sem.wp] at h; obtain ⟨st, _, h⟩ := h; exact ih _ _ _ h
  | newGen c k ih => intro p s h; rw [Sem.wp] at h; exact ih _ _ _ h
  | resume g r l k ih => intro p s h; rw [Sem.wp] at h; obtain ⟨r1, s1, _, h⟩ := h; exact ih _ _ _ h
  | stack k ih => intro p s h; rw [Sem.wp] at h; exact ih _ _ _ h
  | thread k ih => intro p s h; rw [Sem.wp] at h; exact ih _ _ _ h
/-- the consumer of a generator, while that sleeps: it puts v behind its list at S, and stores at C -/
structure Nap (S C : Addr) (v : Value) (s s' : Shared) : Prop where
  os : s'.os = s.os
  bare : AllBare s'.gens
  rest : ∀ b o, b ≠ S → b ≠ C → s.heap.get? b = some o → s'.heap.get? b = some o
  mine : ∀ acc c, s.heap.get? S = some (lstObj acc c) → ∃ c', s'.heap.get? S = some (lstObj (acc.push v) c')
  oth : ∃ o, s'.heap.get? C = some o ∧ ∀ w, o.data ≠ .cell w
/-- running: ys is out, at S; C is the consumer's -/
def GJ (X : Cx) (S C : Addr) (ip : List (Addr × Obj)) (ys : List V) (σ : L2.St) (H : Hp) (s : Shared) : Prop :=
  ∃ (acc : Array Value) (c : Nat) (oC : Obj), Vals ys acc.toList ∧ Inv X ([(S, lstObj acc c), (C, oC)] ++ ip) σ H s
structure Off (X : Cx) (S C : Addr) : Prop where
  ne : S ≠ C
  s1 : X.s_0.heap.objs.size ≤ S
  s2 : S ≠ X.env.locals
  s3 : ∀ x c, X.env.cells.lookup x = some c → c ≠ S
  s4 : ∀ p ∈ X.pn, p.1 ≠ S
  c1 : X.s_0.heap.objs.size ≤ C
  c2 : C ≠ X.env.locals
  c3 : ∀ x c, X.env.cells.lookup x = some c → c ≠ C
  c4 : ∀ p ∈ X.pn, p.1 ≠ C
theorem GJ.nap {X : Cx} {S C : Addr} {ip : List (Addr × Obj)} {ys : List V} {x : V} {v : Value} {σ : L2.St} {H : Hp} {s s' : Shared} (F : Off X S C) (hip : ∀ p ∈ ip, p.1 ≠ S ∧ p.1 ≠ C) (h : GJ X S C ip ys σ H s) (rv : RelV x v) (z : Nap S C v s s') :
    GJ X S C ip (ys ++ [x]) σ H s' := by
  obtain ⟨acc, c, oC, r, I⟩ := h
  obtain ⟨pS1, pS2, pS3, pS4, _⟩ := I.pin (S, lstObj acc c) (List.mem_append_right _ (List.mem_append_left _ List.mem_cons_self))
  obtain ⟨pC1, pC2, pC3, pC4, pC5⟩ := I.pin (C, oC) (List.mem_append_right _ (List.mem_append_left _ (List.mem_cons_of_mem _ List.mem_cons_self)))
  have I0 : Inv X ip σ H s := I.pins_of fun p hp => I.pin p (List.mem_append_right _ (List.mem_append_right _ hp))
  obtain ⟨z1, z2, z3, z4, oC', z5, z6⟩ := z
  obtain ⟨c', eS'⟩ := z4 acc c pS1
  have tr : ∀ b u, H b = some u → b ≠ S ∧ b ≠ C := fun b u q => ⟨fun e => (by rw [e, pS2] at q; cases q), fun e => (by rw [e, pC2] at q; cases q)⟩
  have out : ∀ b, b ∉ [S, C] → b ≠ S ∧ b ≠ C := fun b hb => ⟨fun e => hb (by rw [e]; exact List.mem_cons_self), fun e => hb (by rw [e]; exact List.mem_cons_of_mem _ List.mem_cons_self)⟩
  obtain ⟨hh, g, d, t, o⟩ := s'
  obtain rfl : o = s.os := z1
  have pair : ∀ b ∈ [S, C], (b ∈ X.ex ∨ X.s_0.heap.objs.size ≤ b) ∧ b ≠ X.env.locals ∧ (∀ x c, X.env.cells.lookup x = some c → c ≠ b) ∧ ∀ p ∈ X.pn ++ ip, p.1 ≠ b := fun b hb => by
    rcases List.mem_cons.mp hb with rfl | hb
    · exact ⟨Or.inr F.s1, F.s2, F.s3, fun p hp => (List.mem_append.mp hp).elim (F.s4 p) fun q => (hip p q).1⟩
    · obtain rfl := List.mem_singleton.mp hb
      exact ⟨Or.inr F.c1, F.c2, F.c3, fun p hp => (List.mem_append.mp hp).elim (F.c4 p) fun q => (hip p q).2⟩
  have J : Inv X ip σ H { s with heap := hh, gens := g, drawn := d, toks := t } := by
    refine I0.step (g' := g) (t' := t) (d' := d) (ch := [S, C]) pair ?_ ?_ ?_ ?_ ?_ ?_ ?_ ?_ ?_ z2
    · exact fun b ob _ _ hc q _ => z3 b ob (out b hc).1 (out b hc).2 q
    · exact fun b ob _ _ hc q _ => ⟨ob.slots, z3 b ob (out b hc).1 (out b hc).2 q⟩
    · exact fun _ _ _ _ n => n
    · exact fun b ob hc q => ⟨ob, z3 b ob (out b hc).1 (out b hc).2 q⟩
    · exact fun _ _ q => q
    · exact fun _ _ _ q => q
    · exact fun b ps q => ⟨#[], by rw [q]; simp⟩
    · rintro m ⟨ob, es, ep, ho, rr⟩
      exact ⟨ob, es, ep, z3 _ ob (Ne.symm pS3) (Ne.symm pC3) ho, rr⟩
    · intro b u q
      have nb : ∀ a, (a = b ∨ ∃ w, H a = some w) → a ≠ S ∧ a ≠ C := fun a ha => by
        rcases ha with rfl | ⟨w, hw⟩
        · exact tr a u q
        · exact tr a w hw
      refine (I0.hok b u q).stay (fun a w ha y => ?_) (fun _ y => y) fun _ _ y => y
      rcases ha with y1 | y1
      · exact z3 a w (by rw [y1]; exact (tr b u q).1) (by rw [y1]; exact (tr b u q).2) y
      · exact z3 a w (tr a _ y1).1 (tr a _ y1).2 y
  refine ⟨acc.push v, c', oC', ?_, J.pins_of fun p hp => ?_⟩
  · rw [Array.toList_push]
    exact r.append (.cons rv .nil)
  · rcases List.mem_append.mp hp with hp | hp
    · rcases List.mem_cons.mp hp with rfl | hp
      · exact ⟨eS', pS2, pS3, pS4, fun v q => nomatch q⟩
      · obtain rfl := List.mem_singleton.mp hp
        exact ⟨z5, pC2, pC3, pC4, z6⟩
    · exact J.pin p (List.mem_append_right _ hp)
end LF

set_option Elab.async false
set_option linter.all false
set_option maxRecDepth 100000
set_option maxHeartbeats 4000000
namespace LF
open PySem PySem.Spec PyProof.Rows L2 GenW
section
variable {M : Model} {A : Around} {R : GenEnd} {Y : Protocol} {n : Nat} {s₀ : Shared} {c : Code} {fs : List Frame} {s : Shared} {env : Env} {K : Flow → Sem Fin} {J : Value → Sem Fin} {gd : Bool → Bool} {lv : List Value → List Value}
/-- no exception -/
abbrev NoX : Value → Shared → Prop := fun _ _ => False
/-- what a loop's call gives back -/
abbrev backR (env : Env) (K : Flow → Sem Fin) (J : Value → Sem Fin) (gd : Bool → Bool) (lv : List Value → List Value) : Result → Sem Fin := fun r =>
  ((match r with | .ok f => (.pure f : Sem Flow) | .error e => .raise e).onRaise (cameBack env)).wrap K J gd lv
theorem seg_forS {tg iter : Expr} {body : List Stmt} {pos : Pos} (hs : ∀ x, foldedSetIterable iter env x = pure x)
    (h : wpAny M (A.over c fs) (eval iter env) (fun v s1 => wpAny M (A.over c fs) (pyIter v) (fun it s2 => ∀ p, Seg M A R Y n s₀ (.forLoop tg it body [] env) (M.den (.forLoop tg it body [] env)) (.ret (backR env K J gd lv) none (gd false) (lv []) c p [] :: fs) s2) NoX s1) NoX s) :
    Seg M A R Y n s₀ c ((exec (.For tg iter body [] pos) env).wrap K J gd lv) fs s := by
  rw [exec_For]
  rw [Sem.bind_eq_wrap', Sem.wrap_wrap]
  refine seg_wrap (wpAny_standAt ?_)
  rw [Sem.bind_eq_wrap', Sem.wrap_wrap]
  refine seg_wrap (wpAny_mono h (fun v s1 h1 => ?_) fun _ _ q => q.elim)
  rw [hs, Sem.bind_eq_wrap', Sem.wrap_wrap]
  refine seg_wrap (wpAny_pure ?_)
  rw [Sem.bind_eq_wrap', Sem.wrap_wrap]
  refine seg_wrap (wpAny_standAt ?_)
  rw [Sem.bind_eq_wrap', Sem.wrap_wrap]
  refine seg_wrap (wpAny_holding (wpAny_mono h1 (fun it s2 h2 => ?_) fun _ _ q => q.elim))
  exact seg_call fun p => h2 p
end
section
variable {prog : Program} {w : World} {A : Around} {R : GenEnd} {Y : Protocol} {n : Nat} {s₀ : Shared} {fs : List Frame} {s : Shared} {env : Env}
abbrev badR (env : Env) : Value → Sem Fin := fun e => (do noteFrame e env; theTreesLotGoes e : Sem Unit).wrap (fun _ => .raise e) .raise id id
abbrev turnR (cd : Code) : Flow → Sem Fin := fun f => match f with
  | .next | .cont => .pure (.again cd)
  | .brk => .pure (.done .next)
  | .ret v => .pure (.done (.ret v))
theorem seg_blk0 (h : Seg (model prog w) A R Y n s₀ (.block [] env) (leafOf (.ok .next)) fs s) : Seg (model prog w) A R Y n s₀ (.block [] env) ((model prog w).den (.block [] env)) fs s := h
theorem seg_forT {tg : Expr} {it : Value} {body : List Stmt}
    (h : wpAny (model prog w) (A.over (.forLoop tg it body [] env) fs) (pyNext it) (fun r s1 => match r with
      | none => Seg (model prog w) A R Y n s₀ (.block [] env) (leafOf (.ok .next)) fs s1
      | some v => wpAny (model prog w) (A.over (.forLoop tg it body [] env) fs) (letOwnedTupleGo tg it v) (fun _ s2 => wpAny (model prog w) (A.over (.forLoop tg it body [] env) fs) (assign tg env v) (fun _ s3 =>
          Seg (model prog w) A R Y n s₀ (.forLoop tg it body [] env) ((execs body env).wrap (turnR (.forLoop tg it body [] env)) (badR env) id id) fs s3) NoX s2) NoX s1) NoX s) :
    Seg (model prog w) A R Y n s₀ (.forLoop tg it body [] env) ((model prog w).den (.forLoop tg it body [] env)) fs s := by
  show Seg _ A R Y n s₀ _ ((forTurn tg it body [] env).onRaise (fun x => do noteFrame x env; theTreesLotGoes x)) fs s
  rw [Sem.onRaise_eq_wrap]
  unfold forTurn
  rw [Sem.bind_eq_wrap', Sem.wrap_wrap]
  refine seg_wrap (wpAny_standAt ?_)
  rw [Sem.bind_eq_wrap', Sem.wrap_wrap]
  refine seg_wrap (wpAny_onRaise (wpAny_mono h (fun r s1 h1 => ?_) fun _ _ q => q.elim))
  cases r with
  | none => exact seg_again rfl (seg_blk0 h1)
  | some v =>
    show Seg _ A R Y n s₀ _ (Sem.wrap _ _ _ _ (letOwnedTupleGo tg it v >>= fun _ => assign tg env v >>= fun _ => execs body env >>= fun f => _)) fs s1
    rw [Sem.bind_eq_wrap', Sem.wrap_wrap]
    refine seg_wrap (wpAny_mono h1 (fun _ s2 h2 => ?_) fun _ _ q => q.elim)
    rw [Sem.bind_eq_wrap', Sem.wrap_wrap]
    refine seg_wrap (wpAny_mono h2 (fun _ s3 h3 => ?_) fun _ _ q => q.elim)
    rw [Sem.bind_eq_wrap', Sem.wrap_wrap]
    rw [Sem.wrap_congr (execs body env) _ _ (K' := turnR (.forLoop tg it body [] env)) (H' := badR env) (fun f => by cases f <;> rfl) (fun e => by
      show ((do noteFrame e env; theTreesLotGoes e : Sem Unit).bind fun _ => .raise e) = _
      rw [Sem.bind_eq_wrap])]
    exact h3
end
end LF

set_option Elab.async false
set_option linter.all false
set_option maxRecDepth 100000
set_option maxHeartbeats 4000000
namespace LF
open PySem PySem.Spec PyProof.Rows L2 GenW
def NY (X : Cx) (S C : Addr) : Protocol := fun n s₀ v s kap => ∃ ys x ip σ H, n + 1 + ys.length = sizeLine ∧ RelV x v ∧ GJ X S C ip ys σ H s ∧ s.heap.get? C = s₀.heap.get? C ∧ ∀ s', Nap S C v s s' → kap (.send .none) s'
/-- for tg in iter: yield e, what it wants: N turns, Pv by what is out -/
def tGF (wi : TI) (g : TG) (te : TE) : L2.St → Hp → (List V → L2.St → Hp → Prop) → Prop := fun σ H Q => wi σ H fun Jt H1 => ∃ (N : Nat) (Pv : Nat → List V → L2.St → Hp → Prop), N ≤ sizeLine ∧ Pv 0 [] σ H1 ∧ (∀ i ys σ H, Pv i ys σ H → ys.length = i) ∧
  (∀ i ys σ H, i < N → Pv i ys σ H → Jt.go i H ∧ ∀ x H', Jt.yld i H x H' → g x σ H' fun σ2 H2 => te σ2 H2 fun y H3 => Pv (i + 1) (ys ++ [y]) σ2 H3) ∧ (∀ ys σ H, Pv N ys σ H → Jt.stop N H ∧ Q ys σ H)
theorem atC {X : Cx} {S C : Addr} {l oC : Obj} {ip : List (Addr × Obj)} {σ : L2.St} {H : Hp} {s : Shared} (I : Inv X ([(S, l), (C, oC)] ++ ip) σ H s) : s.heap.get? C = some oC :=
  (I.pin (C, oC) (List.mem_append_right _ (List.mem_append_left _ (List.mem_cons_of_mem _ List.mem_cons_self)))).1
theorem gen_for {X : Cx} {S C : Addr} {tg iter e : Expr} {yp yq pos : Pos} {wi : TI} {g : TG} {te : TE} (hc : X.calm = true) (hi : PI X tg iter wi) (hg : PG X tg g) (he : PE X e te) (hs : ∀ x, foldedSetIterable iter X.env x = pure x) (noX : ∀ e s, X.xe e s → False) (F : Off X S C)
    (hco : X.env.scope.isCoroutine = false) (hin : interactive X.env = false)
    {A : Around} {R : GenEnd} {c : Code} {fs : List Frame} {K : Flow → Sem Fin} {J : Value → Sem Fin} {gd : Bool → Bool} {lv : List Value → List Value} {n : Nat} {s₀ s : Shared} {σ : L2.St} {H : Hp} {Q : List V → L2.St → Hp → Prop}
    (ho : A.over c fs = X.A) (h1 : splitAtGen fs = none) (h2 : fs.any Frame.guarded = false) (h3 : gd false = false) (hn : n = sizeLine) (hI : GJ X S C [] [] σ H s) (hC0 : s.heap.get? C = s₀.heap.get? C) (ht : tGF wi g te σ H Q)
    (fin : ∀ n ys s₀ s σ H, n + ys.length = sizeLine → GJ X S C [] ys σ H s → s.heap.get? C = s₀.heap.get? C → Q ys σ H → Seg (model X.prog X.w) A R (NY X S C) n s₀ c (K .next) fs s) :
    Seg (model X.prog X.w) A R (NY X S C) n s₀ c ((exec (.For tg iter [.Expr (.Yield (some e) yp) yq] [] pos) X.env).wrap K J gd lv) fs s := by
  obtain ⟨acc, cc, oC, hv, I⟩ := hI
  refine seg_forS hs ?_
  rw [ho]
  refine wpAny_mono (hi.run _ s σ H _ I ht) (fun v s1 q1 => wpAny_mono q1 (fun itv s2 q2 => ?_) fun e s' q => noX e s' q) fun e s' q => noX e s' q
  obtain ⟨it, fp, tn, Jt, H2, rfl, I2, T, st2, f2, N, Pv, hN, p0, hlen, hgo, hstop⟩ := q2
  intro p
  have neS : ∀ b ∈ fp, S ≠ b ∧ C ≠ b := fun b hb => ⟨(f2 b hb).2.2.2.2.2 (S, lstObj acc cc) (List.mem_append_right _ (List.mem_append_left _ List.mem_cons_self)), (f2 b hb).2.2.2.2.2 (C, oC) (List.mem_append_right _ (List.mem_append_left _ (List.mem_cons_of_mem _ List.mem_cons_self)))⟩
  have stat : ∀ {a2 : Array Value} {c2 : Nat} {o2 : Obj} {H' : Hp}, (∀ b ∈ fp, H' b = none) → ∀ b ∈ fp, FpOk X ([(S, lstObj a2 c2), (C, o2)] ++ []) H' b := fun {a2 c2 o2 H'} hf b hb => by
    obtain ⟨_, w2, w3, w4, w5, w6⟩ := f2 b hb
    refine ⟨hf b hb, w2, w3, w4, w5, fun p hp => ?_⟩
    rcases List.mem_append.mp hp with hp | hp
    · exact w6 p (List.mem_append_left _ hp)
    · rw [List.append_nil] at hp
      rcases List.mem_cons.mp hp with rfl | hp
      · exact (neS b hb).1
      · obtain rfl := List.mem_singleton.mp hp
        exact (neS b hb).2
  have over' : A.over (.forLoop tg (.ref it) [.Expr (.Yield (some e) yp) yq] [] X.env) (.ret (backR X.env K J gd lv) none (gd false) (lv []) c p [] :: fs) = X.A := (over_loop rfl rfl).trans ho
  have split' : splitAtGen (.ret (backR X.env K J gd lv) none (gd false) (lv []) c p [] :: fs) = none := by
    show (splitAtGen fs).map _ = none
    rw [h1]; rfl
  have guard' : (Frame.ret (backR X.env K J gd lv) none (gd false) (lv []) c p [] :: fs).any Frame.guarded = false := by
    show (gd false || fs.any Frame.guarded) = false
    rw [h3, h2]; rfl
  generalize hfs : (Frame.ret (backR X.env K J gd lv) none (gd false) (lv []) c p [] :: fs) = fs' at over' split' guard' ⊢
  have loop : ∀ m i, N - i = m → i ≤ N → ∀ (n : Nat) (ys : List V) (s₀ s : Shared) (σ : L2.St) (H : Hp), n + ys.length = sizeLine → GJ X S C [] ys σ H s → s.heap.get? C = s₀.heap.get? C → tn i s.heap → (∀ b ∈ fp, H b = none) → Pv i ys σ H →
      Seg (model X.prog X.w) A R (NY X S C) n s₀ (.forLoop tg (.ref it) [.Expr (.Yield (some e) yp) yq] [] X.env) ((model X.prog X.w).den (.forLoop tg (.ref it) [.Expr (.Yield (some e) yp) yq] [] X.env)) fs' s := by
    intro m
    induction m with
    | zero =>
      intro i hm hi' n ys s₀ s σ H hn ⟨a2, c2, o2, hv2, I2⟩ eC st fr pv
      obtain rfl : i = N := by omega
      obtain ⟨stop, qq⟩ := hstop ys σ H pv
      refine seg_forT ?_
      rw [over']
      refine wpAny_mono (T.done X rfl rfl rfl hc i _ s σ H NoX I2 (stat fr) st stop) (fun r s4 ⟨hr, I4⟩ => ?_) fun _ _ q => q
      subst hr
      subst hfs
      refine seg_leaf (.ok .next) ?_
      exact fin n ys s₀ s4 σ H hn ⟨a2, c2, o2, hv2, I4⟩ ((atC I4).trans ((atC I2).symm.trans eC)) qq
    | succ m ih =>
      intro i hm hi' n ys s₀ s σ H hn ⟨a2, c2, o2, hv2, I2⟩ eC st fr pv
      have hlt : i < N := by omega
      obtain ⟨go, step⟩ := hgo i ys σ H hlt pv
      have hyl := hlen i ys σ H pv
      refine seg_forT ?_
      rw [over']
      refine wpAny_mono (T.item X rfl rfl rfl hc i _ s σ H NoX I2 (stat fr) st go) (fun r s4 ⟨u, hr, h4⟩ => ?_) fun _ _ q => q
      subst hr
      refine wpAny_mono h4 (fun _ s5 ⟨x, H5, I5, r5, y5, st5, fr5⟩ => ?_) fun _ _ q => q
      have I5' := I5.pinned (stat fr5) (T.obj _ _ st5)
      refine wpAny_mono (hg.run _ s5 σ H5 x u _ I5' r5 (step x H5 y5)) (fun _ s6 ⟨σ6, H6, I6, q6⟩ => ?_) fun e s' q => noX e s' q
      obtain ⟨n', rfl⟩ : ∃ n', n = n' + 1 := ⟨n - 1, by omega⟩
      refine seg_execs_cons (seg_Expr_Yield split' rfl guard' ?_ hco hin)
      rw [over']
      refine wpAny_mono (he.run _ s6 σ6 H6 _ I6 q6) (fun v s7 ⟨y, H7, I7, r7, pv7⟩ => ?_) fun e s' q => (noX e s' q).elim
      intro kap hk
      have hip : ∀ q ∈ pinsAt fp s5.heap, q.1 ≠ S ∧ q.1 ≠ C := fun q hq => by
        have hb := (of_pinsAt hq).1
        exact ⟨(neS _ hb).1.symm, (neS _ hb).2.symm⟩
      have I7' : Inv X ([(S, lstObj a2 c2), (C, o2)] ++ pinsAt fp s5.heap) σ6 H7 s7 := by
        rw [List.append_nil] at I7
        exact I7
      refine ⟨ys, y, pinsAt fp s5.heap, σ6, H7, hn, r7, ⟨a2, c2, o2, hv2, I7'⟩, (atC I7').trans ((atC I2).symm.trans eC), fun s' z => hk .none s' ?_⟩
      obtain ⟨a8, c8, o8, hv8, I8⟩ := GJ.nap F hip ⟨a2, c2, o2, hv2, I7'⟩ r7 z
      have pin8 : ∀ b ∈ fp, ∀ o, s5.heap.get? b = some o → s'.heap.get? b = some o ∧ H7 b = none := fun b hb o e =>
        let w := I8.pin (b, o) (List.mem_append_right _ (List.mem_append_right _ (mem_pinsAt hb e)))
        ⟨w.1, w.2.1⟩
      refine seg_execs_nil (seg_again rfl (ih (i + 1) (by omega) (by omega) n' (ys ++ [y]) s' s' σ6 H7 ?_ ⟨a8, c8, o8, hv8, I8.pins_of fun q hq => I8.pin q (List.mem_append_right _ ?_)⟩ rfl (T.keep _ _ _ st5 fun b hb o e => (pin8 b hb o e).1) (fun b hb => ?_) pv7))
      · rw [List.length_append, List.length_singleton]; omega
      · rw [List.append_nil] at hq
        exact List.mem_append_left _ hq
      · obtain ⟨o, e, _⟩ := T.obj _ _ st5 b hb
        exact (pin8 b hb o e).2
  exact loop N 0 (by omega) (Nat.zero_le _) n [] s₀ s2 σ H2 (by rw [List.length_nil, hn]; rfl) ⟨acc, cc, oC, hv, I2⟩ ((atC I2).trans ((atC I).symm.trans hC0)) st2 (fun b hb => (f2 b hb).1) p0
end LF

set_option Elab.async false
set_option linter.all false
set_option maxRecDepth 100000
set_option maxHeartbeats 4000000
namespace LF
open PySem PySem.Spec PyProof.Rows L2 GenW
abbrev SpH := List V → Hp → (List V → Hp → Prop) → Prop
abbrev E00 : XK := fun _ _ _ => False
/-- the generator is through: all that was handed out stands at S -/
def NFin (P : Program) (w : World) (outer : List Env) (H : Hp) (s : Shared) (S C : Addr) (Q : List V → Hp → Prop) : Nat → Shared → Shared → Prop := fun _ s₀ s1 =>
  s1.heap.get? C = s₀.heap.get? C ∧ ∃ H' ys acc c, s1.os = s.os ∧ AllBare s1.gens ∧ Un (frs outer) [] H H' s.heap s1.heap ∧ HOk P w H' s1.heap ∧ H' S = none ∧ H' C = none ∧ s1.heap.get? S = some (lstObj acc c) ∧ Vals ys acc.toList ∧ ys.length ≤ sizeLine ∧ Q ys H'
abbrev NEr : Value → Shared → Prop := fun _ _ => False
def NEnd (P : Program) (w : World) (outer : List Env) (H : Hp) (s : Shared) (S C : Addr) (Q : List V → Hp → Prop) : GenEnd := fun n s₀ r s1 =>
  ((r = .ok (.ret .none) ∨ r = .ok .next) ∧ NFin P w outer H s S C Q n s₀ s1) ∨ ∃ e, r = .error e ∧ NEr e s1
def NItem (s : Shared) (S C a : Addr) (g : Nat) : Protocol := fun n s₀ v s1 kap =>
  s1.os = s.os ∧ AllBare s1.gens ∧ s1.heap.NoLimit ∧ s1.heap.IsGen a g ∧ s1.heap.get? C = s₀.heap.get? C ∧ (∃ (acc : Array Value) (c : Nat), s1.heap.get? S = some (lstObj acc c) ∧ n + 1 + acc.size = sizeLine) ∧ ∀ s', Nap S C v s1 s' → kap (.send .none) s'
/-- a generator that has not begun -/
def GMadeC (P : Program) (w : World) (k : Nat) (outer : List Env) (H : Hp) (s : Shared) (Q : List V → Hp → Prop) (u : Value) (s' : Shared) : Prop :=
  ∃ (a : Addr) (g : Nat) (c : Code), u = .ref a ∧ s.heap.objs.size ≤ a ∧ a < s'.heap.objs.size ∧ s'.heap.IsGen a g ∧ s'.gens[g]? = some (.fresh c) ∧ s'.os = s.os ∧ AllBare s'.gens ∧ s'.heap.NoLimit ∧ (∀ b o, s.heap.get? b = some o → s'.heap.get? b = some o) ∧
    ∀ (A : Around) (S C : Addr) (s2 : Shared), Room k A → A.frames = some outer → s'.heap.objs.size ≤ S → s'.heap.objs.size ≤ C → S ≠ C → (∀ b o, s'.heap.get? b = some o → s2.heap.get? b = some o) → (∃ c, s2.heap.get? S = some (lstObj #[] c)) →
      (∃ o, s2.heap.get? C = some o ∧ ∀ v, o.data ≠ .cell v) → s2.os = s.os → AllBare s2.gens → Seg (model P w) A (NEnd P w outer H s S C Q) (NItem s S C a g) sizeLine s2 c ((model P w).den c) [] s2
structure GFnC (P : Program) (w : World) (K : PySem.W.Frag) (mg : Str → Option Value) (base : Heap) (k : Nat) (f : Addr) (fd : FuncData) (ps : List Str) (sp : SpH) : Prop where
  len : ∀ vs H Q, sp vs H Q → vs.length = ps.length
  run : ∀ (A : Around) (outer : List Env) (s : Shared) (H : Hp) (args : Args) (us : List Value) (vs : List V) (Q : List V → Hp → Prop), Room k A → Env0 P w K mg base A outer s H → BindsTo s fd args (ps.zip us) → Vals vs us → sp vs H Q →
    codeAny (model P w) A (.call (.ref f) args) (fun r s' => match r with | .ok (.ret u) => GMadeC P w k outer H s Q u s' | _ => False) s
theorem seg_weak {M : Model} {A : Around} {R R' : GenEnd} {Y Y' : Protocol} (hR : ∀ n s₀ r s, R n s₀ r s → R' n s₀ r s) (hY : ∀ n s₀ v s kap kap', (∀ r s', kap r s' → kap' r s') → Y n s₀ v s kap → Y' n s₀ v s kap')
    (n : Nat) {s₀ : Shared} {c : Code} {t : Sem Fin} {fs : List Frame} {s : Shared} (h : Seg M A R Y n s₀ c t fs s) : Seg M A R' Y' n s₀ c t fs s := seg_imp hR hY n h
theorem gen_noX {P : Program} {w : World} {K : PySem.W.Frag} {mg : Str → Option Value} {base : Heap} {N : List Str} {qual : Str} {scope : Scope} {f : Addr} {cdv : Value} {A : Around} {outer : List Env} {s : Shared} {H : Hp} {pn : List (Addr × Obj)} {Γ : PySem.Ctx}
    (hΓ : Γ.In (gcxOf P w K mg base N qual scope f cdv A outer s H E00 pn).A) : ∀ e s', (gcxOf P w K mg base N qual scope f cdv A outer s H E00 pn).xe e s' → False := fun e s' hx => by
  have h : wpAny (model P w) (A.deeper (envOfC qual scope s.heap.objs.size f cdv)) (leaving (envOfC qual scope s.heap.objs.size f cdv) e) (fun _ s'' => CX P w outer H s E00 e s'' ∧ ∀ p ∈ pn, s''.heap.get? p.1 = some p.2) (fun _ _ => False) s' := hx
  have h2 := wpAny_mono h (Q' := fun _ _ => False) (E' := fun _ _ => False) (fun _ s'' q => by
    obtain ⟨⟨a, B, H', cls, d, _, _, _, _, _, _, _, hW⟩, _⟩ := q
    exact hW) fun _ _ q => q
  exact wp_no _ _ _ (h2 Γ default hΓ)
end LF

set_option Elab.async false
set_option linter.all false
set_option maxRecDepth 100000
set_option maxHeartbeats 4000000
namespace LF
open PySem PySem.Spec PyProof.Rows L2 GenW
/-- a generator def whose body is one for over a locked thing, with one yield -/
theorem gfnC_of {P : Program} {w : World} {K : PySem.W.Frag} {mg : Str → Option Value} {base : Heap} {k : Nat} {f : Addr} {name qual : Str} {params : Arguments} {tg iter e : Expr} {yp yq pos : Pos} {scope : Scope} {dV kV doc pm cdv ct oc : Value} {an od : Option Addr}
    {osl : Array (Option Value)} {N ps : List Str} {sp : SpH} (lk : K.lookup f = some ⟨oc, od, .func (PySem.W.fnOf name qual params [.For tg iter [.Expr (.Yield (some e) yp) yq] [] pos] scope dV kV doc pm an cdv ct), osl⟩) (hcd : PySem.W.codeIn K cdv qual = true) (G0 : GScope N ps scope) (hint : ∀ n, interactive (envOfC qual scope n f cdv) = false)
    (len : ∀ vs H Q, sp vs H Q → vs.length = ps.length)
    (hbody : ∀ (A : Around) (outer : List Env) (s : Shared) (H : Hp) (vs : List V) (Q : List V → Hp → Prop) (pn : List (Addr × Obj)), Room k (A.deeper (envOfC qual scope s.heap.objs.size f cdv)) → sp vs H Q →
      ∃ (d : Addr) (u : HO) (wi : TI) (g : TG) (te : TE), PI (gcxOf P w K mg base N qual scope f cdv A outer s H E00 pn) tg iter wi ∧ PG (gcxOf P w K mg base N qual scope f cdv A outer s H E00 pn) tg g ∧ PE (gcxOf P w K mg base N qual scope f cdv A outer s H E00 pn) e te ∧
        (∀ x, foldedSetIterable iter (gcxOf P w K mg base N qual scope f cdv A outer s H E00 pn).env x = pure x) ∧ H d = some u ∧ Mut (some u) ∧ ∀ od, tGF wi g te (start N vs) (upd H d (.frz od u)) fun ys _ H' => H' d = some (.frz od u) ∧ Q ys (upd H' d u)) :
    GFnC P w K mg base (k + 1) f (PySem.W.fnOf name qual params [.For tg iter [.Expr (.Yield (some e) yp) yq] [] pos] scope dV kV doc pm an cdv ct) ps sp := by
  refine ⟨len, fun A outer s H args us vs Q hr e0 hb r hsp => ?_⟩
  have hl := len _ _ _ hsp
  have KX : K.In s.heap := e0.mod.kin.keeps fun b o e => (e0.bs b o e).1
  have lim : s.heap.NoLimit := e0.mod.nolimit.keeps fun b o e => (e0.bs b o e).1
  have hk : ∀ y ∈ ps.zip us, scope.names.lookup y.1 = some .local ∨ (scope.names.lookup y.1 = some .cell ∧ ((cellsFrom (s.heap.objs.size + 1) scope.names []).lookup y.1).isSome = true) := by
    rintro ⟨n, v⟩ hy
    rcases G0.par n (List.of_mem_zip hy).1 with q | q
    · exact Or.inl q
    · exact Or.inr ⟨q, PySem.W.cellsFrom_some _ _ _ (Or.inl q)⟩
  refine codeAny_call_generator hr.depth (KX _ _ lk) rfl G0.co G0.gen rfl (PySem.W.codeRec_of KX hcd) (hb _ _ _ _ ?_)
  refine wpAny_newFunctionEnv_cells G0.kind hk fun env he s1 xx => ?_
  subst he
  have lim1 : s1.heap.NoLimit := lim.keeps xx.toInCall.keep
  refine ⟨lim1, ?_⟩
  obtain ⟨h1, tk, es1, _⟩ := xx.done
  have os1 : s1.os = s.os := by rw [es1]
  have gen1 : s1.gens = s.gens := by rw [es1]
  have lt1 : s.heap.objs.size < s1.heap.objs.size := xx.toInCall.ns.lt
  have sz1 := Nat.le_of_lt lt1
  have kp1 : ∀ b o, s.heap.get? b = some o → s1.heap.get? b = some o := xx.toInCall.keep
  have main : ∀ (go : Obj) (nm qn : Value) (tk2 : Nat), go.cls = .type "generator" → go.data = .fields #[.int s1.gens.size 0, nm, qn] → go.slots = #[] → (∀ h : Heap, (h.push go).get? h.objs.size = some go) →
      GMadeC P w (k + 1) outer H s Q (.ref s1.heap.objs.size) { s1 with gens := s1.gens.push (.fresh (.func [.For tg iter [.Expr (.Yield (some e) yp) yq] [] pos] (envOfC qual scope s.heap.objs.size f cdv))), toks := tk2, heap := s1.heap.push go } := by
    intro go nm qn tk2 g1 g2 g3 g4
    have isg : ∀ h : Heap, h.get? s1.heap.objs.size = some go → h.IsGen s1.heap.objs.size s1.gens.size := fun h e => ⟨go, nm, qn, e, g1, g2, g3⟩
    have here : (s1.heap.push go).get? s1.heap.objs.size = some go := g4 _
    refine ⟨s1.heap.objs.size, s1.gens.size, _, rfl, sz1, ?_, isg _ here, Array.getElem?_push_size .., os1, ?_, lim1.keeps fun b o e => Heap.get?_push_of_some _ e, fun b o e => Heap.get?_push_of_some _ (kp1 b o e), ?_⟩
    · show _ < (s1.heap.push _).objs.size
      rw [Heap.size_push]; exact Nat.lt_succ_self _
    · exact AllBare.push (by rw [gen1]; exact e0.bare) rfl
    intro B S C s2 hrB hfr hS hC hne hk2 hSo hCo hos hba
    have hS' : s1.heap.objs.size < S := by
      have q : (s1.heap.push go).objs.size ≤ S := hS
      rw [Heap.size_push] at q; exact q
    have hC' : s1.heap.objs.size < C := by
      have q : (s1.heap.push go).objs.size ≤ C := hC
      rw [Heap.size_push] at q; exact q
    have e0w : Env0 P w K mg base B outer s H := ⟨hfr, e0.mod, e0.bs, e0.bsz, e0.funs, e0.frf, e0.hok, e0.bare⟩
    obtain ⟨d, u, wi, g, te, hPI, hPG, hPE, hfs, hd, mu, hq⟩ := hbody B outer s H vs Q [(s1.heap.objs.size, go)] (hrB.deeper _) hsp
    have I1 : Inv (gcxOf P w K mg base N qual scope f cdv B outer s H E00 []) [] (start N vs) H s1 := inv_startG G0 hrB.hd e0w hl r xx
    have kp2 : ∀ b o, s1.heap.get? b = some o → s2.heap.get? b = some o := fun b o e => hk2 b o (Heap.get?_push_of_some _ e)
    have I2 : Inv (gcxOf P w K mg base N qual scope f cdv B outer s H E00 []) [] (start N vs) H s2 :=
      I1.call' (ch := []) (hos.trans os1.symm) (Un.kept kp2) (I1.hok.kept kp2) hba fun b z => by simp at z
    obtain ⟨cS, heS⟩ := hSo
    obtain ⟨oC, heC, hncC⟩ := hCo
    have hea : s2.heap.get? s1.heap.objs.size = some go := hk2 s1.heap.objs.size go here
    have hgd : ∀ v, go.data ≠ .cell v := fun v q => by rw [g2] at q; cases q
    have young : ∀ b, s1.heap.objs.size ≤ b → H b = none ∧ b ≠ s.heap.objs.size ∧ b ∉ frs outer ∧ s.heap.objs.size ≤ b ∧ ∀ y c, (cellsFrom (s.heap.objs.size + 1) scope.names []).lookup y = some c → c ≠ b := fun b hb => by
      refine ⟨I1.hok.fresh hb, Nat.ne_of_gt (Nat.lt_of_lt_of_le lt1 hb), I1.nofs hb, Nat.le_trans sz1 hb, fun y c e z => ?_⟩
      obtain ⟨v, ob, ho, _⟩ := I1.cell y c e
      have q := Heap.lt_size ho
      rw [z] at q
      exact absurd (Nat.lt_of_lt_of_le q hb) (Nat.lt_irrefl _)
    have yS := young S (Nat.le_of_lt hS')
    have yC := young C (Nat.le_of_lt hC')
    have yg := young s1.heap.objs.size (Nat.le_refl _)
    have F : Off (gcxOf P w K mg base N qual scope f cdv B outer s H E00 [(s1.heap.objs.size, go)]) S C := by
      refine ⟨hne, yS.2.2.2.1, yS.2.1, yS.2.2.2.2, fun p hp => ?_, yC.2.2.2.1, yC.2.1, yC.2.2.2.2, fun p hp => ?_⟩
      · rw [List.mem_singleton.mp hp]; exact Nat.ne_of_lt hS'
      · rw [List.mem_singleton.mp hp]; exact Nat.ne_of_lt hC'
    have I3 : Inv (gcxOf P w K mg base N qual scope f cdv B outer s H E00 [(s1.heap.objs.size, go)]) ([(S, lstObj #[] cS), (C, oC)] ++ []) (start N vs) H s2 := by
      refine Inv.pinnedG I2 fun p hp => ?_
      rcases List.mem_append.mp hp with z | z
      · rw [List.mem_singleton.mp z]
        exact ⟨hea, yg.1, yg.2.1, yg.2.2.1, hgd⟩
      · rw [List.append_nil] at z
        rcases List.mem_cons.mp z with rfl | z
        · exact ⟨heS, yS.1, yS.2.1, yS.2.2.1, fun v q => nomatch q⟩
        · obtain rfl := List.mem_singleton.mp z
          exact ⟨heC, yC.1, yC.2.1, yC.2.2.1, hncC⟩
    obtain ⟨od2, I4⟩ := I3.lock hd mu
    have nf := I3.nofrz hd mu
    have pinned : ∀ {ip : List (Addr × Obj)} {ys : List V} {s' : Shared} {σ' : L2.St} {H' : Hp}, GJ (gcxOf P w K mg base N qual scope f cdv B outer s H E00 [(s1.heap.objs.size, go)]) S C ip ys σ' H' s' → s'.heap.IsGen s1.heap.objs.size s1.gens.size := fun {ip ys s' σ' H'} hI => by
      obtain ⟨acc, cc, o, _, J⟩ := hI
      exact isg _ (J.pin (s1.heap.objs.size, go) (List.mem_append_left _ (List.mem_singleton.mpr rfl))).1
    -- there is no exception
    rw [seg_iff]
    intro Γ p hc hΓ
    have hin : (Γ.over []).In (gcxOf P w K mg base N qual scope f cdv B outer s H E00 [(s1.heap.objs.size, go)]).A := by
      have q := hΓ.over []
      rw [hc, over_func] at q
      exact q
    have noX := gen_noX hin
    refine seg_iff.mp ?_ Γ p hc hΓ
    refine seg_func (seg_execs_cons ?_)
    refine seg_weak (R := fun n s₀ r s' => r = .ok (.ret .none) ∧ s'.heap.get? C = s₀.heap.get? C ∧ ∃ ys σ' H', n + ys.length = sizeLine ∧ GJ (gcxOf P w K mg base N qual scope f cdv B outer s H E00 [(s1.heap.objs.size, go)]) S C [] ys σ' H' s' ∧ H' d = some (.frz od2 u) ∧ Q ys (upd H' d u))
      (Y := NY (gcxOf P w K mg base N qual scope f cdv B outer s H E00 [(s1.heap.objs.size, go)]) S C) ?_ ?_ sizeLine ?_
    · rintro n s₀ r s' ⟨rfl, eC, ys, σ', H', hn, ⟨acc, cc, o, hv, J⟩, hd', hQ⟩
      have J' := J.unlock hd' nf
      obtain ⟨p1, p2, _⟩ := J'.pin (S, lstObj acc cc) (List.mem_append_right _ (List.mem_append_left _ List.mem_cons_self))
      obtain ⟨_, p3, _⟩ := J'.pin (C, o) (List.mem_append_right _ (List.mem_append_left _ (List.mem_cons_of_mem _ List.mem_cons_self)))
      exact Or.inl ⟨Or.inl rfl, eC, _, ys, acc, cc, J'.os, J'.bare, J'.base, J'.hok, p2, p3, p1, hv, by omega, hQ⟩
    · rintro n s₀ v s' kap kap' hkk ⟨ys, x, ip, σ', H', hn, rv, hI, eC, hz⟩
      have hg := pinned hI
      obtain ⟨acc, cc, o, hv, J⟩ := hI
      have hsz : acc.size = ys.length := by
        have e1 := hv.length
        have e2 : acc.toList.length = acc.size := by simp
        omega
      exact ⟨J.os, J.bare, J.nolimit, hg, eC, ⟨acc, cc, (J.pin (S, lstObj acc cc) (List.mem_append_right _ (List.mem_append_left _ List.mem_cons_self))).1, by rw [hsz]; exact hn⟩, fun s'' z => hkk _ _ (hz s'' z)⟩
    · refine gen_for rfl hPI hPG hPE hfs noX F G0.co (hint _) over_func rfl rfl rfl rfl ⟨#[], cS, oC, .nil, I4⟩ rfl (hq od2) ?_
      rintro n ys s₀ s' σ' H' hn hI eC ⟨hd', hQ⟩
      refine seg_execs_nil ?_
      exact seg_end (.ok (.ret .none)) ⟨rfl, eC, ys, σ', H', hn, hI, hd', hQ⟩
  exact main _ _ _ _ rfl rfl rfl fun h => Heap.get?_push_size _ rfl
end LF

set_option Elab.async false
set_option linter.all false
set_option maxRecDepth 100000
set_option maxHeartbeats 4000000
namespace LF
open PySem PySem.Spec PyProof.Rows L2 GenW
/-- an expression whose value is a generator that has not begun -/
structure PGenC (X : Cx) (k : Nat) (e : Expr) (tg : TGen) : Prop where
  run : ∀ (pins : List (Addr × Obj)) (s : Shared) (σ : L2.St) (H : Hp) (cont : List V → Hp → Prop), Inv X pins σ H s → tg σ H cont → wpAny (model X.prog X.w) X.A (eval e X.env)
    (fun u s' => ∃ H1 sc, Inv X pins σ H1 sc ∧ GMadeC X.prog X.w k X.stack H1 sc cont u s') X.xe s
theorem goes_of {P : Program} {w : World} {B : Around} {outer : List Env} {H : Hp} {sc : Shared} {S C a : Addr} {g n : Nat} {Q : List V → Hp → Prop} {gs : GenState} {r : Resume} {s : Shared} (h : gs.Goes (model P w) B (NEnd P w outer H sc S C Q) (NItem sc S C a g) n r s) :
    gs.Goes (model P w) B (fun n s₀ r s₁ => ((r = .ok (.ret .none) ∨ r = .ok .next) ∧ NFin P w outer H sc S C Q n s₀ s₁) ∨ ∃ e, r = .error e ∧ NEr e s₁) (NItem sc S C a g) n r s := h
/-- one turn: next, store, read, append -/
theorem gen_turn {P : Program} {w : World} {A : Around} {outer : List Env} {H : Hp} {sc : Shared} {S C a : Addr} {g n : Nat} {Q : List V → Hp → Prop} {gs : GenState} {s : Shared} {Z : Option Value → Shared → Prop} {EX : Value → Shared → Prop}
    (hh : A.handled = none) (hd : A.depth < recursionLimit) (hSa : S ≠ a) (hCa : C ≠ a) (hne : S ≠ C) (hSc : S ≠ cStatics) (hCc : C ≠ cStatics) (hl : s.heap.NoLimit) (hg : s.heap.IsGen a g) (hgs : s.gens[g]? = some gs)
    (hgo : gs.Goes (model P w) A.in1 (NEnd P w outer H sc S C Q) (NItem sc S C a g) n (.send .none) (s.setGen g .running))
    (hfin : ∀ s₁, NFin P w outer H sc S C Q n (s.setGen g .running) s₁ → ∀ h', (∀ b o, s₁.heap.get? b = some o → h'.get? b = some o) → Z none { s₁.setGen g .finished with heap := h' })
    (hitem : ∀ v s₁ gs', s₁.heap.NoLimit → s₁.heap.IsGen a g → g < s₁.gens.size → (∀ o, s.heap.get? C = some o → s₁.heap.get? C = some o) → AllBare (s₁.setGen g gs').gens → (∃ (acc : Array Value) (c : Nat), s₁.heap.get? S = some (lstObj acc c) ∧ acc.size < sizeLine) →
      (∀ s', Nap S C v s₁ s' → ∃ m', m' < n ∧ gs'.Goes (model P w) A.in1 (NEnd P w outer H sc S C Q) (NItem sc S C a g) m' (.send .none) s') → Z (some v) (s₁.setGen g gs')) :
    wpAny (model P w) A (pyNext (.ref a)) Z EX s := by
  have hgl : g < s.gens.size := (Array.getElem?_eq_some_iff.mp hgs).1
  refine wpAny_gsz (n := g + 1) hgl (next_genG hh hl hd hg hgs (goes_of hgo) (fun v s₁ gs' hbare hv => ?_) (fun s₁ hp h' hk => fun _ => hfin s₁ hp h' hk) fun e s₁ he => he.elim)
  · intro hsz
    obtain ⟨os1, hb1, hl1, hg1, eC, ⟨acc, c, hS1, hacc⟩, hk⟩ := hv
    have hsz1 : g < s₁.gens.size := by
      have q : (s₁.setGen g gs').gens.size = s₁.gens.size := setGen_size _ _ _
      have q2 : g + 1 ≤ (s₁.setGen g gs').gens.size := hsz
      omega
    refine hitem v s₁ gs' hl1 hg1 hsz1 (fun o e => eC.trans e) (allBare_setGen hb1 hbare) ⟨acc, c, hS1, by omega⟩ fun s' z => ?_
    have z2 := hk s' z
    cases n with
    | zero => exact z2.elim
    | succ n' => exact ⟨n', Nat.lt_succ_self _, z2⟩
end LF

set_option Elab.async false
set_option linter.all false
set_option maxRecDepth 100000
set_option maxHeartbeats 4000000
namespace LF
open PySem PySem.Spec PyProof.Rows L2 GenW
theorem cloNo {cells : List (Str × Addr)} : ∀ {l : List (Str × NameKind)}, (∀ y ∈ l, y.2 ≠ .free) → ∀ y ∈ l, y.2 = .free → ∃ c, cells.lookup y.1 = some c := fun h y hy e => absurd e (h y hy)
/-- [x for x in g], g a generator that has not begun -/
theorem pe_lcG {X : Cx} {k : Nat} {x : Str} {px px2 pos : Pos} {iter : Expr} {scope : Scope} {tg : TGen} (hgen : PGenC X k iter tg) (hr : Room (k + 1) X.A) (hkind : scope.kind = .function) (huniq : ∀ y ∈ scope.names, y.2 = .local → scope.names.lookup y.1 = some .local)
    (hx : scope.names.lookup x = some .local) (hnf : ∀ y ∈ scope.names, y.2 ≠ .free) (hdb : (x == ("__debug__" : Str)) = false := by decide) (hs : ∀ v, foldedSetIterable iter X.env v = pure v := by intro _; rfl) :
    PE X (.ListComp (.Name x px2) [⟨.Name x px, iter, [], 0⟩] scope pos) (tListG tg) := by
  refine ⟨fun pins s σ H Q I h => ?_⟩
  rw [eval_ListComp]
  refine wpAny_comprehension_free (use := none) rfl hs (closure_ok (cloNo hnf)) hkind (fun y hy e => huniq y hy e) (thn (hgen.run pins s σ H _ I h) fun u s1 ⟨H1, sc, I1, hG⟩ => ?_)
  obtain ⟨a, g, c, rfl, ha1, ha2, hg, hgs, hos, hb, hl, hkp, wake⟩ := hG
  refine wpAny_pyIter_gen hg ?_
  refine wpAny_newObj_type (newEnv_comp ?_) (by show 0 ≤ sizeLine; decide)
  generalize hS : s1.heap.objs.size = S
  generalize hs3 : ({ s1 with heap := s1.heap.push { cls := .type "list", data := .seq ([] : List Value).toArray } } : Shared) = s3
  have h3 : s3.heap = s1.heap.push { cls := .type "list", data := .seq ([] : List Value).toArray } := by rw [← hs3]
  show codeAny _ _ (.compStart (.ListComp (.Name x px2) [⟨.Name x px, iter, [], 0⟩] scope pos) 0 (.ref a) (.ref S) (compEnvC scope (cellsFrom (s3.heap.objs.size + 1) scope.names (cloFrom X.env.cells scope.names [])) s3.heap.objs.size X.env)) (compPost (model X.prog X.w) X.A X.xe none _ (.ref S) s3.heap.objs.size) { s3 with heap := pushCells (s3.heap.push { cls := .type "dict", data := .dict #[] }) scope.names }
  generalize hC : s3.heap.objs.size = C
  generalize hce : compEnvC scope (cellsFrom (C + 1) scope.names (cloFrom X.env.cells scope.names [])) C X.env = ce
  generalize hs4 : ({ s3 with heap := pushCells (s3.heap.push { cls := .type "dict", data := .dict #[] }) scope.names } : Shared) = s4
  have h4 : s4.heap = pushCells (s3.heap.push { cls := .type "dict", data := .dict #[] }) scope.names := by rw [← hs4]
  have eSC : C = S + 1 := by rw [← hC, h3, Heap.size_push, hS]
  have k13 : ∀ b o, s1.heap.get? b = some o → s3.heap.get? b = some o := fun b o e => by rw [h3]; exact Heap.get?_push_of_some _ e
  have k34 : ∀ b o, s3.heap.get? b = some o → s4.heap.get? b = some o := fun b o e => by rw [h4]; exact pushCells_keeps _ _ _ _ (Heap.get?_push_of_some _ e)
  have k14 : ∀ b o, s1.heap.get? b = some o → s4.heap.get? b = some o := fun b o e => k34 b o (k13 b o e)
  have gS : s4.heap.get? S = some (lstObj #[] 0) := k34 _ _ (by rw [h3, ← hS]; exact Heap.get?_push_size _ rfl)
  have gC0 : (s3.heap.push { cls := .type "dict", data := .dict #[] }).get? C = some { cls := .type "dict", data := .dict #[] } := by rw [← hC]; exact Heap.get?_push_size _ rfl
  have gC : s4.heap.get? C = some { cls := .type "dict", data := .dict #[] } := by rw [h4]; exact pushCells_keeps _ _ _ _ gC0
  have nC : s4.heap.Ns C (fun _ => none) := ⟨_, #[], _, gC, rfl, (fun e he => absurd he (by simp)), fun name => rfl⟩
  have sz4 : s1.heap.objs.size ≤ S := Nat.le_of_eq hS
  have szC : s1.heap.objs.size ≤ C := by rw [eSC]; exact Nat.le_succ_of_le sz4
  have sc1 : sc.heap.objs.size ≤ s1.heap.objs.size := Nat.le_trans ha1 (Nat.le_of_lt ha2)
  have scS : sc.heap.objs.size ≤ S := Nat.le_trans sc1 sz4
  have scC : sc.heap.objs.size ≤ C := Nat.le_trans sc1 szC
  have nSC : S ≠ C := by rw [eSC]; exact Nat.ne_of_lt (Nat.lt_succ_self _)
  have nSa : S ≠ a := Nat.ne_of_gt (Nat.lt_of_lt_of_le ha2 sz4)
  have nCa : C ≠ a := Nat.ne_of_gt (Nat.lt_of_lt_of_le ha2 szC)
  have hcl : cStatics < s1.heap.objs.size := let ⟨_, hn, _⟩ := hl; hn.lt
  have nSs : S ≠ cStatics := Nat.ne_of_gt (Nat.lt_of_lt_of_le hcl sz4)
  have nCs : C ≠ cStatics := Nat.ne_of_gt (Nat.lt_of_lt_of_le hcl szC)
  have gens4 : s4.gens = s1.gens := by rw [← hs4, ← hs3]
  have os4 : s4.os = s1.os := by rw [← hs4, ← hs3]
  have ck : ce.kindOf x = some .local := by rw [← hce]; exact lookup_relabel_local hx
  have ckd : ce.scope.kind = .function := by rw [← hce]; exact hkind
  have cL : ce.locals = C := by rw [← hce]; rfl
  have clsF : (ce.scope.kind == .class || (ce.scope.kind == .module && ce.locals != ce.globals)) = false := by rw [ckd]; rfl
  have bareOf : ∀ {t : Shared} {y : GenState}, AllBare t.gens → y.bare = true → AllBare (t.setGen g y).gens := fun h1 h2 => allBare_setGen h1 h2
  have loop : codeAny (model X.prog X.w) X.A (.compLoop (.ListComp (.Name x px2) [⟨.Name x px, iter, [], 0⟩] scope pos) 0 (.ref a) (.ref S) ce) (compPost (model X.prog X.w) X.A X.xe none (fun v s' => ∃ x H1, L2.Inv X pins σ H1 s' ∧ L2.RelV x v ∧ Q x H1) (.ref S) C) s4 := by
    refine compLoop_any (fun n t => t.heap.IsGen a g ∧ t.heap.NoLimit ∧ (∃ m, t.heap.Ns C m) ∧ ∃ gs, t.gens[g]? = some gs ∧ gs.Goes (model X.prog X.w) X.A.in1 (NEnd X.prog X.w X.stack H1 sc S C fun out H2 => ∀ p, H2 p = none → Q (.ref p) (upd H2 p (.lst out))) (NItem sc S C a g) n (.send .none) (t.setGen g .running)) ?_ sizeLine ?_
    rotate_left
    · refine ⟨hg.keeps k14, hl.keeps k14, ⟨_, nC⟩, .fresh c, by rw [gens4]; exact hgs, rfl, ?_⟩
      refine wake X.A.in1 S C (s4.setGen g .running) hr.in1 I1.ok.frames sz4 szC nSC k14 ⟨0, gS⟩ ⟨_, gC, fun v q => nomatch q⟩ (os4.trans hos) (bareOf (by rw [gens4]; exact hb) rfl)
    · rintro n t ⟨tg1, tl, ⟨m, tn⟩, gs, tgs, tgo⟩
      refine gen_turn hr.hd (by have := hr.dp; omega) nSa nCa nSC nSs nCs tl tg1 tgs tgo (fun s₁ hp h' hk => ?_) (fun v s₁ gs' l1 g1 gz kC hbare ⟨acc, cc, hS1, hlt⟩ hk => ?_)
      · obtain ⟨eC, H', ys, acc, cc, os1, hb1, un, hok, hSn, hCn, hS1, hv, hle, hQ⟩ := hp
        have I3 := I1.drained (s' := { s₁.setGen g .finished with heap := h' }) scS hle (hk _ _ hS1) hv ExOk.nil os1 (bareOf hb1 rfl) (un.trans (Un.kept hk)) (hok.kept hk) hSn
        have hCn2 : (upd H' S (.lst ys)) C = none := by rw [upd_ne nSC.symm]; exact hCn
        obtain ⟨f0, f1, f2, f3, f4, f5⟩ := I1.fpOk scC hCn2
        refine ⟨m, tn.at' fun o e => hk _ _ (eC.trans e), fun h3 sb => ⟨.ref S, upd H' S (.lst ys), I3.turned (t' := s₁.toks) (fun b o hb e => (sb.2 b hb).trans e) f0 f1 f3 f4 f5, rfl, hQ S hSn⟩⟩
      · have tn1 : (s₁.setGen g gs').heap.Ns ce.locals m := by rw [cL]; exact tn.at' kC
        show wpAny _ _ (letOwnedTupleGo (.Name x px) (.ref a) v) _ _ _
        unfold letOwnedTupleGo
        refine wpAny_pure ?_
        refine wpAny_assign_Name (wpAny_storeName_local ck tn1 (fun h1 hn1 sb1 => ?_) clsF)
        refine wpAny_tests_nil ?_
        rw [if_pos rfl, eval_Name _ x px2 hdb]
        refine wpAny_bind (wpAny_standAt (wpAny_loadName_local ckd ck hn1 (if_pos rfl) ?_))
        rw [cL] at sb1 hn1
        have eS1 : h1.get? S = some (lstObj acc cc) := (sb1.2 S nSC).trans hS1
        refine append_at (D := S) (its := acc) (n := cc) eS1 (fun h2 sb2 ho2 => ?_) (Nat.le_of_lt hlt)
        have k2 : ∀ b o, b ≠ S → b ≠ C → s₁.heap.get? b = some o → h2.get? b = some o := fun b o n1 n2 e => (sb2.2 b n1).trans ((sb1.2 b n2).trans e)
        have hn2 := hn1.sameBut sb2 nSC.symm
        obtain ⟨m', hm, hgo⟩ := hk ({ s₁.setGen g gs' with heap := h2, toks := s₁.toks + 1 }.setGen g .running) ⟨rfl, bareOf (t := { s₁.setGen g gs' with heap := h2, toks := s₁.toks + 1 }) hbare rfl, k2, fun acc2 c2 e2 => by
          rw [hS1] at e2
          cases e2
          exact ⟨cc + 1, ho2⟩, by
          obtain ⟨o, es, ep, e, d, _⟩ := hn2
          exact ⟨o, e, fun v q => by rw [d] at q; cases q⟩⟩
        refine ⟨m', hm, ?_, ?_, ⟨_, hn2⟩, gs', setGen_at gz, hgo⟩
        · obtain ⟨o, nm, qn, ho, r⟩ := g1
          exact ⟨o, nm, qn, k2 a o nSa.symm nCa.symm ho, r⟩
        · obtain ⟨mc, hns, hnn⟩ := l1
          exact ⟨mc, hns.at' fun o e => k2 _ o nSs.symm nCs.symm e, hnn⟩
  exact codeAny_compStart_list loop (wpAny_pyIter_gen (hg.keeps k14) loop)
end LF

set_option Elab.async false
set_option linter.all false
set_option maxRecDepth 100000
set_option maxHeartbeats 4000000
namespace LF
open PySem PySem.Spec PyProof.Rows L2 GenW
def tMethC (C : Addr) (m : Str) (sp : SpH) (ta : TE) : TGen := fun σ H cont => ta σ H fun x H1 => ∃ a dx fs, x = .ref a ∧ H1 a = some (.ins C dx fs) ∧ fs.lookup m = none ∧ sp [x] H1 cont
/-- o.m(), m a generator method -/
theorem pgenC_meth {X : Cx} {k : Nat} {o : Expr} {ta : TE} {C f : Addr} {m : Str} {fd : FuncData} {apos pos' : Pos} {pl : Sem Bool} {px : Str} {sp : SpH} (he : PE X o ta) (c : Cls X.K C) (hm : Meth X.K C m f) (F : GFnC X.prog X.w X.K X.mg X.base k f fd [px] sp) (hr : Room k X.A) (hb : Binds X.K fd [px] [])
    (ht : eval (.Call (.Attribute o m apos) [] [] pos') X.env = (do
      let ov ← eval o X.env
      standAt apos.atName
      let (f, first) ← holding [ov] (getMethod ov m pl)
      callWith pos' f first (backTo pos' (starEach [] X.env)) (backToKw pos' (keywordEach [] X.env))) := by rfl) :
    PGenC X k (.Call (.Attribute o m apos) [] [] pos') (tMethC C m sp ta) := by
  refine ⟨fun pins s σ H cont I h => ?_⟩
  refine PySem.W.methodCall_KW (pl := pl) (thn (he.run pins s σ H _ I h) fun u s1 ⟨x, H1, I1, rx, a, dx, fs, ex, ea, l, q⟩ => ?_) ht
  subst ex
  obtain rfl : u = Value.ref a := rx
  refine getmeth_ok I1 ea c hm l ?_
  refine PySem.W.callWith_K0 (first := [.ref a]) I1.kIn hm.kp ?_
  have b' := hb s1 [.ref a] I1.kIn rfl
  rw [List.append_nil] at b'
  refine wpAny_call (codeAny_mono (F.run X.A X.stack s1 H1 ⟨[.ref a], []⟩ [.ref a] [.ref a] cont hr I1.env0 b' (.cons rfl .nil) q) fun r s' hq => ?_)
  cases r with
  | error e => exact hq.elim
  | ok fl =>
    cases fl with
    | ret u => exact ⟨H1, s1, I1, hq⟩
    | next => exact hq.elim
    | brk => exact hq.elim
    | cont => exact hq.elim
end LF

set_option Elab.async false
set_option linter.all false
set_option maxRecDepth 100000
set_option maxHeartbeats 4000000
namespace K5
open PySem PySem.Spec PyProof.Rows L2 LF
abbrev s_items : Stmt := inClass s_Package 7
theorem gs_items : GScope ["self", "path"] ["self"] (defScope s_items) := ⟨rfl, rfl, rfl, by decide +kernel, rfl, by decide +kernel, by decide +kernel⟩
/-- the pairs at these addresses are the entries -/
def Prs (H : Hp) (ps : List Addr) (es : List (Str × V)) : Prop := Paired (fun a (e : Str × V) => H a = some (.tup [.str e.1, e.2])) ps es
theorem Prs.mono {H H' : Hp} (s : ∀ a xs, H a = some (.tup xs) → H' a = some (.tup xs)) : ∀ {ps : List Addr} {es : List (Str × V)}, Prs H ps es → Prs H' ps es
  | [], [], .nil => .nil
  | _ :: _, _ :: _, .cons a r => .cons (s _ _ a) (Prs.mono s r)
theorem Prs.snoc {H : Hp} {a : Addr} {e : Str × V} (h : H a = some (.tup [.str e.1, e.2])) : ∀ {ps : List Addr} {es : List (Str × V)}, Prs H ps es → Prs H (ps ++ [a]) (es ++ [e])
  | [], [], .nil => .cons h .nil
  | _ :: _, _ :: _, .cons a r => .cons a (Prs.snoc h r)
def spItems (C : Addr) : SpH := fun vs H Q => ∃ p es, vs = [.ref p] ∧ PkAt C H p es ∧ OkE es ∧ es.length ≤ 1000 ∧ ∀ H' ps, Same H H' → Prs H' ps es → Q (ps.map V.ref) H'
section
variable {P : Program} {w : World} {K : PySem.W.Frag} {mg : Str → Option Value} {base : Heap} {tk1 tk2 : Tok}
theorem ok_items {f C : Addr} {fd : FuncData} (F : Fun K "items" "Package.items" s_items f fd) (R : PkTxt K mg C) : GFnC P w K mg base 2 f fd ["self"] (spItems C) := by
  obtain ⟨oc, od, kV, doc, pm, an, cdv, ct, osl, rfl, lk, hcd⟩ := F.ex
  refine gfnC_of (k := 1) lk hcd gs_items (fun n => rfl) (fun vs H Q h => ?_) (fun A outer s H vs Q pn hr h => ?_)
  · obtain ⟨p, es, rfl, _⟩ := h
    rfl
  obtain ⟨p, es, rfl, ⟨dx, d, ⟨xx_hp, hp, zz_hp⟩, hd⟩, ok, hl, hq⟩ := h
  have hu1 := hu_of hr
  refine ⟨d, .dK (kv es), _, _, _, pi_keys (pe_fld (pv 0) rfl), pg_name (i := 1) gs_items.nd rfl (Or.inl rfl), pe_tup (pa_cons (pv 1) (pa_cons (pe_dget hu1 (show PE _ _ (tFld K (tVar 0) "entries") from pe_fld (pv 0) rfl) (pv 1) (fun _ _ => rfl)) pa_nil)), (by intro _; rfl), hd, True.intro, fun od => ?_⟩
  have npd : p ≠ d := ne_of hp hd (by intro z; cases z)
  have hbig := sizeLine_big
  have hkl : (kv es).length = es.length := kv_length es
  refine ⟨_, rfl, p, C, dx, _, _, rfl, (by rw [upd_ne npd]; exact hp), R.cl, R.nE, lk_entries d, ?_⟩
  refine ⟨d, od, rfl, Or.inl ⟨kv es, upd_same, ?_⟩⟩
  have hl0 : (upd H d (.frz od (.dK (kv es)))) d = some (.frz od (.dK (kv es))) := upd_same
  have hp0 : (upd H d (.frz od (.dK (kv es)))) p = some (.ins C dx (pkFs d xx_hp)) := by rw [upd_ne npd]; exact hp
  have hs0 : ∀ H', Same (upd H d (.frz od (.dK (kv es)))) H' → Same H (upd H' d (.dK (kv es))) := fun H' s' => same_unlock hd s'
  generalize (upd H d (.frz od (.dK (kv es)))) = L at hl0 hp0 hs0
  refine ⟨(kv es).length, fun i ys σ H' => ∃ v1 ps, σ = [some (.ref p), v1] ∧ Same L H' ∧ ys = ps.map V.ref ∧ ps.length = i ∧ Prs H' ps (es.take i), by omega, ⟨_, [], rfl, Same.refl L, rfl, rfl, .nil⟩, ?_, ?_, ?_⟩
  · rintro i ys σ H' ⟨v1, ps, _, _, rfl, hl2, _⟩
    rw [List.length_map]; exact hl2
  · rintro i ys σ H' hi ⟨v1, ps, rfl, sm, rfl, hl2, pr⟩
    have hlk := sm _ _ hl0
    refine ⟨walk_keys.goes i H' hi hlk, fun x H2 hy => ?_⟩
    obtain ⟨rfl, k, v, hk, rfl⟩ := walk_keys.yields i H' x H2 hi hlk hy
    obtain ⟨pth, rfl, he, hm⟩ := kv_get hk
    have hv := val_mem ok.nd hm
    have hg : DGet H2 d (.str pth) (some v) := .inl ⟨kv es, .inr pth, .inr ⟨od, hlk⟩, rfl, hv.symm⟩
    refine ⟨_, rfl, _, rfl, p, C, dx, _, _, rfl, sm _ _ hp0, R.cl, R.nE, lk_entries d, ?_⟩
    refine ⟨_, rfl, d, v, rfl, hg, (by show 2 ≤ sizeLine; decide), fun q hq2 => ?_⟩
    have et : es.take (i + 1) = es.take i ++ [(pth, v)] := by rw [List.take_add_one, he]; rfl
    refine ⟨_, ps ++ [q], rfl, sm.trans (same_new hq2), by rw [List.map_append]; rfl, by rw [List.length_append, hl2]; rfl, ?_⟩
    rw [et]
    exact Prs.snoc (e := (pth, v)) upd_same (pr.mono fun a xs h => same_new hq2 _ _ h)
  · rintro ys σ H' ⟨v1, ps, rfl, sm, rfl, hl2, pr⟩
    have hlk := sm _ _ hl0
    refine ⟨walk_keys.stops H' hlk, hlk, hq _ ps (hs0 _ sm) ?_⟩
    rw [hkl, List.take_length] at pr
    exact pr.mono fun a xs h => by rw [upd_ne (fun e => by rw [e, hlk] at h; cases h)]; exact h
end
end K5

set_option Elab.async false
set_option linter.all false
set_option maxRecDepth 100000
set_option maxHeartbeats 4000000
namespace K5
open PySem PySem.Spec PyProof.Rows L2 LF TL
theorem upper_asc : ((List.range 128).all fun c => (Unicode.upperOf c).all fun d => decide (d < 128)) = true := by decide +kernel
theorem asc_upper {z : Str} (h : Asc z) : Asc (PySem.Txt.upper z) := by
  intro c hc
  unfold PySem.Txt.upper placed at hc
  have hc2 := Array.mem_toList_iff.mp hc
  rw [Array.mem_flatten] at hc2
  obtain ⟨xs, hx, hcx⟩ := hc2
  obtain ⟨i, hi, rfl⟩ := Array.mem_iff_getElem.mp hx
  rw [Array.getElem_mapIdx] at hcx
  have hcz : z.cps[i]'(by simpa using hi) ∈ z.cps.toList := Array.mem_toList_iff.mpr (Array.getElem_mem _)
  have h1 := List.all_eq_true.mp upper_asc _ (List.mem_range.mpr (h _ hcz))
  have h2 := List.all_eq_true.mp h1 c (by simpa using hcx)
  exact of_decide_eq_true h2
theorem len_upper (z : Str) : (PySem.Txt.upper z).length ≤ 3 * z.length := by
  show (placed z fun _ c => Unicode.upperOf c).size ≤ 3 * z.cps.size
  unfold placed
  exact StrLaws.placedRaw_le3 z.cps (fun _ c => Unicode.upperOf c) fun _ c => StrLaws.upperOf_le3 c
theorem asc_app {x y : Str} (hx : Asc x) (hy : Asc y) : Asc (x ++ y) := fun c hc => by
  have hc' : c ∈ tl (x ++ y) := hc
  rw [tl_append x y] at hc'
  exact (List.mem_append.mp hc').elim (hx c) (hy c)
theorem asc_nm {z : Str} (h : isNm z = true) : Asc z := fun c hc => by
  have h1 := (isNm_iff.mp h).2 c hc
  have h2 : ∀ d ∈ letters.cps.toList, d < 128 := by decide +kernel
  exact h2 c h1
theorem asc_join : ∀ {ns : List Str}, (∀ n ∈ ns, Asc n) → Asc (jn ns) := by
  intro ns h c hc
  have hc1 : c ∈ tl (PySem.Txt.join c_sl ns) := hc
  rw [join_eq, tl_join] at hc1
  clear hc
  induction ns with
  | nil => exact nomatch hc1
  | cons a l ih =>
    cases l with
    | nil => exact h a List.mem_cons_self c hc1
    | cons b l =>
      have h3 : c ∈ tl a ++ (tl c_sl ++ joinL (tl c_sl) ((b :: l).map tl)) := hc1
      rcases List.mem_append.mp h3 with q | q
      · exact h a List.mem_cons_self c q
      · rcases List.mem_append.mp q with q | q
        · have h2 : ∀ d ∈ tl c_sl, d < 128 := by decide +kernel
          exact h2 c q
        · exact ih (fun n hn => h n (List.mem_cons_of_mem _ hn)) q
theorem join_le {m : Nat} {ns : List Str} (h : ∀ n ∈ ns, n.length ≤ m) : (jn ns).length ≤ (m + 1) * ns.length := by
  show (PySem.Txt.join c_sl ns).length ≤ _
  rw [len_tl, join_eq, tl_join, tl_sl]
  induction ns with
  | nil => exact Nat.zero_le _
  | cons a l ih =>
    have h1 := h a List.mem_cons_self
    rw [len_tl] at h1
    cases l with
    | nil =>
      show (tl a).length ≤ (m + 1) * 1
      omega
    | cons b l =>
      have h2 := ih fun n hn => h n (List.mem_cons_of_mem _ hn)
      show (tl a ++ ([47] ++ joinL [47] ((b :: l).map tl))).length ≤ (m + 1) * ((b :: l).length + 1)
      rw [List.length_append, List.length_append, Nat.mul_add, List.length_singleton]
      omega
end K5

set_option Elab.async false
set_option linter.all false
set_option maxRecDepth 100000
set_option maxHeartbeats 4000000
namespace K5
open PySem PySem.Spec PyProof.Rows L2 LF TL
theorem merge_new : ∀ (es a : List (Str × V)), ((a ++ es).map (·.1)).Nodup → mergeK (kv a) (kv es) = kv (a ++ es)
  | [], a, _ => by rw [List.append_nil]; rfl
  | e :: es, a, h => by
    have e1 : a ++ e :: es = (a ++ [e]) ++ es := by rw [List.append_assoc]; rfl
    rw [e1] at h ⊢
    have hne : e.1 ∉ a.map (·.1) := fun hm => by
      rw [List.map_append, List.map_append, List.nodup_append] at h
      have h2 := h.1
      rw [List.nodup_append] at h2
      exact h2.2.2 _ hm _ (List.mem_singleton_self _) rfl
    rw [← merge_new es (a ++ [e]) h]
    have e2 : putK (kv a) (.inr e.1) e.2 = kv (a ++ [e]) := by
      rw [putK_new _ (val_no hne)]
      unfold kv
      rw [List.map_append]; rfl
    rw [← e2]; rfl
/-- plain things that the law writes -/
def AtS (x : V) : Prop := x = .non ∨ (∃ t, x = .bl t) ∨ (∃ i : Int, x = .int i ∧ -1000000000000 ≤ i ∧ i ≤ 1000000000000) ∨ ∃ z : Str, x = .str z ∧ Asc z ∧ z.length ≤ 1000
/-- things that are no items -/
def Emp (H : Hp) (a : Addr) : Prop := (H a = some (.lst []) ∧ (a == sysModules) = false) ∨ H a = some (.tup []) ∨ H a = some (.dK []) ∨ H a = some (.tup [.non])
def ItS (b g : Addr) (H : Hp) (x : V) : Prop := AtS x ∨ ∃ a, x = .ref a ∧ a ≠ b ∧ a ≠ g ∧ Emp H a
structure EntS (b g : Addr) (H : Hp) (m n : Nat) (es : List (Str × V)) : Prop where
  ka : ∀ e ∈ es, Asc e.1 ∧ e.1.length ≤ m
  it : ∀ e ∈ es, ItS b g H e.2
  nd : (es.map (·.1)).Nodup
  len : es.length ≤ n
theorem Emp.to {H H' : Hp} {a : Addr} (h : Emp H a) (k : ∀ o, H a = some o → H' a = some o) : Emp H' a := by
  rcases h with h | h | h | h
  · exact Or.inl ⟨k _ h.1, h.2⟩
  · exact Or.inr (Or.inl (k _ h))
  · exact Or.inr (Or.inr (Or.inl (k _ h)))
  · exact Or.inr (Or.inr (Or.inr (k _ h)))
theorem ItS.keep {b g : Addr} {H H' : Hp} {x : V} (h : ItS b g H x) (k : Keep b H H') : ItS b g H' x := by
  rcases h with h | ⟨a, h1, h2, h3, h4⟩
  · exact Or.inl h
  · exact Or.inr ⟨a, h1, h2, h3, h4.to fun o e => k a o h2 e⟩
theorem ItS.put {b g : Addr} {H : Hp} {o : HO} {x : V} (h : ItS b g H x) : ItS b g (upd H g o) x := by
  rcases h with h | ⟨a, h1, h2, h3, h4⟩
  · exact Or.inl h
  · exact Or.inr ⟨a, h1, h2, h3, h4.to fun o e => by rw [upd_ne h3]; exact e⟩
theorem EntS.keep {b g : Addr} {H H' : Hp} {m n : Nat} {es : List (Str × V)} (h : EntS b g H m n es) (k : Keep b H H') : EntS b g H' m n es := ⟨h.ka, fun e he => (h.it e he).keep k, h.nd, h.len⟩
/-- one more entry, or another item -/
theorem EntS.put2 {b g : Addr} {H : Hp} {m n m2 : Nat} {es : List (Str × V)} {p : Str} {v : V} (h : EntS b g H m n es) (hp : Asc p) (hl : p.length ≤ m2) (hm : m ≤ m2) (hv : ItS b g H v) :
    ∃ es2, putK (kv es) (.inr p) v = kv es2 ∧ EntS b g (upd H g (.dK (kv es2))) m2 (n + 1) es2 ∧ es.length ≤ es2.length ∧ (p ∉ es.map Prod.fst → es2.length = es.length + 1) ∧ ∀ x ∈ es2.map Prod.fst, x ∈ es.map Prod.fst ∨ x = p := by
  have pv : ∀ o, ItS b g (upd H g o) v := fun o => hv.put
  have pe : ∀ o, ∀ e ∈ es, ItS b g (upd H g o) e.2 := fun o e he => (h.it e he).put
  cases hx : valV (kv es) (.inr p) with
  | none =>
    refine ⟨es ++ [(p, v)], ?_, ⟨fun e he => ?_, fun e he => ?_, ?_, ?_⟩, ?_, fun _ => ?_, fun x hx => ?_⟩
    · rw [putK_new _ hx]
      unfold kv
      rw [List.map_append]; rfl
    · rcases List.mem_append.mp he with h1 | h1
      · exact ⟨(h.ka e h1).1, Nat.le_trans (h.ka e h1).2 hm⟩
      · rw [List.mem_singleton.mp h1]; exact ⟨hp, hl⟩
    · rcases List.mem_append.mp he with h1 | h1
      · exact pe _ e h1
      · rw [List.mem_singleton.mp h1]; exact pv _
    · rw [List.map_append, List.map_cons, List.map_nil, List.nodup_append]
      refine ⟨h.nd, by simp, fun x hx2 y hy e => ?_⟩
      rw [List.mem_singleton.mp hy] at e
      have e' : x = p := e
      rw [e'] at hx2
      obtain ⟨w, hw⟩ := key_val hx2
      rw [hx] at hw; cases hw
    · rw [List.length_append, List.length_singleton]
      have := h.len
      omega
    · rw [List.length_append]; omega
    · rw [List.length_append, List.length_singleton]
    · rw [List.map_append] at hx
      rcases List.mem_append.mp hx with h1 | h1
      · exact Or.inl h1
      · exact Or.inr (List.mem_singleton.mp h1)
  | some w =>
    have ekeys : (es.map fun e => if e.1 = p then (e.1, v) else e).map Prod.fst = es.map Prod.fst := by
      rw [List.map_map]
      refine List.map_congr_left fun e he => ?_
      by_cases h1 : e.1 = p
      · simp [h1]
      · simp [h1]
    refine ⟨es.map fun e => if e.1 = p then (e.1, v) else e, ?_, ⟨fun e he => ?_, fun e he => ?_, ?_, ?_⟩, by rw [List.length_map]; exact Nat.le_refl _, fun hno => ?_, fun x hx => Or.inl (by rw [ekeys] at hx; exact hx)⟩
    · unfold putK
      rw [valV_any, hx]
      refine (if_pos rfl).trans ?_
      unfold kv
      rw [List.map_map, List.map_map]
      refine List.map_congr_left fun e he => ?_
      by_cases h1 : e.1 = p
      · simp [h1]
      · simp [h1]
    · obtain ⟨e0, he0, rfl⟩ := List.mem_map.mp he
      have h1 := h.ka e0 he0
      by_cases h2 : e0.1 = p
      · rw [if_pos h2]; exact ⟨h1.1, Nat.le_trans h1.2 hm⟩
      · rw [if_neg h2]; exact ⟨h1.1, Nat.le_trans h1.2 hm⟩
    · obtain ⟨e0, he0, rfl⟩ := List.mem_map.mp he
      by_cases h2 : e0.1 = p
      · rw [if_pos h2]; exact pv _
      · rw [if_neg h2]; exact pe _ e0 he0
    · have e : (es.map fun e => if e.1 = p then (e.1, v) else e).map (·.1) = es.map (·.1) := by
        rw [List.map_map]
        refine List.map_congr_left fun e he => ?_
        by_cases h1 : e.1 = p
        · simp [h1]
        · simp [h1]
      rw [e]; exact h.nd
    · rw [List.length_map]
      have := h.len
      omega
    · have h1 : (valV (kv es) (.inr p)).isSome = true := by rw [hx]; rfl
      exact absurd (val_key hx) hno
theorem EntS.put {b g : Addr} {H : Hp} {m n m2 : Nat} {es : List (Str × V)} {p : Str} {v : V} (h : EntS b g H m n es) (hp : Asc p) (hl : p.length ≤ m2) (hm : m ≤ m2) (hv : ItS b g H v) :
    ∃ es2, putK (kv es) (.inr p) v = kv es2 ∧ EntS b g (upd H g (.dK (kv es2))) m2 (n + 1) es2 := by
  obtain ⟨es2, h1, h2, _⟩ := h.put2 hp hl hm hv
  exact ⟨es2, h1, h2⟩
/-- one entry fewer -/
theorem EntS.drop {b g : Addr} {H : Hp} {m n : Nat} {es : List (Str × V)} {p : Str} (h : EntS b g H m n es) :
    ∃ es2, dropK (kv es) (.inr p) = kv es2 ∧ EntS b g (upd H g (.dK (kv es2))) m n es2 ∧ es.length ≤ es2.length + 1 ∧ ∀ q v, (q, v) ∈ es → q ≠ p → (q, v) ∈ es2 := by
  refine ⟨es.filter fun e => decide (e.1 ≠ p), ?_, ⟨fun e he => h.ka e (List.mem_filter.mp he).1, fun e he => (h.it e (List.mem_filter.mp he).1).put, ?_, Nat.le_trans (List.length_filter_le _ _) h.len⟩, ?_, fun q v hm hne => List.mem_filter.mpr ⟨hm, decide_eq_true hne⟩⟩
  · unfold dropK kv
    rw [List.filter_map]
    congr 1
    refine List.filter_congr fun e _ => ?_
    simp
  · exact (List.Sublist.map Prod.fst List.filter_sublist).nodup h.nd
  · have h2 : ((es.map Prod.fst).filter fun x => decide (x ≠ p)).length = (es.filter fun e => decide (e.1 ≠ p)).length := by
      rw [List.filter_map, List.length_map]; rfl
    have h3 : (es.map Prod.fst).erase p = (es.map Prod.fst).filter (fun x => x != p) := List.Nodup.erase_eq_filter h.nd p
    have h4 : ((es.map Prod.fst).filter fun x => decide (x ≠ p)) = (es.map Prod.fst).filter (fun x => x != p) := by
      refine List.filter_congr fun x _ => ?_
      by_cases hx : x = p
      · simp [hx]
      · simp [hx]
    rw [h4, ← h3] at h2
    have h5 := List.length_erase (a := p) (l := es.map Prod.fst)
    rw [List.length_map] at h5
    by_cases hm : p ∈ es.map Prod.fst
    · rw [if_pos hm] at h5; omega
    · rw [if_neg hm] at h5; omega
theorem AtS.plain {x : V} (h : AtS x) : (Plain x ∨ ∃ t, x = .bl t) ∧ ItA x := by
  rcases h with rfl | ⟨t, rfl⟩ | ⟨i, rfl, _⟩ | ⟨z, rfl, h1, h2⟩
  · exact ⟨Or.inl (Or.inl rfl), fun z e => (nomatch e)⟩
  · exact ⟨Or.inr ⟨t, rfl⟩, fun z e => (nomatch e)⟩
  · exact ⟨Or.inl (Or.inr (Or.inl ⟨i, rfl⟩)), fun z e => (nomatch e)⟩
  · exact ⟨Or.inl (Or.inr (Or.inr ⟨z, rfl, by omega⟩)), fun y e => by cases e; exact ⟨h1, h2⟩⟩
theorem ItS.plainX {b g : Addr} {H : Hp} {x : V} (h : ItS b g H x) : PlainX H x ∧ ItA x := by
  rcases h with h | ⟨a, rfl, _, _, h4⟩
  · rcases h.plain.1 with h1 | h1
    · exact ⟨Or.inl h1, h.plain.2⟩
    · exact ⟨Or.inr (Or.inl h1), h.plain.2⟩
  · refine ⟨Or.inr ?_, fun z e => (nomatch e)⟩
    rcases h4 with h | h | h | h
    · exact Or.inr (Or.inl ⟨_, _, rfl, h.1⟩)
    · exact Or.inr (Or.inr (Or.inl ⟨_, _, rfl, h⟩))
    · exact Or.inr (Or.inr (Or.inr ⟨_, _, rfl, h⟩))
    · exact Or.inr (Or.inr (Or.inl ⟨_, _, rfl, h⟩))
theorem EntS.entA {b g : Addr} {H : Hp} {m n : Nat} {es : List (Str × V)} (h : EntS b g H m n es) (hm : m ≤ 1000) (hn : n ≤ 100) : EntA H es :=
  ⟨⟨fun e he => Nat.le_trans (h.ka e he).2 (by omega), fun e he => (h.it e he).plainX.1, h.nd, by have := h.len; omega⟩, fun e he => ⟨(h.ka e he).1, Nat.le_trans (h.ka e he).2 hm⟩, fun e he => (h.it e he).plainX.2, by have := h.len; omega⟩
end K5

set_option Elab.async false
set_option linter.all false
set_option maxRecDepth 100000
set_option maxHeartbeats 4000000
namespace K5
open PySem PySem.Spec PyProof.Rows L2 LF TL
/-- the data of a thing that the law writes -/
def hoD : Option HO → PyData
  | some (.lst _) => .list []
  | some (.tup []) => .tuple []
  | some (.tup _) => .tuple [.none]
  | some (.dK _) => .dict []
  | _ => .none
def oxD (H : Hp) : V → PyData
  | .ref a => hoD (H a)
  | .bl b => .bool b
  | .int i => .int i
  | .str x => .str x
  | _ => .none
def entD (H : Hp) (es : List (Str × V)) : PyData := .dict (es.map fun e => (.str e.1, oxD H e.2))
theorem ItS.dsame {b g : Addr} {H H' : Hp} {x : V} (h : ItS b g H x) (s : Same H H') : oxD H' x = oxD H x := by
  rcases h with (rfl | ⟨t, rfl⟩ | ⟨i, rfl, _⟩ | ⟨z, rfl, _⟩) | ⟨a, rfl, _, _, h | h | h | h⟩
  · rfl
  · rfl
  · rfl
  · rfl
  · show hoD (H' a) = hoD (H a)
    rw [h.1, s _ _ h.1]
  · show hoD (H' a) = hoD (H a)
    rw [h, s _ _ h]
  · show hoD (H' a) = hoD (H a)
    rw [h, s _ _ h]
  · show hoD (H' a) = hoD (H a)
    rw [h, s _ _ h]
theorem entD_same {H H' : Hp} {es : List (Str × V)} (h : ∀ e ∈ es, ∃ b g, ItS b g H e.2) (s : Same H H') : entD H' es = entD H es := by
  unfold entD
  congr 1
  refine List.map_congr_left fun e he => ?_
  obtain ⟨b, g, h1⟩ := h e he
  rw [h1.dsame s]
theorem reads_ox {X : Cx} {pins : List (Addr × Obj)} {σ : L2.St} {H : Hp} {s : Shared} (I : Inv X pins σ H s) {b g : Addr} {x : V} {u : Value} (h : ItS b g H x) (r : RelV x u) : ∃ as, Reads s.heap u (oxD H x) as ∧ sysModules ∉ as := by
  rcases h with (rfl | ⟨t, rfl⟩ | ⟨i, rfl, _⟩ | ⟨z, rfl, _⟩) | ⟨a, rfl, _, _, h | h | h | h⟩
  · cases r; exact ⟨_, Reads.none, fun h => nomatch h⟩
  · cases r; exact ⟨_, Reads.bool t, fun h => nomatch h⟩
  · obtain ⟨t, rfl⟩ := r; exact ⟨_, Reads.int i t, fun h => nomatch h⟩
  · obtain ⟨t, rfl⟩ := r; exact ⟨_, Reads.str z t, fun h => nomatch h⟩
  · cases r
    obtain ⟨hl, hne⟩ := h
    have e : oxD H (.ref a) = .list [] := by show hoD (H a) = _; rw [hl]; rfl
    rw [e]
    obtain ⟨z, its, n, r, hlen, e⟩ := I.lstM hl
    cases r
    refine ⟨_, Reads.list e rfl rfl ReadsAll.nil, fun hm => ?_⟩
    have : sysModules = a := by simpa using hm
    rw [this] at hne
    simp at hne
  · cases r
    have e : oxD H (.ref a) = .tuple [] := by show hoD (H a) = _; rw [h]; rfl
    rw [e]
    obtain ⟨its, rv, ⟨o, ho, hcls, n, hd⟩, _⟩ := I.tuple (SqT.of h)
    cases rv
    exact ⟨_, Reads.tuple ho hcls hd ReadsAll.nil, fun h => nomatch h⟩
  · cases r
    have e : oxD H (.ref a) = .dict [] := by show hoD (H a) = _; rw [h]; rfl
    rw [e]
    obtain ⟨rd, lo⟩ := reads_dict I.hok h (fun _ h => (nomatch h))
    refine ⟨_, rd, fun hm => ?_⟩
    have : sysModules = a := by simpa using hm
    rw [this] at lo
    simp at lo
  · cases r
    have e : oxD H (.ref a) = .tuple [.none] := by show hoD (H a) = _; rw [h]; rfl
    rw [e]
    obtain ⟨its, rv, ⟨o, ho, hcls, n, hd⟩, _⟩ := I.tuple (SqT.of h)
    cases rv with
    | cons r1 rv =>
      cases rv
      cases r1
      exact ⟨_, Reads.tuple ho hcls hd (ReadsAll.cons Reads.none ReadsAll.nil), fun h => nomatch h⟩
theorem reads_pairsX {X : Cx} {pins : List (Addr × Obj)} {σ : L2.St} {H : Hp} {s : Shared} (I : Inv X pins σ H s) {P : Program} {w : World} : ∀ {es : List DictEntry} {vs : List (Key × Value)} {kvs : List (Key × V)}, Pairs (mixKind P w) es vs → KV kvs vs → (∀ q ∈ kvs, ∃ b g, ItS b g H q.2) →
    ReadsAll s.heap (es.map (·.key)) (kvs.map fun q => kD q.1) [] ∧ ∃ bs, ReadsAll s.heap (es.map (·.val)) (kvs.map fun q => oxD H q.2) bs ∧ sysModules ∉ bs
  | _, _, _, .nil, .nil, _ => ⟨.nil, _, .nil, fun h => nomatch h⟩
  | _, _, _, .cons (e := e) (kv := kv) h1 h2 t, .cons (a := q) r rs, ha => by
    obtain ⟨i1, bs, i2, i3⟩ := reads_pairsX I t rs fun q hq => ha q (List.mem_cons_of_mem _ hq)
    obtain ⟨e1, e2⟩ := r
    have k1 : Reads s.heap e.key (kD q.1) [] := by rw [e1]; exact reads_key h1
    obtain ⟨b, g, hi⟩ := ha q List.mem_cons_self
    obtain ⟨as, k2, k3⟩ := reads_ox I hi e2
    rw [← h2] at k2
    exact ⟨ReadsAll.cons k1 i1, _, ReadsAll.cons k2 i2, fun hm => (List.mem_append.mp hm).elim k3 i3⟩
/-- repr of such entries -/
def rReprE : List V → Hp → VK → Prop := fun xs H Q => ∃ (p : Addr) (es : List (Str × V)), xs = [.ref p] ∧ H p = some (.dK (kv es)) ∧ (∀ e ∈ es, ∃ b g, ItS b g H e.2) ∧
  (entD H es).showable = true ∧ (entD H es).depth ≤ 60 ∧ (entD H es).shown.length ≤ sizeLine ∧ Q (.str (entD H es).shown) H
theorem call_reprE {X : Cx} (gd : X.A.guards = some []) (hu : X.A.units + 64 < cLine) : CallR X (.builtin "repr") rReprE := by
  intro pins s σ H xs us Q I r h
  obtain ⟨p, es, rfl, hp, hi, hs, hdp, hz, q⟩ := h
  rw [Vals.ref1 r]
  obtain ⟨_, lo, vs, rel, o, des, ep, ho, hx, hd, _, hpp, _⟩ := dk_of I.hok hp
  obtain ⟨i1, bs, i2, i3⟩ := reads_pairsX I hpp rel fun q hq => by
    unfold kv at hq
    obtain ⟨e, he, rfl⟩ := List.mem_map.mp hq
    exact hi e he
  have e1 : entD H es = .dict ((kv es).map fun q => (kD q.1, oxD H q.2)) := by
    unfold entD kv
    rw [List.map_map]; rfl
  rw [e1] at hs hdp hz q
  have R : Reads s.heap (.ref p) (.dict ((kv es).map fun q => (kD q.1, oxD H q.2))) (p :: [] ++ bs) := Reads.dict ho hx.1 hd (by rw [List.map_map]; exact i1) (by rw [List.map_map]; exact i2)
  refine repr_of_reads' R hs (fun _ hm => ?_) gd (by omega) (fun _ _ e => e) (fun h' u tk hk => ⟨.str _, H, I.kept (t' := tk) hk, ⟨_, rfl⟩, q⟩) hz
  rcases List.mem_cons.mp hm with h1 | h1
  · rw [← h1] at lo
    simp at lo
  · exact i3 h1
def rReprX (K : PySem.W.Frag) : List V → Hp → VK → Prop := fun xs H Q => rRepr K xs H Q ∨ rReprE xs H Q
theorem call_reprX {X : Cx} (gd : X.A.guards = some []) (hu : X.A.units + 64 < cLine) : CallR X (.builtin "repr") (rReprX X.K) := by
  intro pins s σ H xs us Q I r h
  rcases h with h | h
  · exact call_reprD gd hu pins s σ H xs us Q I r h
  · exact call_reprE gd hu pins s σ H xs us Q I r h
end K5

set_option Elab.async false
set_option linter.all false
set_option maxRecDepth 100000
set_option maxHeartbeats 4000000
namespace K5
open PySem PySem.Spec PyProof.Rows L2 LF TL
theorem asc_leaf {z : Str} (h : Asc z) : (z.cps.toList.all fun c => decide (c < 16 ^ 8)) = true := List.all_eq_true.mpr fun c hc => decide_eq_true (Nat.lt_of_lt_of_le (h c hc) (by decide))
theorem ox_facts {b g : Addr} {H : Hp} {x : V} (h : ItS b g H x) : (oxD H x).showable = true ∧ (oxD H x).leavesShort 16 = true ∧ (oxD H x).bulk ≤ 1001 ∧ (oxD H x).depth ≤ 1 := by
  rcases h with (rfl | ⟨t, rfl⟩ | ⟨i, rfl, h1, h2⟩ | ⟨z, rfl, h1, h2⟩) | ⟨a, rfl, _, _, h | h | h | h⟩
  · show (PyData.none).showable = true ∧ _ ∧ (PyData.none).bulk ≤ 1001 ∧ (PyData.none).depth ≤ 1
    simp [PyData.showable, PyData.leavesShort, PyData.bulk, PyData.depth, oxD]
  · simp [PyData.showable, PyData.leavesShort, PyData.bulk, PyData.depth, oxD]
  · have h3 : i.natAbs < 10 ^ 13 := by omega
    have h4 := int_text_length_le10 (k := 13) (by decide) h3
    have h5 : (PyData.shown (.int i)).length ≤ 16 := by
      show (Str.ofString (toString i)).length ≤ 16
      rw [PySem.ofString_length]; omega
    have h6 : i.natAbs.log2 < 1920 := by
      have : i.natAbs.log2 ≤ 44 := by
        by_cases h0 : i.natAbs = 0
        · rw [h0]; decide
        · have := (Nat.log2_lt (n := i.natAbs) (k := 44) h0).mpr (by omega)
          omega
      omega
    simp [PyData.showable, PyData.leavesShort, PyData.bulk, PyData.depth, oxD, h5, h6]
  · have h3 : z.cps.size ≤ 1000 := h2
    have h4 := asc_leaf h1
    refine ⟨rfl, ?_, ?_, ?_⟩
    · show PyData.leavesShort 16 (.str z) = true
      rw [PyData.leavesShort]; exact h4
    · show PyData.bulk (.str z) ≤ 1001
      rw [PyData.bulk]; omega
    · show PyData.depth (.str z) ≤ 1
      rw [PyData.depth]; omega
  · have e : oxD H (.ref a) = .list [] := by show hoD (H a) = _; rw [h.1]; rfl
    rw [e]; simp [PyData.showable, PyData.showableAll, PyData.leavesShort, PyData.leavesShortAll, PyData.bulk, PyData.bulkAll, PyData.depth, PyData.depthAll]
  · have e : oxD H (.ref a) = .tuple [] := by show hoD (H a) = _; rw [h]; rfl
    rw [e]; simp [PyData.showable, PyData.showableAll, PyData.leavesShort, PyData.leavesShortAll, PyData.bulk, PyData.bulkAll, PyData.depth, PyData.depthAll]
  · have e : oxD H (.ref a) = .dict [] := by show hoD (H a) = _; rw [h]; rfl
    rw [e]; simp [PyData.showable, PyData.showableKv, PyData.leavesShort, PyData.leavesShortKv, PyData.bulk, PyData.bulkKv, PyData.depth, PyData.depthKv]
  · have e : oxD H (.ref a) = .tuple [.none] := by show hoD (H a) = _; rw [h]; rfl
    rw [e]; simp [PyData.showable, PyData.showableAll, PyData.leavesShort, PyData.leavesShortAll, PyData.bulk, PyData.bulkAll, PyData.depth, PyData.depthAll]
theorem kv_facts {b g : Addr} {H : Hp} : ∀ {es : List (Str × V)}, (∀ e ∈ es, (Asc e.1 ∧ e.1.length ≤ 1000) ∧ ItS b g H e.2) →
    PyData.showableKv (es.map fun e => (PyData.str e.1, oxD H e.2)) = true ∧ PyData.leavesShortKv 16 (es.map fun e => (PyData.str e.1, oxD H e.2)) = true ∧ PyData.bulkKv (es.map fun e => (PyData.str e.1, oxD H e.2)) ≤ 2010 * es.length ∧ PyData.depthKv (es.map fun e => (PyData.str e.1, oxD H e.2)) ≤ 1
  | [], _ => by simp [PyData.showableKv, PyData.leavesShortKv, PyData.bulkKv, PyData.depthKv]
  | e :: es, h => by
    obtain ⟨i1, i2, i3, i4⟩ := kv_facts fun e he => h e (List.mem_cons_of_mem _ he)
    obtain ⟨⟨a1, a2⟩, a3⟩ := h e List.mem_cons_self
    obtain ⟨o1, o2, o3, o4⟩ := ox_facts a3
    have h4 := asc_leaf a1
    have h5 : e.1.cps.size ≤ 1000 := a2
    rw [List.map_cons]
    refine ⟨?_, ?_, ?_, ?_⟩
    · rw [PyData.showableKv, i1, o1]; rfl
    · rw [PyData.leavesShortKv, i2, o2, PyData.leavesShort, h4]; rfl
    · rw [PyData.bulkKv, PyData.bulk, List.length_cons]; omega
    · rw [PyData.depthKv, PyData.depth]; omega
theorem ent_rep {b g : Addr} {H : Hp} {m n : Nat} {es : List (Str × V)} {K : PySem.W.Frag} {p : Addr} {Q : VK} (h : EntS b g H m n es) (hm : m ≤ 1000) (hn : n ≤ 100) (hp : H p = some (.dK (kv es))) (hq : Q (.str (entD H es).shown) H) : rReprX K [.ref p] H Q := by
  obtain ⟨f1, f2, f3, f4⟩ := kv_facts (b := b) (g := g) (H := H) (es := es) fun e he => ⟨⟨(h.ka e he).1, Nat.le_trans (h.ka e he).2 hm⟩, h.it e he⟩
  refine Or.inr ⟨p, es, rfl, hp, fun e he => ⟨b, g, h.it e he⟩, ?_, ?_, ?_, hq⟩
  · unfold entD; rw [PyData.showable]; exact f1
  · unfold entD; rw [PyData.depth]; omega
  · have h1 := PyData.shown_le_bulk 16 (by decide) (entD H es) (by unfold entD; rw [PyData.leavesShort]; exact f2)
    have h2 : (entD H es).bulk ≤ 2010 * es.length := by unfold entD; rw [PyData.bulk]; exact f3
    have h3 := h.len
    have h4 : (2 : Nat) ^ 24 = sizeLine := rfl
    have h5 : (2 : Nat) ^ 24 = 16777216 := by decide
    omega
theorem bad_key {es : List (Str × V)} {p : Str} (h : firstBad es = some p) : p ∈ es.map (·.1) := by
  unfold firstBad at h
  cases hw : wrongs es with
  | nil =>
    rw [hw] at h
    exact sort_mem.mp (List.mem_of_find?_eq_some h)
  | cons z zs =>
    rw [hw] at h
    have e := Option.some.inj h
    have h1 := (minT_facts zs z).1
    rw [← hw] at h1
    rw [← e]
    exact (List.mem_filter.mp h1).1
theorem two_ok {a b : Str} (h1 : PyData.strOk a = true) (h2 : PyData.strOk b = true) (h3 : a.length ≤ 1000) (h4 : b.length ≤ 1000) : Rok (.tuple [.str a, .str b]) :=
  rok_tuple (l := [a, b]) (n := 1000) (fun s hs => by
    rcases List.mem_cons.mp hs with rfl | hs
    · exact h1
    · rw [List.mem_singleton.mp hs]; exact h2) (fun s hs => by
    rcases List.mem_cons.mp hs with rfl | hs
    · exact h3
    · rw [List.mem_singleton.mp hs]; exact h4) (by show 1001 * 2 ≤ 1000000; decide)
theorem tg_short {z : Str} (h : isTg z = true) : PyData.strOk z = true ∧ z.length ≤ 72 := by
  unfold isTg at h
  rw [Bool.and_eq_true] at h
  by_cases hz : z = ""
  · subst hz
    exact ⟨by decide +kernel, by decide +kernel⟩
  · obtain ⟨ns, e1, e2, e3, e4⟩ := isPt_jn h.1 hz
    have h2 := of_decide_eq_true h.2
    rw [e4] at h2
    have h3 := join_len_le e3
    rw [e1]
    exact ⟨strOk_join e3, by show (PySem.Txt.join c_sl ns).length ≤ 72; omega⟩
theorem pl_short {z : Str} (h : isPl z = true) : PyData.strOk z = true ∧ z.length ≤ 90 := by
  obtain ⟨ns, e1, e2, e3⟩ := isPl_jn h
  have h3 := join_len_le e3.2
  have h4 := e3.1
  rw [e1]
  exact ⟨strOk_join e3.2, by show (PySem.Txt.join c_sl ns).length ≤ 90; omega⟩
theorem dv_facts {v : V} (h : Plain v ∧ itemV v = true) : (dV v).canLay0 = true ∧ (dV v).depth = 0 ∧ (dV v).weight ≤ 100 ∧ (dV v).intsShort 13 = true ∧ (dV v).showable = true := by
  obtain ⟨rfl | ⟨i, rfl⟩ | ⟨z, rfl, hz⟩, h2⟩ := h
  · simp [dV, PyData.canLay0, PyData.depth, PyData.weight, PyData.intsShort, PyData.showable]
  · have h3 : i.natAbs < 10 ^ 12 := by
      have h4 : contentV (.int i) = true := by
        have e : itemV (.int i) = (contentV (.int i) || false) := rfl
        rw [e, Bool.or_false] at h2
        exact h2
      have h5 : (if i < 0 then -i else i) ≤ 999999999999 := of_decide_eq_true h4
      split at h5 <;> omega
    have h5 := PyData.shown_int_le h3
    have h7 : i.natAbs.log2 < 44 := by
      by_cases h0 : i.natAbs = 0
      · rw [h0]; decide
      · exact (Nat.log2_lt (n := i.natAbs) (k := 44) h0).mpr (by omega)
    have h6 : i.natAbs.log2 < 1920 := by omega
    have h8 : (if i = 0 then 0 else i.natAbs.log2 + 1) ≤ 100 := by split <;> omega
    simp [dV, h8, PyData.canLay0, PyData.depth, PyData.weight, PyData.intsShort, PyData.showable, h5, h6]
  · have e : itemV (.str z) = isTg z := rfl
    rw [e] at h2
    obtain ⟨h3, h4⟩ := tg_short h2
    have h5 : z.cps.size ≤ 72 := h4
    refine ⟨?_, ?_, ?_, ?_, ?_⟩
    · show PyData.canLay0 (.str z) = true
      rw [PyData.canLay0]; exact h3
    · show PyData.depth (.str z) = 0
      rw [PyData.depth]
    · show PyData.weight (.str z) ≤ 100
      rw [PyData.weight]; omega
    · show PyData.intsShort 13 (.str z) = true
      rw [PyData.intsShort]
    · show PyData.showable (.str z) = true
      rw [PyData.showable]
theorem pairs_facts : ∀ {es : List (Str × V)}, (∀ e ∈ es, isPl e.1 = true ∧ Plain e.2 ∧ itemV e.2 = true) →
    PyData.canLayAll0 (es.map fun e => .tuple [.str e.1, dV e.2]) = true ∧ PyData.depthAll (es.map fun e => .tuple [.str e.1, dV e.2]) ≤ 1 ∧ PyData.weightAll (es.map fun e => .tuple [.str e.1, dV e.2]) ≤ 300 * es.length ∧ PyData.intsShortAll 13 (es.map fun e => .tuple [.str e.1, dV e.2]) = true ∧ PyData.showableAll (es.map fun e => .tuple [.str e.1, dV e.2]) = true
  | [], _ => by simp [PyData.canLayAll0, PyData.depthAll, PyData.weightAll, PyData.intsShortAll, PyData.showableAll]
  | e :: es, h => by
    obtain ⟨i1, i2, i3, i4, i5⟩ := pairs_facts fun e he => h e (List.mem_cons_of_mem _ he)
    obtain ⟨a1, a2⟩ := h e List.mem_cons_self
    obtain ⟨o1, o2, o3, o4, o5⟩ := dv_facts a2
    obtain ⟨p1, p2⟩ := pl_short a1
    have p3 : e.1.cps.size ≤ 90 := p2
    rw [List.map_cons]
    refine ⟨?_, ?_, ?_, ?_, ?_⟩
    · rw [PyData.canLayAll0, i1, PyData.canLay0, PyData.canLayAll0, PyData.canLayAll0, PyData.canLayAll0, PyData.canLay0, p1, o1]; rfl
    · rw [PyData.depthAll, PyData.depth, PyData.depthAll, PyData.depthAll, PyData.depthAll, PyData.depth, o2]; omega
    · rw [PyData.weightAll, PyData.weight, PyData.weightAll, PyData.weightAll, PyData.weightAll, PyData.weight, List.length_cons]; omega
    · rw [PyData.intsShortAll, i4, PyData.intsShort, PyData.intsShortAll, PyData.intsShortAll, PyData.intsShortAll, PyData.intsShort, o4]; rfl
    · rw [PyData.showableAll, i5, PyData.showable, PyData.showableAll, PyData.showableAll, PyData.showableAll, PyData.showable, o5]; rfl
theorem rok_listD {es : List (Str × V)} (ok : OkE es) (hl : es.length ≤ 40) : Rok (listD es) := by
  obtain ⟨i1, i2, i3, i4, i5⟩ := pairs_facts (es := es) fun e he => ⟨(ok.pl e he).1, ok.it e he⟩
  unfold listD
  refine Rok.of (by rw [PyData.canLay0]; exact i1) (by rw [PyData.depth]; omega) ?_ (by rw [PyData.intsShort]; exact i4) (by rw [PyData.showable]; exact i5)
  rw [PyData.weight]
  have : (2 : Nat) ^ 20 = 1048576 := by decide
  omega
theorem repr_of {K : PySem.W.Frag} {H : Hp} {v : V} {d : PyData} {Q : VK} (h : Dp K H v d) (r : Rok d) (q : Q (.str d.shown) H) : rReprX K [v] H Q := Or.inl ⟨v, d, rfl, h, r.sh, r.nd, r.dp, r.ln, q⟩
end K5

set_option Elab.async false
set_option linter.all false
set_option maxRecDepth 100000
set_option maxHeartbeats 4000000
namespace LF
open PySem PySem.Spec PyProof.Rows L2
/-! == of dicts of plain items, with both answers -/
theorem val_some_mem {ls : List (Key × V)} {k : Key} {y : V} (h : valV ls k = some y) : (k, y) ∈ ls := by
  unfold valV at h
  cases hf : ls.find? fun kv => decide (kv.1 = k) with
  | none => rw [hf] at h; cases h
  | some p =>
    rw [hf] at h
    have h1 := List.mem_of_find?_eq_some hf
    have h2 : p.1 = k := by simpa using List.find?_some hf
    have h3 : p.2 = y := Option.some.inj h
    rw [← h2, ← h3]; exact h1
def eqPV : V → V → Bool
  | .non, .non => true
  | .int i, .int j => i == j
  | .str x, .str y => x == y
  | _, _ => false
def flatP : V → Bool
  | .non => true
  | .int _ => true
  | .str _ => true
  | _ => false
def dEq (ks ls : List (Key × V)) : Bool := ks.length == ls.length && ks.all fun p => match valV ls p.1 with
  | some y => eqPV p.2 y
  | none => false
theorem eqAt_plain {A : Around} {s : Shared} {v w : V} {u u' : Value} (r : RelV v u) (r' : RelV w u') (h1 : flatP v = true) (h2 : flatP w = true) : SeqAt.EqAt A s u u' (eqPV v w) := by
  cases v <;> first | cases h1 | skip
  · obtain rfl : u = Value.none := r
    cases w <;> first | cases h2 | skip
    · obtain rfl : u' = Value.none := r'
      exact SeqAt.EqAt.same _
    · obtain ⟨t, rfl⟩ := r'
      exact SeqAt.EqAt.none_int _ _
    · obtain ⟨t, rfl⟩ := r'
      exact SeqAt.EqAt.none_str _ _
  · obtain ⟨t, rfl⟩ := r
    cases w <;> first | cases h2 | skip
    · obtain rfl : u' = Value.none := r'
      exact SeqAt.EqAt.int_none _ _
    · obtain ⟨t', rfl⟩ := r'
      exact SeqAt.EqAt.int_int _ _ _ _
    · obtain ⟨t', rfl⟩ := r'
      exact SeqAt.EqAt.int_str _ _ _ _
  · obtain ⟨t, rfl⟩ := r
    cases w <;> first | cases h2 | skip
    · obtain rfl : u' = Value.none := r'
      exact SeqAt.EqAt.str_none _ _
    · obtain ⟨t', rfl⟩ := r'
      exact SeqAt.EqAt.str_int _ _ _ _
    · obtain ⟨t', rfl⟩ := r'
      exact SeqAt.EqAt.str_str _ _ _ _
theorem hits_any {A : Around} {s : Shared} {ls : List (Key × V)} {vb : List (Key × Value)} (rb : KV ls vb) (hl : ∀ p ∈ ls, flatP p.2 = true) {ks : List (Key × V)} {va : List (Key × Value)} (ra : KV ks va) :
    (∀ p ∈ ks, flatP p.2 = true) → PySem.W.KeqHits A s vb va (ks.all fun p => match valV ls p.1 with | some y => eqPV p.2 y | none => false) := by
  unfold KV at ra
  induction ra with
  | nil => intro _; exact .nil
  | @cons p q ps qs h t ih =>
    intro hp
    obtain ⟨h1, h2⟩ := h
    obtain ⟨k, v⟩ := q
    have e1 : p.1 = k := h1
    have rr := rb.val p.1
    rw [List.all_cons]
    cases hv : valV ls p.1 with
    | none =>
      rw [hv] at rr
      rw [e1] at rr
      have hn : valueAt vb k = none := by
        cases hx : valueAt vb k with
        | none => rfl
        | some y => rw [hx] at rr; cases rr
      rw [Bool.false_and]
      exact .miss hn
    | some y =>
      rw [hv] at rr
      rw [e1] at rr
      obtain ⟨z, hz, rz⟩ := rr.some_of
      refine .hit hz (eqAt_plain h2 rz (hp p List.mem_cons_self) ?_) (ih fun p' hm => hp p' (List.mem_cons_of_mem _ hm))
      exact hl (p.1, y) (val_some_mem hv)
section
variable {X : Cx}
def rEqG : R2 := fun x y H Q => ∃ a b ks ls, x = .ref a ∧ y = .ref b ∧ H a = some (.dK ks) ∧ H b = some (.dK ls) ∧ (∀ p ∈ ks, flatP p.2 = true) ∧ (∀ p ∈ ls, flatP p.2 = true) ∧ Q (.bl (dEq ks ls)) H
theorem op_eqG (hu : X.A.units < cLine) : OpR X (compareOp .Eq) rEqG := by
  intro pins s σ H x y v u Q I rx ry h
  obtain ⟨a, b, ks, ls, rfl, rfl, ea, eb, hk, hl, q⟩ := h
  obtain rfl : v = Value.ref a := rx
  obtain rfl : u = Value.ref b := ry
  obtain ⟨_, ya, va, ra, da⟩ := (show ObjOk X.prog X.w H s.heap a (.dK ks) from I.hok a _ ea)
  obtain ⟨_, yb, vb, rb, db⟩ := (show ObjOk X.prog X.w H s.heap b (.dK ls) from I.hok b _ eb)
  refine PySem.W.keq_eq (knd := mixKind X.prog X.w) ya yb da db hu (fun _ => hits_any rb hl ra hk) ⟨.bl (dEq ks ls), H, I, ?_, q⟩
  show _ = Value.bool (dEq ks ls)
  unfold dEq
  rw [ra.length, rb.length]
end
/-! x == y of an own instance and a list -/
section
variable {X : Cx} {k : Nat} {C f : Addr} {fd : FuncData} {ps : List Str} {sp : Sp}
def rCmpL (C : Addr) (sp : Sp) : R2 := fun x y H Q => ∃ a b dx fs xs, x = .ref a ∧ y = .ref b ∧ H a = some (.ins C dx fs) ∧ H b = some (.lst xs) ∧ sp [.ref a, .ref b] H (fun v H' => ∃ r : Bool, v = .bl r ∧ Q (.bl r) H') E0
theorem op_eqL (G : FnOk X.prog X.w X.K X.mg X.base CX0 k f fd ps sp) (hr : Room k X.A) (hb : Binds X.K fd ps []) (hs : PySem.W.findIn X.K (.ref C) "__eq__" = some (some (.ref f))) (hf : PySem.W.isFn X.K (.ref f) = true)
    (hn : PySem.W.subIn X.K (.type "list") (.ref C) = some false) : OpR X (compareOp .Eq) (rCmpL C sp) := by
  intro pins s σ H x y v u Q I rx ry h
  obtain ⟨a, b, dx, fs, xs, rfl, rfl, ha, hb', hsp⟩ := h
  obtain rfl : v = Value.ref a := rx
  obtain rfl : u = Value.ref b := ry
  obtain ⟨mA, J, _⟩ := ins_get I.hok ha
  obtain ⟨od, J, _⟩ := J.look
  obtain ⟨m, hF⟩ := I.fr
  have ty : s.TypeIs (.ref b) "list" := by
    obtain ⟨its, rv, pl, hz⟩ := I.list (SqL.of hb')
    exact pl.isList.typeIs
  obtain ⟨ob, o1, o2⟩ := ty
  have L : PySem.W.Looks (model X.prog X.w) s.heap (typeOf (.ref b)) (.type "list") := o2 ▸ (PySem.W.Looks.ld o1).andThen .now
  show wpAny (model X.prog X.w) X.A (richCompare .Eq (.ref a) (.ref b)) _ X.xe s
  refine PySem.W.cmp_K (op := .Eq) (tb := .type "list") hr.units0 hF I.ok.mod.kin J L (by simp [PySem.W.notFirst, hn]) hs hf ?_
  refine eq_call G hr rfl hb I hsp fun v u H' s' I' rv q => ?_
  obtain ⟨r, rfl, q⟩ := q
  obtain rfl : u = Value.bool r := rv
  exact ⟨.bl r, H', I', rfl, q⟩
end
end LF

set_option Elab.async false
set_option linter.all false
set_option maxRecDepth 100000
set_option maxHeartbeats 4000000
namespace LF
open PySem PySem.Spec PyProof.Rows L2
open PySem.Builtin
/-- repr(x), x an own instance of the class at C: its own __repr__ -/
def rReprO (C : Addr) (sp : Sp) : List V → Hp → VK → Prop := fun xs H Q => ∃ (a dx : Addr) (fs : List (Str × V)), xs = [.ref a] ∧ H a = some (.ins C dx fs) ∧ sp [.ref a] H (fun v H' => ∃ z, v = .str z ∧ Q (.str z) H') E0
theorem call_reprO {X : Cx} {k : Nat} {f C : Addr} {fd : FuncData} {sp : Sp} {ps : List Str} (G : FnOk X.prog X.w X.K X.mg X.base CX0 k f fd ps sp) (hr : Room (k + 1) X.A) (hb : Binds X.K fd ps [])
    (hs : PySem.W.findIn X.K (.ref C) "__repr__" = some (some (.ref f))) (hf : PySem.W.isFn X.K (.ref f) = true) : CallR X (.builtin "repr") (rReprO C sp) := by
  intro pins s σ H xs us Q I r h
  obtain ⟨a, dx, fs, rfl, ha, hsp⟩ := h
  rw [Vals.ref1 r]
  obtain ⟨mA, O, _, _, _, _⟩ := ins_get I.hok ha
  obtain ⟨od, J, _⟩ := O.look
  have hu := hr.in1.un
  refine Calls.call_function_entry F.kind_repr F.plain_repr F.entry_repr (F.args_repr1 _) ?_
  unfold Builtin.«repr»
  refine wpAny_bind (m := oneArg "repr" _) (wpAny_pure ?_)
  refine wpAny_bind (m := cRoomFor _ _) (wpAny_cRoomFor (by omega) ?_)
  refine wpAny_bind (special_own I.kIn J hs ?_)
  refine wpAny_bind (m := callSpecialIfBound? (.ref a) (Str.ofString "__repr__")) (PySem.W.ifBound_K I.kIn J hs hf ?_)
  refine own_call (vs := [.ref a]) G hr.in1 rfl hb I (.cons rfl .nil) hsp fun w u H' s' I' rw q => ?_
  obtain ⟨z, rfl, q⟩ := q
  obtain ⟨tk, rfl⟩ := rw
  refine wpAny_bind (wpAny_isInstance (T := "str") (b := true) rfl isSubtype_str_str ?_)
  exact wpAny_pure ⟨_, rfl, .str z, H', I', ⟨_, rfl⟩, q⟩
end LF

set_option Elab.async false
set_option linter.all false
set_option maxRecDepth 100000
set_option maxHeartbeats 4000000
namespace PySem
namespace KErr
open Builtin Builtin.ObjectAttr PySem.HandSPX
section
variable {prog : Program} {w : World} {A : Around} {E : Value → Shared → Prop} {R : Result → Shared → Prop} {h : Heap} {g : Array GenState} {d : Drawn} {t : Nat} {os : OsState}
variable {nm q : Str} {C N : Addr} {bs bm bmL : List Value} {hdct : Bool} {sn : List Str} {sub : List Value} {ab : Bool} {col : Option Bool} {dd : Option Addr} {k0 k1 k2 k3 k5 : Option Value} {L nw ini : String}
/-- what the own tail must say, when the base that makes it is not the nearest one -/
structure Tail (bm : List Value) (L : String) : Prop where
  has : bm.contains (.type L) = true
  na : bm.contains (.type "AttributeError") = false
  nn : bm.contains (.type "NameError") = false
theorem checkN (F : ExcBaseFacts L nw ini bmL) (T : Tail bm L) {M : Model} {xs : List Value} {Q : Unit → Shared → Prop}
    (hC : h.get? C = some (excClassObj nm q C N bs bm hdct sn sub ab col dd k0 k1 k2 k3 k5 nw)) (hq : Q () ⟨h, g, d, t, os⟩) : wpAny M A (checkBuiltinCall nw ⟨.ref C :: xs, []⟩) Q E ⟨h, g, d, t, os⟩ := by
  have c1 : (Value.ref C :: bm).contains (.type L) = true := by rw [List.contains_cons, T.has, Bool.or_true]
  have c2 := F.noStar
  simp only [checkBuiltinCall, F.newKind, F.newSplit, F.newRow]
  repeat (first | refine wpAny_loadPart_at hC ?_ | (refine wpAny_isSubtype_exc hC ?_; rw [c1]) | refine wpAny_staticBase_exc hC ?_ | refine wpAny_madeBy_exc hC ?_ | simp only [bne_self_eq_false, Bool.false_eq_true, if_false] | wp_step)
  exact hq
theorem newN (F : ExcBaseFacts L nw ini bmL) (T : Tail bm L) {xs : List Value} (hC : h.get? C = some (excClassObj nm q C N bs bm hdct sn sub ab col dd k0 k1 k2 k3 k5 nw))
    (hq : R (.ok (.ret (.ref (h.objs.size + 1)))) ⟨(h.push { cls := .type "tuple", data := .seq xs.toArray }).push { cls := .ref C, data := .fields #[.ref h.objs.size, .none, .none, .none, .bool false, .none] }, g, d, t, os⟩) (hl : xs.length ≤ sizeLine) :
    codeAny (model prog w) A (.builtin nw ⟨.ref C :: xs, []⟩) R ⟨h, g, d, t, os⟩ := by
  have c0 := F.ends
  have c1 : (Value.ref C :: bm).contains (.type L) = true := by rw [List.contains_cons, T.has, Bool.or_true]
  have c2 : (Value.ref C :: bm).contains (.type "AttributeError") = false := by rw [List.contains_cons, T.na]; rfl
  have c3 : (Value.ref C :: bm).contains (.type "NameError") = false := by rw [List.contains_cons, T.nn]; rfl
  refine codeAny_builtinAt F.entry ?_
  unfold Builtin.«BaseException.__new__»
  refine wpAt_bind ?_
  show wpAt _ _ _ (stack >>= _) _ _ _
  refine wpAt_bind (wpAt_stack fun p below => wpAt_of_wpAny ?_)
  wp_walk
  refine wpAt_of_wpAny ?_
  rw [F.owner]
  repeat (first | with_reducible refine wpAny_madeHere_exc F.canon hC ?_ | with_reducible refine wpAny_loadPart_at hC ?_ | (with_reducible refine wpAny_isSubtype_exc hC ?_; first | rw [c1] | rw [c2] | rw [c3]) | wp_step)
  show R _ _
  rw [Heap.size_push]
  exact hq
theorem typeCallN (F : ExcBaseFacts L nw ini bmL) (T : Tail bm L) {xs : List Value} {fI : Addr} {Q : Fin → Shared → Prop}
    (hC : h.get? C = some (excClassObj nm q C N bs bm hdct sn sub ab col dd k0 k1 k2 k3 k5 nw)) (hi : W.Looks (model prog w) h (typeLookup (.ref C) "__init__") (some (.ref fI)))
    (hb : ∀ self, W.Looks (model prog w) h (bindSpecial (.ref fI) self) (.ref fI, [self])) (hl : xs.length ≤ sizeLine)
    (hq : codeAny (model prog w) A (.call (.ref fI) ⟨.ref (h.objs.size + 1) :: xs, []⟩) (fun r s' => match r with | .ok (.ret v) => v = .none ∧ Q (.done (.ret (.ref (h.objs.size + 1)))) s' | .ok _ => False | .error e => E e s') ⟨(h.push (W.kdv_tup xs)).push (excO C h.objs.size), g, d, t, os⟩) :
    wpAny (model prog w) A (Builtin.«type.__call__» ⟨.ref C :: xs, []⟩) Q E ⟨h, g, d, t, os⟩ := by
  repeat (first | with_reducible refine wpAny_loadPart_at hC ?_ | with_reducible refine wpAny_madeBy_exc hC ?_ | wp_step)
  refine codeAny_call_builtin_code (Code.quiet_builtin _ F.quiet) (checkN F T hC ?_)
  refine newN F T hC ?_ hl
  show wpAny _ _ _ _ _ _
  have kp : ∀ b o, h.get? b = some o → ((h.push (W.kdv_tup xs)).push (excO C h.objs.size)).get? b = some o := fun b o e => Heap.get?_push_of_some _ (Heap.get?_push_of_some _ e)
  have hC2 := kp _ _ hC
  have hg : ((h.push (W.kdv_tup xs)).push (excO C h.objs.size)).get? (h.objs.size + 1) = some (excO C h.objs.size) := by heap_get
  have cC : (Value.ref C :: bm).contains (.ref C) = true := by simp
  have i2 := hi.keeps kp
  have b2 := (hb (.ref (h.objs.size + 1))).keeps kp
  unfold isInstance
  repeat (first | with_reducible refine wpAny_loadPart_at hg ?_ | (with_reducible refine wpAny_isSubtype_exc hC2 ?_; rw [cC]) | wp_step)
  show wpAny _ _ (typeLookup (.ref C) _) _ _ _
  refine i2.at ?_
  refine wpAny_holding (wpAny_bind (b2.at ?_))
  refine wpAny_bind (wpAny_call (codeAny_mono hq fun r s' z => ?_))
  rcases r with e | (v | _ | _ | _) <;> first | exact z | exact z.elim | skip
  obtain ⟨rfl, z⟩ := z
  first
    | exact wpAny_pure (wpAny_pure z)
    | (wp_walk; exact z)
theorem callN (F : ExcBaseFacts L nw ini bmL) (T : Tail bm L) {xs : List Value} {fI : Addr}
    (hC : h.get? C = some (excClassObj nm q C N bs bm hdct sn sub ab col dd k0 k1 k2 k3 k5 nw)) (hi : W.Looks (model prog w) h (typeLookup (.ref C) "__init__") (some (.ref fI)))
    (hb : ∀ self, W.Looks (model prog w) h (bindSpecial (.ref fI) self) (.ref fI, [self])) (hl : xs.length ≤ sizeLine)
    (hq : codeAny (model prog w) (A.under (.builtin "type.__call__" ⟨.ref C :: xs, []⟩)) (.call (.ref fI) ⟨.ref (h.objs.size + 1) :: xs, []⟩) (W.InitBack (h.objs.size + 1) R) ⟨(h.push (W.kdv_tup xs)).push (excO C h.objs.size), g, d, t, os⟩) :
    codeAny (model prog w) A (.call (.ref C) ⟨xs, []⟩) R ⟨h, g, d, t, os⟩ := by
  have f1 := tc_lookup
  have f2 := tc_bind (.ref C)
  have hTy : (⟨h, g, d, t, os⟩ : Shared).TypeIs (.ref C) "type" := ⟨_, hC, rfl⟩
  refine codeAny_of_tree ?_
  show wpAny _ _ (callAny (.ref C) _) _ _ _
  repeat (any_goals (first | assumption | with_reducible refine wpAny_loadPart_at hC ?_ | wp_step))
  refine ⟨rfl, ?_⟩
  refine codeAny_call_builtin_at (Code.quiet_builtin _ (by decide +kernel)) entry_typeCall (wpAny_check_type_call_sub hC (typeCallN F T hC hi hb hl ?_))
  refine codeAny_mono hq fun r s' z => ?_
  rcases r with e | (v | _ | _ | _) <;> exact z
end
theorem storeK : StoreFacts "KeyError" [.type "KeyError", .type "LookupError", .type "Exception", .type "BaseException", .type "object"] "object.__setattr__" "object" :=
  { mro := by kernel_rfl, slot := .of (owner := "object") (n := "__setattr__") (by rw [typeLookup_type, builtinLookup_eq_fast]; kernel_rfl) (by decide +kernel) (by decide +kernel) (by decide +kernel) (by first | exact .inl (by decide +kernel) | exact .inr (by decide +kernel)) (by rw [isSubtype_type]; kernel_rfl),
    entry := F.entry_object_sa, kind := by decide +kernel, split := by decide +kernel, hasOwner := by decide +kernel, args := fun a b c => by (unfold argsOk; kernel_rfl), passes := fun self => by kernel_rfl }
end KErr
end PySem

set_option Elab.async false
set_option linter.all false
set_option maxRecDepth 100000
set_option maxHeartbeats 4000000
namespace PySem
namespace NoEntryX
open PySem.W PySem.Calls PyProof.Rows PySem.HandSPX
abbrev keETail : List Value := [.type "KeyError", .type "LookupError", .type "Exception", .type "BaseException", .type "object"]
/-! ### the text of __init__ -/
def iA (p1 p2 : Pos) : Arguments := { posonlyargs := [], args := [{ arg := "self", annotation := none, pos := p1 }, { arg := "path", annotation := none, pos := p2 }], vararg := none, kwonlyargs := [], kw_defaults := [], kwarg := none, defaults := [] }
def iB (q1 q2 q3 q4 : Pos) : List Stmt := [.Assign [.Attribute (.Name "self" q1) "path" q2] (.Name "path" q3) q4]
def iS : Scope := { kind := .function, names := [(PySem.Str.ofString "self", .local), (PySem.Str.ofString "path", .local)], isGenerator := false, isCoroutine := false, more := [] }
/-- what the written part says of Low, at C, and of its __init__, at fI -/
structure NoEntryTxt (K : Frag) (mg : Str → Option Value) (C fI : Addr) : Prop where
  gC : mg "NoEntry" = some (.ref C)
  cls : ∃ nm q N bs bm sn sub ab col dd k0 k1 k2 k3 k5, K.lookup C = some (excClassObj nm q C N bs bm true sn sub ab col dd k0 k1 k2 k3 k5 "LookupError.__new__") ∧ bm = keETail
  sa : findIn K (.ref C) "__setattr__" = some (some (.builtin "object.__setattr__"))
  ga : findIn K (.ref C) "__getattribute__" = some (some (.builtin "BaseException.__getattribute__"))
  gg : findIn K (.ref C) "__getattr__" = some none
  noN : findIn K (.ref C) "path" = some none
  iC : findIn K (.ref C) "__init__" = some (some (.ref fI))
  tC : typeIn K (.ref fI) = some (.type "function")
  kC : keepIn K (.ref C) = true
  exC : subIn K (.ref C) (.type "BaseException") = some true
  tyC : typeIn K (.ref C) = some (.type "type")
  hdC : hasDictIn K C = true
  te : exmOne K (.ref C) (.ref C) = some true
  fn : ∃ (oc : Value) (od : Option Addr) (doc pm : Value) (an : Option Addr) (cdv ct : Value) (osl : Array (Option Value)) (p1 p2 q1 q2 q3 q4 : Pos),
    K.lookup fI = some ⟨oc, od, .func (fnOf "__init__" "NoEntry.__init__" (iA p1 p2) (iB q1 q2 q3 q4) iS .none .none doc pm an cdv ct), osl⟩ ∧ codeIn K cdv "NoEntry.__init__" = true
theorem one_size (v : Value) : [v].length ≤ sizeLine := by
  rw [sizeLine_eq]
  exact (by decide : 1 ≤ 16777216)
theorem kept_but {K : Frag} {h h' : Heap} {x : Addr} (X : K.In h) (hx : K.lookup x = none) (k : ∀ b o, b ≠ x → h.get? b = some o → h'.get? b = some o) : K.In h' := fun a o e =>
  k a o (fun z => by rw [z, hx] at e; cases e) (X a o e)
theorem ldC {M : Model} {s : Shared} {name : Str} {scope : Scope} {L a : Addr} {cd : Value} {m : Str → Option Value} {x : Str} {pos : Pos} {v : Value} {Q : Value → Shared → Prop} {A : Around} {E : Value → Shared → Prop} (hn : s.heap.Ns L m) (hv : m x = some v) (h : Q v s)
    (hk : scope.kind = .function := by rfl) (hl : (envOfC name scope L a cd).kindOf x = some .local := by rfl) (hd : (x == ("__debug__" : Str)) = false := by decide) :
    wpAny M A (eval (.Name x pos) (envOfC name scope L a cd)) Q E s := wpAny_Name (wpAny_loadName_local hk hl hn hv h) hd
/-- what __init__ leaves of a fresh exception at x -/
structure InitEnd (h h' : Heap) (x C dx t1 : Addr) (v : Value) : Prop where
  keep : ∀ b o, b ≠ x → h.get? b = some o → h'.get? b = some o
  obj : h'.get? x = some { cls := .ref C, dict := some dx, data := .fields #[.ref t1, .none, .none, .none, .bool false, .none] }
  dbig : h.objs.size ≤ dx
  dne : dx ≠ x
  ns : h'.Ns1 dx (fun y => if y = "path" then some v else none)
/-- a made Low -/
structure OwnMade (h h' : Heap) (e C d : Addr) (v : Value) : Prop where
  keep : ∀ b o, h.get? b = some o → h'.get? b = some o
  new : h.objs.size ≤ e
  obj : ∃ oe vs, h'.get? e = some oe ∧ oe.cls = .ref C ∧ oe.dict = some d ∧ oe.data = .fields vs ∧ vs[1]? = some .none
  dbig : h.objs.size ≤ d
  dne : d ≠ e
  ns : h'.Ns1 d (fun y => if y = "path" then some v else none)
section
variable {prog : Program} {w : World} {A : Around} {E : Value → Shared → Prop} {R : Result → Shared → Prop} {s : Shared} {K : Frag} {mg : Str → Option Value} {C fI : Addr}
theorem low_init (T : NoEntryTxt K mg C fI) {x t0 : Addr} {v : Value} (X : K.In s.heap) (hlim : s.heap.NoLimit) (hx : s.heap.get? x = some (excO C t0)) (hnx : K.lookup x = none) (hroom : A.depth < recursionLimit)
    (hq : ∀ h' tk dx, InitEnd s.heap h' x C dx t0 v → R (.ok (.ret .none)) { s with heap := h', toks := tk }) :
    codeAny (model prog w) A (.call (.ref fI) ⟨[.ref x, v], []⟩) R s := by
  obtain ⟨oc, od, doc, pm, an, cdv, ct, osl, p1, p2, q1, q2, q3, q4, ho, hcd⟩ := T.fn
  obtain ⟨nm, q, N, bs, bm, sn, sub, ab, col, dd, k0, k1, k2, k3, k5, hC, hbm⟩ := T.cls
  have hcl : clsIn K C = some { name := nm, bases := bs, mro := .ref C :: bm, ns := N, qualname := q, hasDict := true, slotNames := sn, subclasses := sub, abstract := ab, collection := col, hasDel := false } := by unfold clsIn; rw [hC] <;> rfl
  refine Att.call_fn (binds := [("self", .ref x), ("path", v)]) X hlim ho hcd hroom (BindsTo.of_eq (by first | rfl | with_unfolding_all rfl)) (by first | rfl | decide | with_unfolding_all rfl) (fun s₁ IC => ?_) rfl rfl rfl
  obtain ⟨h₁, tk₁, rfl⟩ := IC.toInCall.same
  have k : ∀ b o, s.heap.get? b = some o → h₁.get? b = some o := IC.toInCall.keep
  have hn := IC.toInCall.ns
  have hxL : s.heap.objs.size ≠ x := Nat.ne_of_gt (Heap.lt_size hx)
  have X₁ : K.In h₁ := X.keeps k
  have hx₁ := k _ _ hx
  -- self.by = by
  show wpAny _ _ (execs _ _) _ _ _
  refine wpAny_execs_cons (plainObj_wpAny_Assign_Attribute ?_)
  refine ldC (v := v) hn (by first | rfl | with_unfolding_all rfl | kernel_rfl) (ldC (v := .ref x) hn (by first | rfl | with_unfolding_all rfl | kernel_rfl) ?_)
  refine set_plain X₁ (ox := excO C t0) (od := none) ⟨hx₁, rfl, rfl, trivial⟩ T.sa ?_
  subst hbm
  refine LF.put_field KErr.storeK (by decide +kernel) X₁ hx₁ hcl rfl rfl T.noN (fun h₃ tk₃ dx k₃ dn dne hx₃ hn₃ => ?_)
  show wpAny _ _ (execs _ _) _ _ _
  have z : s.heap.objs.size < h₁.objs.size := hn.lt
  exact wpAny_execs_nil (hq h₃ tk₃ dx ⟨fun b o hb e => k₃ b o hb (k b o e), hx₃, Nat.le_of_lt (Nat.lt_of_lt_of_le z dn), dne, hn₃⟩)
theorem low_made (T : NoEntryTxt K mg C fI) {v : Value} (X : K.In s.heap) (hlim : s.heap.NoLimit) (hroom : A.depth + 1 < recursionLimit)
    (hq : ∀ h' tk e d, OwnMade s.heap h' e C d v → R (.ok (.ret (.ref e))) { s with heap := h', toks := tk }) :
    codeAny (model prog w) A (.call (.ref C) ⟨[v], []⟩) R s := by
  obtain ⟨nm, q, N, bs, bm, sn, sub, ab, col, dd, k0, k1, k2, k3, k5, hC, hbm⟩ := T.cls
  obtain ⟨hp, g, dr, tk, os⟩ := s
  have k : ∀ b o, hp.get? b = some o → ((hp.push (kdv_tup [v])).push (excO C hp.objs.size)).get? b = some o := fun b o e => Heap.get?_push_of_some _ (Heap.get?_push_of_some _ e)
  have hget : ((hp.push (kdv_tup [v])).push (excO C hp.objs.size)).get? (hp.objs.size + 1) = some (excO C hp.objs.size) := by heap_get
  have hnx : K.lookup (hp.objs.size + 1) = none := by
    cases e : K.lookup (hp.objs.size + 1) with
    | none => rfl
    | some o =>
      have z : hp.get? (hp.objs.size + 1) = some o := X _ _ e
      exact absurd (Nat.lt_of_succ_lt (Heap.lt_size z)) (Nat.lt_irrefl _)
  subst hbm
  refine KErr.callN F.excBase_LookupError ⟨by decide +kernel, by decide +kernel, by decide +kernel⟩ (X _ _ hC) (looks_findIn X T.iC) (fun self => bind_fn X self T.tC) (one_size v) ?_
  refine low_init (s := ⟨(hp.push (kdv_tup [v])).push (excO C hp.objs.size), g, dr, tk, os⟩) T (X.keeps k) (hlim.keeps k) hget hnx ?_ fun h' tk' dx ⟨k', hx, dn, dne, hns⟩ => ?_
  · show A.depth + 1 < recursionLimit
    exact hroom
  · have old : ∀ b o, hp.get? b = some o → h'.get? b = some o := fun b o e => k' b o (Nat.ne_of_lt (Nat.lt_succ_of_lt (Heap.lt_size e))) (k b o e)
    have z : hp.objs.size + 1 + 1 ≤ dx := by
      first
        | (simpa only [Heap.size_push] using dn)
        | exact dn
        | (have q := dn; rw [Heap.size_push, Heap.size_push] at q; exact q)
    exact ⟨rfl, hq h' tk' (hp.objs.size + 1) dx ⟨old, Nat.le_succ _, ⟨_, _, hx, rfl, rfl, rfl, rfl⟩, Nat.le_trans (Nat.le_trans (Nat.le_succ _) (Nat.le_succ _)) z, dne, hns⟩⟩
end
end NoEntryX
end PySem
namespace L2
open PySem PySem.Spec PyProof.Rows
theorem relO_NoEntry {v : V} {v' : Value} (r : RelV v v') (f : Str) : RelO (List.lookup f [(("path" : Str), v)]) (if f = "path" then some v' else none) := by
  by_cases hw : f = "path"
  · subst hw
    rw [if_pos rfl]
    have q : List.lookup ("path" : Str) [(("path" : Str), v)] = some v := by simp [List.lookup]
    rw [q]
    exact r
  · rw [if_neg hw]
    have qw : (f == ("path" : Str)) = false := by simpa using hw
    have q2 : List.lookup f [(("path" : Str), v)] = none := by simp [List.lookup, qw]
    rw [q2]
    trivial
section
variable {X : Cx} {C fI : Addr}
/-- Low(e) -/
def tMkNoEntry (C : Addr) (ta : TA) : St → Hp → XK → Prop := fun σ H Q => ta σ H fun vs H1 => ∃ v, vs = [v] ∧ ∀ d, H1 d = none → Q (.ref C) (some d) (upd H1 d (.xd [(("path" : Str), v)]))
theorem pmk_NoEntry {a : Expr} {ta : TA} {p pos : Pos} {k : Nat} (T : PySem.NoEntryX.NoEntryTxt X.K X.mg C fI) (hr : Room k X.A) (ha : PA X [a] ta) (hg : Gl X "NoEntry" := by rfl)
    (he : starEach (a :: []) X.env = (false, eval a X.env) :: starEach [] X.env := by rfl) (hpl : (backTo pos (starEach [] X.env)).any (·.1) = false := by rfl) :
    PMk X (.Call (.Name "NoEntry" p) [a] [] pos) (tMkNoEntry C ta) := by
  intro pins s σ H Q I h
  refine wpAny_Call_Name_kw (ld_glob I hg T.gC ?_)
  refine PySem.W.callWith_K (h₀ := X.base) I.ok.mod.kin T.kC (thn (ha.run pos pins s σ H _ I h) fun us s1 hh => ?_) he hpl
  obtain ⟨vs, H1, I1, r1, v, ev, q1⟩ := hh
  subst ev
  refine ⟨I1.kIn, ?_⟩
  cases r1 with
  | cons rv rn =>
    rename_i v' us'
    cases rn
    show wpAny _ _ (call (.ref C) [v']) _ _ _
    have hlim := I1.nolimit
    obtain ⟨hp, g, dr, tk, os⟩ := s1
    refine wpAny_call (PySem.NoEntryX.low_made T I1.kIn hlim (by have := hr.dp; omega) fun h' tk' e d M => ?_)
    show MkP X pins σ Q (.ref e) ⟨h', g, dr, tk', os⟩
    obtain ⟨oe, fv, hoe, hc, hd, hdat, h1⟩ := M.obj
    have hns := M.ns
    obtain ⟨G', g1, g2⟩ := restrict h' fun b => decide (b ≠ e)
    have gk : ∀ b, b ≠ e → G'.get? b = h'.get? b := fun b hb => g1 b (decide_eq_true hb)
    have ge : G'.get? e = none := g2 e (by simp)
    have old : ∀ b o, hp.get? b = some o → G'.get? b = some o := fun b o q => (gk b (Nat.ne_of_lt (Nat.lt_of_lt_of_le (Heap.lt_size q) M.new))).trans (M.keep b o q)
    have ob : ObjOk X.prog X.w (upd H1 d (.xd [(("path" : Str), v)])) G' d (.xd [(("path" : Str), v)]) :=
      ⟨_, hns.at (fun o q => (gk d M.dne).trans q), fun f => relO_NoEntry rv f⟩
    have J : Inv X pins σ (upd H1 d (.xd [(("path" : Str), v)])) ⟨G', g, dr, tk', os⟩ := I1.laid (t' := tk') old M.dbig ob
    refine ⟨e, oe, fv, ⟨G', g, dr, tk', os⟩, _, .ref C, some d, rfl, J, fun b o q => ?_, ge, hoe, ⟨hc, hd⟩, hdat, h1, ?_, rfl, I1.bare, raises_own T.exC T.tyC, q1 d (I1.hok.fresh M.dbig)⟩
    · by_cases hb : b = e
      · have q' : G'.get? b = some o := q
        rw [hb, ge] at q'; cases q'
      · exact (gk b hb).symm.trans q
    · rw [upd_ne (Ne.symm M.dne)]
      exact I1.hok.fresh M.new
/-- raise Low(e) -/
def tRaiseNoEntry (C : Addr) (W : WX) (ta : TA) : TS := fun _ σ H => tMkNoEntry C ta σ H fun cls d H' => W cls d σ H'
theorem ps_raiseNoEntry {a : Expr} {ta : TA} {W : WX} {p pos pos2 : Pos} {k : Nat} (hc : X.calm = true) (T : PySem.NoEntryX.NoEntryTxt X.K X.mg C fI) (hr : Room k X.A) (tk : Takes X W) (ha : PA X [a] ta) (hg : Gl X "NoEntry" := by rfl)
    (he : starEach (a :: []) X.env = (false, eval a X.env) :: starEach [] X.env := by rfl) (hpl : (backTo pos (starEach [] X.env)).any (·.1) = false := by rfl) :
    PS X (.Raise (some (.Call (.Name "NoEntry" p) [a] [] pos)) none pos2) (tRaiseNoEntry C W ta) := ps_raise hc tk (pmk_NoEntry T hr ha hg he hpl)
/-- low.by, low the exception that the suite holds (at a; its class cls, its dict d) -/
def tOfNoEntry (C : Addr) (a : Addr) (cls : Value) (d : Option Addr) (te : TE) : TE := fun σ H Q => te σ H fun x H1 => x = .ref a ∧ cls = .ref C ∧ ∃ (dd : Addr) (v : V), d = some dd ∧ H1 dd = some (.xd [(("path" : Str), v)]) ∧ Q v H1
theorem pe_ofNoEntry {a : Addr} {oe : Obj} {cls : Value} {d : Option Addr} {pn : List (Addr × Obj)} {e : Expr} {te : TE} {pos : Pos} (T : PySem.NoEntryX.NoEntryTxt X.K X.mg C fI) (hz : Zc cls d oe) (hf : ∃ vs, oe.data = .fields vs) (he : PE (X.suite a ((a, oe) :: pn)) e te)
    (hb : attributeBase e "path" X.env (eval e X.env) = eval e X.env := by rfl) :
    PE (X.suite a ((a, oe) :: pn)) (.Attribute e "path" pos) (tOfNoEntry C a cls d te) := by
  refine ⟨fun pins s σ H Q I h => ?_⟩
  refine attr_of hb (thn (he.run pins s σ H _ I h) fun u s1 hh => ?_)
  obtain ⟨x, H1, I1, rx, ex, ec, dd, v, ed, ea, q⟩ := hh
  subst ex
  obtain rfl : u = Value.ref a := rx
  subst ec
  subst ed
  obtain ⟨ha, _⟩ := I1.pin (a, oe) (List.mem_append_left _ List.mem_cons_self)
  obtain ⟨vs, hd⟩ := hf
  have hx : ObjOk X.prog X.w H1 s1.heap dd (.xd [(("path" : Str), v)]) := I1.hok dd _ ea
  obtain ⟨mA, hns, hr⟩ := hx
  obtain ⟨od, ho, hl⟩ := lookIn_ns hns
  have l : List.lookup ("path" : Str) [(("path" : Str), v)] = some v := by simp [List.lookup]
  obtain ⟨u, hu, ru⟩ := RelO.some_of (v := v) (o := mA "path") (by rw [← l]; exact hr "path")
  have J : PySem.W.InstAt s1.heap a oe C (some od) := ⟨ha, hz.1, by unfold PySem.W.notCls; rw [hd] <;> rfl, by rw [hz.2]; exact ho⟩
  exact HandSPX.exc_get I1.kIn J T.ga T.gg T.exC (PySem.W.findObj_own T.hdC T.noN rfl (by rw [hl, hu])) (handed_of ru) ⟨v, H1, I1.tok _, ru, q⟩
end
end L2


set_option Elab.async false
set_option linter.all false
set_option maxRecDepth 100000
set_option maxHeartbeats 4000000
namespace K5
open PySem PySem.Spec PyProof.Rows L2 LF TL
abbrev s_changed : Stmt := inClass s_Package 12
theorem sc_changed : FnScope ["self", "path", "item", "entries"] ["self", "path", "item"] (defScope s_changed) := ⟨rfl, rfl, rfl, by decide +kernel, rfl, by decide +kernel, by decide +kernel⟩
abbrev s_without : Stmt := inClass s_Package 13
abbrev N_without : List Str := ["self", "path", "left", "place"]
theorem sc_without : FnScope ["self", "path", "left", "place"] ["self", "path"] (defScope s_without) := ⟨rfl, rfl, rfl, by decide +kernel, rfl, by decide +kernel, by decide +kernel⟩
abbrev s_len : Stmt := inClass s_Package 15
theorem sc_len : FnScope ["self"] ["self"] (defScope s_len) := ⟨rfl, rfl, rfl, by decide +kernel, rfl, by decide +kernel, by decide +kernel⟩
abbrev s_eq : Stmt := inClass s_Package 16
theorem sc_eq : FnScope ["self", "other"] ["self", "other"] (defScope s_eq) := ⟨rfl, rfl, rfl, by decide +kernel, rfl, by decide +kernel, by decide +kernel⟩
abbrev s_repr : Stmt := inClass s_Package 17
theorem sc_repr : FnScope ["self"] ["self"] (defScope s_repr) := ⟨rfl, rfl, rfl, by decide +kernel, rfl, by decide +kernel, by decide +kernel⟩
abbrev s_files : Stmt := inClass s_Package 8
theorem sc_files : FnScope ["self"] ["self"] (defScope s_files) := ⟨rfl, rfl, rfl, by decide +kernel, rfl, by decide +kernel, by decide +kernel⟩
abbrev s_folders : Stmt := inClass s_Package 9
theorem sc_folders : FnScope ["self"] ["self"] (defScope s_folders) := ⟨rfl, rfl, rfl, by decide +kernel, rfl, by decide +kernel, by decide +kernel⟩
/-- what is known of a package's class -/
structure PkIs (K : PySem.W.Frag) (C : Addr) : Prop where
  cl : Cls K C
  ha : PySem.W.findIn K (.ref C) "__class__" = some (some (.builtin "object.__class__"))
  hn : PySem.W.specialIn K (.builtin "object.__class__") "__get__" = some (some (.builtin "getset_descriptor.__get__"))
  ht : PySem.W.takesIn K (.builtin "object.__class__") = some true
  hm : PySem.W.mroIn K C (.type "object") = some true
  kC : PySem.W.kitOne K (.ref C) (.ref C) = some true
  kL : PySem.W.kitOne K (.type "list") (.ref C) = some false
def spLen (C : Addr) : Sp := fun vs H Q _ => ∃ p es, vs = [.ref p] ∧ PkAt C H p es ∧ ∀ H', Same H H' → Q (.int es.length) H'
def spEqA (C : Addr) : Sp := fun vs H Q _ => ∃ a es y, vs = [.ref a, y] ∧ PkAt C H a es ∧ OkE es ∧
  ((∃ b es2, y = .ref b ∧ PkAt C H b es2 ∧ OkE es2 ∧ Q (.bl (dEq (kv es) (kv es2))) H) ∨ (∃ l xs, y = .ref l ∧ H l = some (.lst xs) ∧ Q (.bl false) H))
theorem flat_kv {es : List (Str × V)} (ok : OkE es) : ∀ p ∈ kv es, flatP p.2 = true := fun p hp => by
  obtain ⟨e, he, rfl⟩ := List.mem_map.mp hp
  rcases (ok.it e he).1 with h | ⟨i, h⟩ | ⟨z, h, _⟩ <;> (show flatP e.2 = true) <;> rw [h] <;> rfl
def numT (n : Nat) : Str := Str.ofString (toString (n : Int))
def reprT (es : List (Str × V)) : Str := "Package(" ++ (numT (pathsOf es "file").length ++ " files, " ++ numT (pathsOf es "folder").length ++ " folders, ") ++ numT (pathsOf es "reference").length ++ " references)"
theorem log_len {n : Nat} (h : n ≤ 1000) : ((n : Int).natAbs).log2 < 1920 := by
  have e : (n : Int).natAbs = n := rfl
  rw [e]
  by_cases h0 : n = 0
  · rw [h0]; decide
  · have := (Nat.log2_lt (n := n) (k := 11) h0).mpr (by omega)
    omega
theorem num_len {n : Nat} (h : n ≤ 1000) : (numT n).length ≤ 13 := by
  have := int_text_length_le10 (a := (n : Int)) (k := 10) (by decide) (by show n < 10 ^ 10; omega)
  unfold numT
  rw [PySem.ofString_length]; omega
theorem paths_len (es : List (Str × V)) (kd : Str) : (pathsOf es kd).length ≤ es.length := by
  unfold pathsOf
  rw [List.length_map]
  exact List.length_filter_le _ _
theorem repr_same (a b c : Str) : Str.empty ++ "Package(" ++ a ++ " files, " ++ b ++ " folders, " ++ c ++ " references)" = "Package(" ++ (a ++ " files, " ++ b ++ " folders, ") ++ c ++ " references)" := by
  refine ext_tl ?_
  simp only [tl_append]
  have e2 : tl Str.empty = [] := rfl
  rw [e2]
  simp only [List.nil_append, List.append_assoc]
def spReprP (C : Addr) : Sp := fun vs H Q _ => ∃ p es, vs = [.ref p] ∧ PkAt C H p es ∧ OkE es ∧ es.length ≤ 1000 ∧ ∀ H', Same H H' → Q (.str (reprT es)) H'
section
variable {P : Program} {w : World} {K : PySem.W.Frag} {mg : Str → Option Value} {base : Heap} {tk1 tk2 : Tok}
theorem ok_files {f f1 C : Addr} {fd fd1 : FuncData} (F : Fun K "files" "Package.files" s_files f fd) (R : PkTxt K mg C) (mP : Meth K C "paths_of" f1) (FP : FnOk P w K mg base CX0 2 f1 fd1 ["self", "kind"] (spPathsOf C)) (bP : Binds K fd1 ["self", "kind"] []) : FnOk P w K mg base CX0 3 f fd ["self"] (spRefs C "file") := by
  refine F.ok sc_files (fun vs H Q E h => ?_) (fun cdv A outer s H vs Q E hr h => ?_)
  · obtain ⟨p, es, rfl, _⟩ := h
    rfl
  refine ⟨_, pss_one (ps_ret (pe_meth (pv 0) R.cl mP FP hr bP .nil pass0 (pa_cons pe_str pa_nil))), ?_⟩
  obtain ⟨p, es, rfl, ⟨dx, d, ⟨xx_hp, hp, zz_hp⟩, hd⟩, ok, hq⟩ := h
  exact ⟨_, rfl, p, dx, _, rfl, hp, lk_no d (by decide +kernel), p, es, "file", rfl, ⟨dx, d, ⟨xx_hp, hp, zz_hp⟩, hd⟩, ok, hq⟩
theorem ok_folders {f f1 C : Addr} {fd fd1 : FuncData} (F : Fun K "folders" "Package.folders" s_folders f fd) (R : PkTxt K mg C) (mP : Meth K C "paths_of" f1) (FP : FnOk P w K mg base CX0 2 f1 fd1 ["self", "kind"] (spPathsOf C)) (bP : Binds K fd1 ["self", "kind"] []) : FnOk P w K mg base CX0 3 f fd ["self"] (spRefs C "folder") := by
  refine F.ok sc_folders (fun vs H Q E h => ?_) (fun cdv A outer s H vs Q E hr h => ?_)
  · obtain ⟨p, es, rfl, _⟩ := h
    rfl
  refine ⟨_, pss_one (ps_ret (pe_meth (pv 0) R.cl mP FP hr bP .nil pass0 (pa_cons pe_str pa_nil))), ?_⟩
  obtain ⟨p, es, rfl, ⟨dx, d, ⟨xx_hp, hp, zz_hp⟩, hd⟩, ok, hq⟩ := h
  exact ⟨_, rfl, p, dx, _, rfl, hp, lk_no d (by decide +kernel), p, es, "folder", rfl, ⟨dx, d, ⟨xx_hp, hp, zz_hp⟩, hd⟩, ok, hq⟩
theorem ok_len {f C : Addr} {fd : FuncData} (F : Fun K "__len__" "Package.__len__" s_len f fd) (T : Txt K mg tk1 tk2) (R : PkTxt K mg C) : FnOk P w K mg base CX0 1 f fd ["self"] (spLen C) := by
  refine F.ok sc_len (fun vs H Q E h => ?_) (fun cdv A outer s H vs Q E hr h => ?_)
  · obtain ⟨p, es, rfl, _⟩ := h
    rfl
  refine ⟨_, pss_one (ps_ret (pe_callB call_lenD (by rfl) T.n_len (by decide +kernel) (pa_cons (pe_fld (pv 0) rfl) pa_nil))), ?_⟩
  obtain ⟨p, es, rfl, ⟨dx, d, ⟨xx_h1, h1, zz_h1⟩, h2⟩, hq⟩ := h
  refine ⟨_, rfl, p, C, dx, _, _, rfl, h1, R.cl, R.nE, lk_entries d, d, kv es, rfl, h2, ?_⟩
  rw [kv_length]
  exact hq H (Same.refl H)
theorem ok_eq {f C : Addr} {fd : FuncData} (F : Fun K "__eq__" "Package.__eq__" s_eq f fd) (T : Txt K mg tk1 tk2) (R : PkTxt K mg C) (I : PkIs K C) : FnOk P w K mg base CX0 1 f fd ["self", "other"] (spEqA C) := by
  refine F.ok sc_eq (fun vs H Q E h => ?_) (fun cdv A outer s H vs Q E hr h => ?_)
  · obtain ⟨a, es, y, rfl, _⟩ := h
    rfl
  have hu1 := hu_of hr
  refine ⟨_, pss_one (ps_ret (pe_and (pe_callB call_isi (by rfl) T.n_isinstance (by decide +kernel) (pa_cons (pv 1) (pa_cons (pe_glob (v := .ref C) rfl R.gC rfl) pa_nil))) (pe_one (pe_cmpR (op_eqG (Nat.lt_of_succ_lt hu1)) (pe_fld (pv 0) rfl) (pe_fld (pv 1) rfl) (nomark _))))), ?_⟩
  obtain ⟨a, es, y, rfl, ⟨dx, d, ⟨xx_h1, h1, zz_h1⟩, h2⟩, ok, ⟨b, es2, rfl, ⟨dy, e, ⟨xx_h3, h3, zz_h3⟩, h4⟩, ok2, hq⟩ | ⟨l, xs, rfl, hl, hq⟩⟩ := h
  · refine ⟨_, rfl, _, .ref C, _, _, true, rfl, .own C, .base (.ins h3 I.cl I.ha I.hn I.ht I.hm), I.kC, ?_⟩
    refine ⟨true, rfl, iteT ?_⟩
    refine ⟨_, rfl, a, C, dx, _, _, rfl, h1, R.cl, R.nE, lk_entries d, ?_⟩
    refine ⟨_, rfl, b, C, dy, _, _, rfl, h3, R.cl, R.nE, lk_entries e, ?_⟩
    exact ⟨d, e, kv es, kv es2, rfl, rfl, h2, h4, flat_kv ok, flat_kv ok2, hq⟩
  · refine ⟨_, rfl, _, .ref C, _, _, false, rfl, .own C, .base (.lst hl), I.kL, ?_⟩
    exact ⟨false, rfl, iteF hq⟩
/-- the questions of a package that are properties -/
structure Props (P : Program) (w : World) (K : PySem.W.Frag) (mg : Str → Option Value) (base : Heap) (C p1 p2 p3 g1 g2 g3 : Addr) (fd1 fd2 fd3 : FuncData) : Prop where
  q1 : PropOf K C "files" p1 g1
  F1 : FnOk P w K mg base CX0 3 g1 fd1 ["self"] (spRefs C "file")
  b1 : Binds K fd1 ["self"] []
  q2 : PropOf K C "folders" p2 g2
  F2 : FnOk P w K mg base CX0 3 g2 fd2 ["self"] (spRefs C "folder")
  b2 : Binds K fd2 ["self"] []
  q3 : PropOf K C "references" p3 g3
  F3 : FnOk P w K mg base CX0 3 g3 fd3 ["self"] (spRefs C "reference")
  b3 : Binds K fd3 ["self"] []
theorem ok_repr {f C p1 p2 p3 g1 g2 g3 : Addr} {fd fd1 fd2 fd3 : FuncData} (F : Fun K "__repr__" "Package.__repr__" s_repr f fd) (T : Txt K mg tk1 tk2) (R : PkTxt K mg C) (G : Props P w K mg base C p1 p2 p3 g1 g2 g3 fd1 fd2 fd3) : FnOk P w K mg base CX0 5 f fd ["self"] (spReprP C) := by
  refine F.ok sc_repr (fun vs H Q E h => ?_) (fun cdv A outer s H vs Q E hr h => ?_)
  · obtain ⟨p, es, rfl, _⟩ := h
    rfl
  refine ⟨_, (pss_one (ps_ret (pe_joined (PJ.cons pe_str (PJ.cons (pe_fmt (pe_callB call_len_seq (by rfl) T.n_len (by decide +kernel) (pa_cons (pe_prop (pv 0) R.cl G.q1 G.F1 (hr.mono (by decide)) G.b1 .nil pass0 rfl) pa_nil))) (PJ.cons pe_str (PJ.cons (pe_fmt (pe_callB call_len_seq (by rfl) T.n_len (by decide +kernel) (pa_cons (pe_prop (pv 0) R.cl G.q2 G.F2 (hr.mono (by decide)) G.b2 .nil pass0 rfl) pa_nil))) (PJ.cons pe_str (PJ.cons (pe_fmt (pe_callB call_len_seq (by rfl) T.n_len (by decide +kernel) (pa_cons (pe_prop (pv 0) R.cl G.q3 G.F3 (hr.mono (by decide)) G.b3 .nil pass0 rfl) pa_nil))) (PJ.cons pe_str PJ.nil)))))))))), ?_⟩
  obtain ⟨p, es, rfl, pk, ok, hl, hq⟩ := h
  have hbig := sizeLine_big
  have n1 := paths_len es "file"
  have n2 := paths_len es "folder"
  have n3 := paths_len es "reference"
  have l1 := num_len (n := (pathsOf es "file").length) (by omega)
  have l2 := num_len (n := (pathsOf es "folder").length) (by omega)
  have l3 := num_len (n := (pathsOf es "reference").length) (by omega)
  have a1 : (" files, " : Str).length = 8 := by decide +kernel
  have a2 : (" folders, " : Str).length = 10 := by decide +kernel
  have a3 : (" references)" : Str).length = 12 := by decide +kernel
  have a4 : ("Package(" : Str).length = 8 := by decide +kernel
  have l0 : Str.empty.length = 0 := rfl
  obtain ⟨dx, d, ⟨xx_h1, h1, zz_h1⟩, h2⟩ := id pk
  refine ⟨_, rfl, by simp only [len_app, l0, a1, a2, a3, a4]; omega, ?_⟩
  refine ⟨_, rfl, p, dx, _, rfl, h1, p, es, rfl, pk, ok, fun H1 q1 s1 _ hq1 => ⟨q1, _, rfl, Or.inl (SqL.of hq1), Or.inr ⟨_, rfl, ?_, ?_⟩⟩⟩
  · rw [List.length_map]; exact log_len (by omega)
  rw [List.length_map]
  refine ⟨numT (pathsOf es "file").length, rfl, by simp only [len_app, l0, a1, a2, a3, a4]; omega, _, rfl, by simp only [len_app, l0, a1, a2, a3, a4]; omega, ?_⟩
  have h1' := s1 _ _ h1
  have pk1 := pk.same s1
  refine ⟨_, rfl, p, dx, _, rfl, h1', p, es, rfl, pk1, ok, fun H2 q2 s2 _ hq2 => ⟨q2, _, rfl, Or.inl (SqL.of hq2), Or.inr ⟨_, rfl, ?_, ?_⟩⟩⟩
  · rw [List.length_map]; exact log_len (by omega)
  rw [List.length_map]
  refine ⟨numT (pathsOf es "folder").length, rfl, by simp only [len_app, l0, a1, a2, a3, a4]; omega, _, rfl, by simp only [len_app, l0, a1, a2, a3, a4]; omega, ?_⟩
  have h1'' := s2 _ _ h1'
  have pk2 := pk1.same s2
  refine ⟨_, rfl, p, dx, _, rfl, h1'', p, es, rfl, pk2, ok, fun H3 q3 s3 _ hq3 => ⟨q3, _, rfl, Or.inl (SqL.of hq3), Or.inr ⟨_, rfl, ?_, ?_⟩⟩⟩
  · rw [List.length_map]; exact log_len (by omega)
  rw [List.length_map]
  refine ⟨numT (pathsOf es "reference").length, rfl, by simp only [len_app, l0, a1, a2, a3, a4]; omega, _, rfl, by simp only [len_app, l0, a1, a2, a3, a4]; omega, ?_⟩
  rw [repr_same]
  exact hq H3 ((s1.trans s2).trans s3)
end
end K5

set_option Elab.async false
set_option linter.all false
set_option maxRecDepth 100000
set_option maxHeartbeats 4000000
namespace LF
open PySem PySem.Spec PyProof.Rows L2
/-- C(e, ..), what is raised is wished for at the caller's slots -/
def tMakeA (C : Addr) (sp : Sp) (dvs : List V) (E : L2.St → XK) (t : TA) : TE := fun σ H Q => t σ H fun vs H1 => ∀ x dx, H1 x = none → H1 dx = none → dx ≠ x →
  sp (.ref x :: (vs ++ dvs)) (upd (upd H1 dx (.own x)) x (.ins C dx [])) (fun v H2 => v = .non ∧ Q (.ref x) H2) (E σ)
section
variable {X : Cx} {CX : CXT} {k : Nat} {C f : Addr} {fd : FuncData} {ps : List Str} {sp : Sp} {dvs : List V} {ds : List Value} {E : XK} {x : Str} {p pos : Pos} {e : Expr} {es : List Expr} {t : TA}
theorem run_makeA {pins : List (Addr × Obj)} {σ : L2.St} {H : Hp} {s : Shared} {Q : VK} {us : List Value} {vs : List V} (M : Mk X.K C f) (F : FnOk X.prog X.w X.K X.mg X.base CX k f fd ps sp) (hr : Room (k + 1) X.A) (hb : Binds X.K fd ps ds) (hd : Vals dvs ds)
    (hx : PassesAt CX X σ E) (I : Inv X pins σ H s) (r : Vals vs us)
    (h : ∀ x dx, H x = none → H dx = none → dx ≠ x → sp (.ref x :: (vs ++ dvs)) (upd (upd H dx (.own x)) x (.ins C dx [])) (fun v H2 => v = .non ∧ Q (.ref x) H2) E) :
    wpAny (model X.prog X.w) X.A (call (.ref C) us) (EP X pins σ Q) X.xe s := by
  have hq := h (s.heap.objs.size + 1) s.heap.objs.size (I.hok.fresh (Nat.le_succ _)) (I.hok.fresh (Nat.le_refl _)) (Nat.ne_of_lt (Nat.lt_succ_self _))
  have I2 := Inv.made (C := C) I
  have r2 : Vals (V.ref (s.heap.objs.size + 1) :: (vs ++ dvs)) (Value.ref (s.heap.objs.size + 1) :: (us ++ ds)) := .cons rfl (r.append hd)
  have hl : (Value.ref (s.heap.objs.size + 1) :: us ++ ds).length = ps.length := by
    have e := r2.length
    rw [F.len _ _ _ _ hq] at e
    exact e.symm
  refine wpAny_call (make_map (f := f) I.kIn M.makes M.init (beq_iff_eq.mp M.fn) (codeAny_mono (F.run _ X.stack _ _ ⟨Value.ref (s.heap.objs.size + 1) :: us, []⟩ (Value.ref (s.heap.objs.size + 1) :: (us ++ ds)) _ _ E (hr.make C us [])
    (I2.env0.make C us []) (hb _ (Value.ref (s.heap.objs.size + 1) :: us) I2.kIn hl) r2 hq) fun r s' hq' => ?_))
  cases r with
  | error e => exact hx pins _ _ e s' I2 hq'
  | ok fl =>
    cases fl with
    | ret u =>
      obtain ⟨v, H', I3, rv, ev, q3⟩ := I2.after hq'
      subst ev
      exact ⟨rv, ⟨V.ref (s.heap.objs.size + 1), H', I3, rfl, q3⟩⟩
    | next => exact False.elim hq'
    | brk => exact False.elim hq'
    | cont => exact False.elim hq'
end
theorem pe_makeA {X : Cx} {CX : CXT} {k : Nat} {C f : Addr} {fd : FuncData} {ps : List Str} {sp : Sp} {dvs : List V} {ds : List Value} {E : L2.St → XK} {x : Str} {p pos : Pos} {e : Expr} {es : List Expr} {t : TA} (M : Mk X.K C f) (F : FnOk X.prog X.w X.K X.mg X.base CX k f fd ps sp) (hr : Room (k + 1) X.A) (hg : Gl X x) (hm : X.mg x = some (.ref C)) (hb : Binds X.K fd ps ds) (hd : Vals dvs ds) (hx : ∀ σ, PassesAt CX X σ (E σ))
    (ha : PA X (e :: es) t) (hdb : (x == ("__debug__" : Str)) = false := by decide) (he : starEach (e :: es) X.env = (false, eval e X.env) :: starEach es X.env := by rfl) (hpl : (backTo pos (starEach es X.env)).any (·.1) = false := by rfl) :
    PE X (.Call (.Name x p) (e :: es) [] pos) (tMakeA C sp dvs E t) := by
  refine ⟨fun pins s σ H Q I h => ?_⟩
  refine wpAny_Call_Name_kw (ld_glob I hg hm ?_ hdb)
  refine PySem.W.callWith_K (h₀ := X.base) I.ok.mod.kin M.kp (thn (ha.run pos pins s σ H _ I h) fun us s1 ⟨vs, H1, I1, r, q⟩ => ⟨I1.kIn, ?_⟩) he hpl
  exact run_makeA M F hr hb hd (hx σ) I1 r q
end LF

set_option Elab.async false
set_option linter.all false
set_option maxRecDepth 100000
set_option maxHeartbeats 4000000
namespace K5
open PySem PySem.Spec PyProof.Rows L2 LF TL
/-- an entry put in, in its place or at the end -/
def putE (es : List (Str × V)) (p : Str) (v : V) : List (Str × V) := if (es.any fun e => decide (e.1 = p)) = true then es.map (fun e => if e.1 = p then (e.1, v) else e) else es ++ [(p, v)]
theorem kv_putE (es : List (Str × V)) (p : Str) (v : V) : putK (kv es) (.inr p) v = kv (putE es p v) := by
  unfold putK putE kv
  have e1 : ((es.map fun e => ((.inr e.1 : Key), e.2)).any fun q => decide (q.1 = .inr p)) = (es.any fun e => decide (e.1 = p)) := by
    rw [List.any_map]
    congr 1
    funext e
    simp
  rw [e1]
  by_cases h : (es.any fun e => decide (e.1 = p)) = true
  · rw [if_pos h, if_pos h, List.map_map, List.map_map]
    refine List.map_congr_left fun e _ => ?_
    show (if ((.inr e.1 : Key)) = .inr p then ((.inr e.1 : Key), v) else (.inr e.1, e.2)) = (fun e : Str × V => ((.inr e.1 : Key), e.2)) (if e.1 = p then (e.1, v) else e)
    by_cases h2 : e.1 = p
    · rw [if_pos (by rw [h2]), if_pos h2]
    · rw [if_neg (fun q => h2 (Sum.inr.inj q)), if_neg h2]
  · rw [if_neg h, if_neg h, List.map_append]; rfl
theorem mem_putE {es : List (Str × V)} {p : Str} {v : V} {e : Str × V} (h : e ∈ putE es p v) : e ∈ es ∨ e = (p, v) := by
  unfold putE at h
  split at h
  · obtain ⟨e2, h1, rfl⟩ := List.mem_map.mp h
    by_cases h2 : e2.1 = p
    · rw [if_pos h2, h2]; exact Or.inr rfl
    · rw [if_neg h2]; exact Or.inl h1
  · rcases List.mem_append.mp h with h | h
    · exact Or.inl h
    · exact Or.inr (List.mem_singleton.mp h)
theorem keys_putE (es : List (Str × V)) (p : Str) (v : V) : (putE es p v).map (·.1) = if (es.any fun e => decide (e.1 = p)) = true then es.map (·.1) else es.map (·.1) ++ [p] := by
  unfold putE
  split
  · rw [List.map_map]
    refine List.map_congr_left fun e _ => ?_
    show (if e.1 = p then (e.1, v) else e).1 = e.1
    split <;> rfl
  · rw [List.map_append]; rfl
theorem any_key {es : List (Str × V)} {p : Str} : (es.any fun e => decide (e.1 = p)) = true ↔ p ∈ es.map (·.1) := by
  rw [List.any_eq_true, List.mem_map]
  constructor
  · rintro ⟨e, h1, h2⟩
    exact ⟨e, h1, of_decide_eq_true h2⟩
  · rintro ⟨e, h1, h2⟩
    exact ⟨e, h1, decide_eq_true h2⟩
theorem nd_putE {es : List (Str × V)} {p : Str} {v : V} (nd : (es.map (·.1)).Nodup) : ((putE es p v).map (·.1)).Nodup := by
  rw [keys_putE]
  split
  · exact nd
  · rename_i h
    rw [List.nodup_append]
    refine ⟨nd, List.nodup_cons.mpr ⟨List.not_mem_nil, .nil⟩, fun x hx y hy e => ?_⟩
    rw [List.mem_singleton.mp hy] at e
    exact h (any_key.mpr (e ▸ hx))
theorem len_putE (es : List (Str × V)) (p : Str) (v : V) : (putE es p v).length ≤ es.length + 1 := by
  unfold putE
  split
  · rw [List.length_map]; omega
  · rw [List.length_append]; exact Nat.le_refl _
theorem in_putE (es : List (Str × V)) (p : Str) (v : V) : p ∈ (putE es p v).map (·.1) := by
  rw [keys_putE]
  split
  · rename_i h
    exact any_key.mp h
  · exact List.mem_append_right _ (List.mem_singleton_self _)
theorem ent_putE {H : Hp} {es : List (Str × V)} {p : Str} {v : V} (ok : OkE es) (hl : es.length ≤ 100) (hp : p.length ≤ 1000) (hv : PlainX H v) : Ent H (putE es p v) := by
  refine ⟨fun e he => ?_, fun e he => ?_, nd_putE ok.nd, ?_⟩
  · rcases mem_putE he with h | rfl
    · have := (pl_short (ok.pl e h).1).2
      omega
    · show p.length ≤ 100000
      omega
  · rcases mem_putE he with h | rfl
    · exact Or.inl (ok.it e h).1
    · exact hv
  · have := len_putE es p v
    omega
/-- what stays without a path -/
def dropE (es : List (Str × V)) (p : Str) : List (Str × V) := es.filter fun e => !decide (e.1 = p) && !belowB e.1 p
def spChanged (K : PySem.W.Frag) (C CP CE CM : Addr) : Sp := fun vs H Q E => ∃ p es x y b, vs = [.ref p, x, y] ∧ PkAt C H p es ∧ OkE es ∧ es.length ≤ 100 ∧ isOk K H x isPt b ∧ (∀ z, x = .str z → z.length ≤ 1000) ∧ PlainX H y ∧
  (b = false → ∀ H' d, Same H H' → H' d = some (.xd [("path", x)]) → E (.ref CP) (some d) H') ∧
  ∀ z, x = .str z → b = true →
    (∀ q, firstBad (putE es z y) = some q → ∀ H' d, Same H H' → H' d = some (.xd [("path", .str q)]) → E (.ref CE) (some d) H') ∧
    (firstBad (putE es z y) = none → (pkE (putE es z y)).length ≤ 40 → ∀ H' p2, Same H H' → PkAt C H' p2 (pkE (putE es z y)) → Q (.ref p2) H') ∧
    (firstBad (putE es z y) = none → 40 < (pkE (putE es z y)).length → ∀ H' d, Same H H' → H' d = some (.xd [("limit", .int 40)]) → E (.ref CM) (some d) H')
def spWithout (K : PySem.W.Frag) (C CP CN : Addr) : Sp := fun vs H Q E => ∃ p es x b, vs = [.ref p, x] ∧ PkAt C H p es ∧ OkE es ∧ es.length ≤ 40 ∧ isOk K H x isPt b ∧ (∀ z, x = .str z → z.length ≤ 1000) ∧
  (b = false → ∀ H' d, Same H H' → H' d = some (.xd [("path", x)]) → E (.ref CP) (some d) H') ∧
  ∀ z, x = .str z → b = true →
    (z ∉ es.map (·.1) → ∀ H' d, Same H H' → H' d = some (.xd [("path", .str z)]) → E (.ref CN) (some d) H') ∧
    (z ∈ es.map (·.1) → ∀ H' p2, Same H H' → PkAt C H' p2 (dropE es z) → Q (.ref p2) H')
section
variable {P : Program} {w : World} {K : PySem.W.Frag} {mg : Str → Option Value} {base : Heap} {tk1 tk2 : Tok}
theorem ok_changed {f f1 C CP CE CM fI : Addr} {fd fd1 fdI : FuncData} (F : Fun K "changed" "Package.changed" s_changed f fd) (T : Txt K mg tk1 tk2) (R : PkTxt K mg C) (FC : FnOk P w K mg base (L2.CX P w) 4 f1 fd1 ["path"] (spCheckX K CP)) (gC : mg "check_path" = some (.ref f1)) (kC : PySem.W.keepIn K (.ref f1) = true) (bC : Binds K fd1 ["path"] [])
    (M : Mk K C fI) (FI : FnOk P w K mg base (L2.CX P w) 8 fI fdI ["self", "entries"] (spInX K C CE CM)) (bI : Binds K fdI ["self", "entries"] []) : FnOk P w K mg base (L2.CX P w) 10 f fd ["self", "path", "item"] (spChanged K C CP CE CM) := by
  refine F.okX sc_changed (fun vs H Q E h => ?_) (fun cdv A outer s H vs Q E hr h => ?_)
  · obtain ⟨p, es, x, y, b, rfl, _⟩ := h
    rfl
  have hu1 := hu_of hr
  refine ⟨_, (pss_cons (ps_expr (pe_callS FC (hr.mono (by decide)) rfl gC kC bC (fun σ => passAt (takes_of rfl rfl rfl rfl) σ) (by exact (pa_cons (pv 1) pa_nil))))
    (pss_cons (ps_set (i := 3) sc_changed.nd rfl (Or.inl rfl) (pe_callTy call_dictD (by rfl) T.n_dict (by decide +kernel) (pa_cons (pe_fld (pv 0) rfl) pa_nil)))
    (pss_cons (ps_dput hu1 (pv 3) (pv 1) (pv 2) rfl)
    (pss_one (ps_ret (pe_makeA M FI (hr.mono (by decide)) rfl R.gC bI .nil (fun σ => passAt (takes_of rfl rfl rfl rfl) σ) (by exact (pa_cons (pv 3) pa_nil)))))))), ?_⟩
  obtain ⟨p, es, x, y, b, rfl, ⟨dx, d, ⟨xx_h1, h1, zz_h1⟩, h2⟩, ok, hl, hx, hxl, hy, he, hq⟩ := h
  refine ⟨_, rfl, x, b, rfl, hx, fun hb H1 s1 => ?_, fun hb H1 dd s1 hdd => he hb H1 dd s1 hdd⟩
  subst hb
  obtain ⟨z, rfl, hz⟩ : ∃ z, x = .str z ∧ isPt z = true := by
    rcases hx with ⟨z, rfl, _, h⟩ | ⟨_, h⟩
    · exact ⟨z, rfl, h.symm⟩
    · cases h
  obtain ⟨q1, q2, q3⟩ := hq z rfl rfl
  have hzl := hxl z rfl
  have h1' := s1 _ _ h1
  have h2' := s1 _ _ h2
  have hbig := sizeLine_big
  refine ⟨_, rfl, p, C, dx, _, _, rfl, h1', R.cl, R.nE, lk_entries d, ?_⟩
  refine ⟨d, _, rfl, Or.inl h2', fun e hen => ?_⟩
  refine ⟨_, rfl, _, rfl, _, rfl, e, _, rfl, DPut.k (k := Sum.inr z) upd_same (by rw [kv_length]; omega), ?_⟩
  rw [kv_putE]
  have S1 : Same H (upd (upd H1 e (.dK (kv es))) e (.dK (kv (putE es z y)))) := s1.trans (fun c o ec => by rw [upd_ne (ne_of_none ec hen), upd_ne (ne_of_none ec hen)]; exact ec)
  have he2 : (upd (upd H1 e (.dK (kv es))) e (.dK (kv (putE es z y)))) e = some (.dK (kv (putE es z y))) := upd_same
  generalize (upd (upd H1 e (.dK (kv es))) e (.dK (kv (putE es z y)))) = H2 at S1 he2
  refine ⟨_, rfl, fun n dn hn hdn ndn => ?_⟩
  have np : n ≠ dn := Ne.symm ndn
  have spx : (upd (upd H2 dn (.own n)) n (.ins C dn [])) n = some (.ins C dn []) := upd_same
  have s0 : Same H2 (upd (upd H2 dn (.own n)) n (.ins C dn [])) := (same_new hdn).trans (same_new (by rw [upd_ne np]; exact hn))
  generalize (upd (upd H2 dn (.own n)) n (.ins C dn [])) = H0 at spx s0
  have back : ∀ {H'}, Keep n H0 H' → Same H2 H' := fun k b o e => k b o (fun z => by rw [z, hn] at e; cases e) (s0 _ _ e)
  refine ⟨n, dn, _, rfl, spx, Or.inl ⟨putE es z y, Or.inr ⟨e, rfl, s0 _ _ he2⟩, ent_putE ok hl hzl ((hy.same S1).same s0), fun q hq H' dd k hdd => ?_, fun hfb hl H' k pk => ?_, fun hfb hl H' dd k hdd => ?_⟩⟩
  · exact q1 q hq H' dd (S1.trans (back k)) hdd
  · exact ⟨rfl, q2 hfb hl H' n (S1.trans (back k)) pk⟩
  · exact q3 hfb hl H' dd (S1.trans (back k)) hdd
end
end K5


set_option Elab.async false
set_option linter.all false
set_option maxRecDepth 100000
set_option maxHeartbeats 4000000
namespace K5
open PySem PySem.Spec PyProof.Rows L2 LF TL
theorem begs_pl {y s : Str} (hy : isPl y = true) (h : s ∈ begs y) : ∃ a b c, y = jn a ∧ s = jn b ∧ a = b ++ c ∧ c ≠ [] ∧ b ≠ [] ∧ ∀ n ∈ a, isNm n = true := by
  obtain ⟨a, e1, e2, e3⟩ := isPl_jn hy
  subst e1
  rw [begs_jn e3.2] at h
  obtain ⟨i, hi, rfl⟩ := List.mem_map.mp h
  have hi2 := List.mem_range.mp hi
  refine ⟨a, a.take (i + 1), a.drop (i + 1), rfl, rfl, (List.take_append_drop _ _).symm, fun e => ?_, fun e => ?_, e3.2⟩
  · have := congrArg List.length e
    rw [List.length_drop] at this
    have h0 : ([] : List Str).length = 0 := rfl
    omega
  · have := congrArg List.length e
    rw [List.length_take] at this
    have h0 : ([] : List Str).length = 0 := rfl
    omega
theorem begs_trans {y s t : Str} (hy : isPl y = true) (hs : isPl s = true) (h1 : s ∈ begs y) (h2 : t ∈ begs s) : t ∈ begs y := by
  obtain ⟨a, b, c, rfl, rfl, e3, e4, e5, e6⟩ := begs_pl hy h1
  obtain ⟨b2, d, c2, f1, f2, f3, f4, f5, f6⟩ := begs_pl hs h2
  have hb : ∀ n ∈ b, isNm n = true := fun n hn => e6 n (by rw [e3]; exact List.mem_append_left _ hn)
  have e7 : b = b2 := jn_inj hb f6 f1
  rw [f2]
  refine (begs_iff e6 (fun n hn => hb n (by rw [e7, f3]; exact List.mem_append_left _ hn)) f5).mpr ⟨c2 ++ c, fun e => f4 (List.append_eq_nil_iff.mp e).1, ?_⟩
  rw [e3, e7, f3, List.append_assoc]
theorem mem_dropE {es : List (Str × V)} (ok : OkE es) {z : Str} (hz : isPl z = true) {e : Str × V} : e ∈ dropE es z ↔ e ∈ es ∧ e.1 ≠ z ∧ z ∉ begs e.1 := by
  unfold dropE
  rw [List.mem_filter]
  constructor
  · rintro ⟨h1, h2⟩
    rw [Bool.and_eq_true, below_begs (ok.pl e h1).1 hz] at h2
    exact ⟨h1, by simpa using h2.1, by simpa using h2.2⟩
  · rintro ⟨h1, h2, h3⟩
    refine ⟨h1, ?_⟩
    rw [Bool.and_eq_true, below_begs (ok.pl e h1).1 hz]
    exact ⟨by simpa using h2, by simpa using h3⟩
theorem okE_drop {es : List (Str × V)} (ok : OkE es) {z : Str} (hz : isPl z = true) : OkE (dropE es z) := by
  have sub : (dropE es z).Sublist es := List.filter_sublist
  have nd : ((dropE es z).map (·.1)).Nodup := ok.nd.sublist (sub.map _)
  refine ⟨fun e he => ok.pl e (sub.subset he), fun e he => ok.it e (sub.subset he), fun e he s hs => ?_, ok.le.sublist (sub.map _), nd, Nat.le_trans sub.length_le ok.len⟩
  obtain ⟨h1, h2, h3⟩ := (mem_dropE ok hz).mp he
  have h4 := mem_val ok.nd (ok.up e h1 s hs)
  refine val_mem nd ((mem_dropE ok hz).mpr ⟨h4, fun q => h3 (by rw [← q]; exact hs), fun q => h3 (begs_trans (ok.pl e h1).1 (ok.pl _ h4).1 hs q)⟩)
theorem bad_ok {es : List (Str × V)} (ok : OkE es) : firstBad es = none := by
  have hw : wrongs es = [] := by
    unfold wrongs
    rw [List.filter_eq_nil_iff]
    intro p hp
    obtain ⟨e, he, rfl⟩ := List.mem_map.mp hp
    rw [(ok.pl e he).1]
    exact Bool.false_ne_true
  unfold firstBad
  rw [hw]
  show List.find? _ _ = none
  rw [List.find?_eq_none]
  intro p hp
  obtain ⟨e, he, rfl⟩ := List.mem_map.mp (sort_mem.mp hp)
  unfold badAt liesB
  rw [val_mem ok.nd (p := e.1) (v := e.2) he]
  have h1 : ((begs e.1).any fun s => !decide ((valV (kv es) (.inr s)).getD .non = .non)) = false := by
    rw [List.any_eq_false]
    intro s hs
    rw [ok.up e he s hs]
    simp
  rw [h1, Bool.or_false]
  show ¬ (!itemV e.2) = true
  rw [(ok.it e he).2]
  exact Bool.false_ne_true
theorem ent_ok {H : Hp} {es : List (Str × V)} (ok : OkE es) (hl : es.length ≤ 1000) : Ent H es :=
  ⟨fun e he => by have := (pl_short (ok.pl e he).1).2; omega, fun e he => Or.inl (ok.it e he).1, ok.nd, hl⟩
section
variable {P : Program} {w : World} {K : PySem.W.Frag} {mg : Str → Option Value} {base : Heap} {tk1 tk2 : Tok}
theorem ok_without {f f1 f2 f3 C CP CE CM CN fN fI : Addr} {fd fd1 fd2 fd3 fdI : FuncData} (F : Fun K "without" "Package.without" s_without f fd) (T : Txt K mg tk1 tk2) (R : PkTxt K mg C) (FC : FnOk P w K mg base (L2.CX P w) 4 f1 fd1 ["path"] (spCheckX K CP)) (gC : mg "check_path" = some (.ref f1)) (kC : PySem.W.keepIn K (.ref f1) = true) (bC : Binds K fd1 ["path"] [])
    (LN : PySem.NoEntryX.NoEntryTxt K mg CN fN) (FN : FnOk P w K mg base CX0 1 f2 fd2 ["self", "thing"] (spIn2 K C)) (bN : Binds K fd2 ["self", "thing"] []) (sN : PySem.W.findIn K (.ref C) "__contains__" = some (some (.ref f2))) (iN : PySem.W.isFn K (.ref f2) = true)
    (d_below : DefAt P w K mg base "is_below" 1 f3 fd3 ["path", "folder"] spBelow)
    (M : Mk K C fI) (FI : FnOk P w K mg base (L2.CX P w) 8 fI fdI ["self", "entries"] (spInX K C CE CM)) (bI : Binds K fdI ["self", "entries"] []) : FnOk P w K mg base (L2.CX P w) 10 f fd ["self", "path"] (spWithout K C CP CN) := by
  refine F.okX sc_without (fun vs H Q E h => ?_) (fun cdv A outer s H vs Q E hr h => ?_)
  · obtain ⟨p, es, x, b, rfl, _⟩ := h
    rfl
  have hu1 := hu_of hr
  refine ⟨_, (pss_cons (ps_expr (pe_callS FC (hr.mono (by decide)) rfl gC kC bC (fun σ => passAt (takes_of rfl rfl rfl rfl) σ) (by exact (pa_cons (pv 1) pa_nil))))
    (pss_cons (ps_if (pt_cmpR (op_notinO FN (hr.mono (by decide)) bN sN iN) (pv 1) (pv 0) (by rfl)) (pss_one (ps_raiseNoEntry rfl LN hr (takes_of rfl rfl rfl rfl) (by exact (pa_cons (pv 1) pa_nil)))) pss_nil)
    (pss_cons (ps_lock (ps_setLc (i := 2) (own := [("place", 3)]) rfl sc_without.nd rfl rfl (sw_true rfl rfl rfl (by decide +kernel)) (pi_keys (pe_fld (pv 0) rfl)) (blkOk_by (N := N_without) (sc := defScope s_without) (by decide +kernel)) (fun _ _ _ _ _ => pg_name (i := 3) sc_without.nd rfl (Or.inl rfl)) (fun _ _ _ _ _ => (pts_one (PW.pt (pw_and (pt_cmpR op_ne (pv 3) (pv 1) (nomark _)) (pw_and1 (pt_not (pt_val (pe_callD d_below (hr.mono (by decide)) (pa_cons (pv 3) (pa_cons (pv 1) pa_nil)))))))))) (fun _ _ _ _ _ => (pv 3))))
    (pss_one (ps_ret (pe_makeA M FI (hr.mono (by decide)) rfl R.gC bI .nil (fun σ => passAt (takes_of rfl rfl rfl rfl) σ) (by exact (pa_cons (pe_dc (tv := tDGet (tFld K (tVar 0) "entries") (tVar 3)) (own := [("place", 3)]) rfl sc_without.nd (pi_list (pv 2)) (blkOk_by (N := N_without) (sc := defScope s_without) (by decide +kernel)) (fun _ _ _ _ _ => pg_name (i := 3) sc_without.nd rfl (Or.inl rfl)) (fun _ _ _ _ _ => pts_nil) (fun _ _ _ _ _ => pv 3) (fun _ _ _ _ _ => pe_dget hu1 (by exact pe_fld (pv 0) rfl) (pv 3) (fun _ _ => rfl))) pa_nil)))))))), ?_⟩
  obtain ⟨p, es, x, b, rfl, ⟨dx, d, ⟨xx_h1, h1, zz_h1⟩, h2⟩, ok, hl, hx, hxl, he, hq⟩ := h
  refine ⟨_, rfl, x, b, rfl, hx, fun hb H1 s1 => ?_, fun hb H1 dd s1 hdd => he hb H1 dd s1 hdd⟩
  subst hb
  obtain ⟨z, rfl, hz⟩ : ∃ z, x = .str z ∧ isPt z = true := by
    rcases hx with ⟨z, rfl, _, h⟩ | ⟨_, h⟩
    · exact ⟨z, rfl, h.symm⟩
    · cases h
  obtain ⟨q1, q2⟩ := hq z rfl rfl
  have hzl := hxl z rfl
  have hp := s1 _ _ h1
  have hd := s1 _ _ h2
  have hbig := sizeLine_big
  have npd : p ≠ d := ne_of hp hd (by intro z; cases z)
  refine ⟨_, rfl, _, rfl, p, dx, _, rfl, hp, p, es, _, rfl, ⟨dx, d, ⟨xx_h1, hp, zz_h1.same s1⟩, hd⟩, Or.inl ⟨z, rfl, fun H2 s2 => ⟨_, rfl, ?_⟩⟩⟩
  have S2 := s1.trans s2
  have hp2 := s2 _ _ hp
  have hd2 := s2 _ _ hd
  unfold inE
  cases hv : valV (kv es) (.inr z) with
  | none =>
    have hno : z ∉ es.map (·.1) := fun hm => by
      obtain ⟨v, h⟩ := key_val hm
      rw [hv] at h; cases h
    exact ⟨_, rfl, iteT ⟨_, rfl, _, rfl, fun dd hdd => q1 hno _ dd (S2.trans (same_new hdd)) upd_same⟩⟩
  | some v =>
    have hin := val_key hv
    obtain ⟨ez, hez, hez2⟩ := List.mem_map.mp hin
    have hzp : isPl z = true := by rw [← hez2]; exact (ok.pl ez hez).1
    refine ⟨_, rfl, iteF ?_⟩
    refine ⟨d, _, hd2, True.intro, fun od => ?_⟩
    refine ⟨_, rfl, p, C, dx, _, _, rfl, (by rw [upd_ne npd]; exact hp2), R.cl, R.nE, lk_entries d, ?_⟩
    refine ⟨d, od, rfl, Or.inl ⟨kv es, upd_same, fun D hD => ?_⟩⟩
    have hl0 : (upd H2 d (.frz od (.dK (kv es)))) d = some (.frz od (.dK (kv es))) := upd_same
    have hs0 : ∀ H', Same (upd H2 d (.frz od (.dK (kv es)))) H' → Same H2 (upd H' d (.dK (kv es))) := fun H' s' => same_unlock hd2 s'
    generalize (upd H2 d (.frz od (.dK (kv es)))) = L' at hl0 hs0 hD
    refine lc_keys (fun e => !decide (e.1 = z) && !belowB e.1 z) (fun e => .str e.1) hD hl0 (Nat.lt_of_le_of_lt hl (by decide)) ?_ ?_ ?_
    · rintro ⟨pth, v⟩ H3 R1 hm sm hR
      have hpl := (ok.pl _ hm).2
      refine ⟨_, rfl, _, rfl, rfl, _, rfl, ?_⟩
      refine ifN (fun h => ?_) (fun h => ?_)
      · have e : (!decide (pth = z) && !belowB pth z) = false := by rw [decide_eq_true (V.str.inj h)]; rfl
        have := hR H3 (Same.refl H3)
        rw [e] at this
        exact this
      · have e : (!decide (pth = z) && !belowB pth z) = !belowB pth z := by rw [decide_eq_false fun q => h (by rw [q])]; rfl
        refine ⟨_, rfl, _, rfl, pth, z, rfl, hpl, by omega, fun H4 s4 => ⟨_, rfl, ?_⟩⟩
        have := hR H4 s4
        rw [e] at this
        exact this
    · rintro ⟨pth, v⟩ H3 R1 hm hp sm hR
      exact ⟨_, rfl, hR H3 (Same.refl H3)⟩
    · rintro H3 sm hd1
      refine ⟨sm _ _ hl0, ?_⟩
      have nDd : D ≠ d := Ne.symm (ne_of_none hl0 hD)
      have s3 := hs0 _ sm
      have hD3 : (upd H3 d (.dK (kv es))) D = some (.lst (((dropE es z).map (·.1)).map V.str)) := by
        rw [upd_ne nDd, hd1]
        unfold dropE
        rw [List.map_map]; rfl
      generalize (upd H3 d (.dK (kv es))) = H5 at s3 hD3
      have hp5 := s3 _ _ hp2
      have hd5 := s3 _ _ hd2
      have okD := okE_drop ok hzp
      have hdl : (dropE es z).length ≤ es.length := List.length_filter_le _ _
      refine ⟨_, rfl, D, rfl, ⟨_, SqL.of hD3⟩, fun D2 hD2 => ?_⟩
      refine dc_it (walk_list (xs := ((dropE es z).map (·.1)).map V.str)) (fun i H' => Same H5 H' ∧ H' D2 = some (.dK (kv ((dropE es z).take i)))) ⟨same_new hD2, upd_same⟩ (fun i H' _ h => sqL_same h.1 (SqL.of hD3)) ?_ ?_
      · rintro i x H6 H7 hi ⟨s4, hD4⟩ ⟨rfl, hx⟩
        rw [List.getElem?_map, List.getElem?_map] at hx
        cases e' : (dropE es z)[i]? with
        | none => rw [e'] at hx; cases hx
        | some en =>
          rw [e'] at hx
          cases hx
          have hmd := List.mem_of_getElem? e'
          have hme := ((mem_dropE ok hzp).mp hmd).1
          have hvv := val_mem ok.nd (p := en.1) (v := en.2) hme
          have hil := (List.getElem?_eq_some_iff.mp e').1
          refine ⟨rfl, _, rfl, _, rfl, p, C, dx, _, _, rfl, s4 _ _ hp5, R.cl, R.nE, lk_entries d, ?_⟩
          refine ⟨_, rfl, d, en.2, rfl, by have := DGet.k (k := Sum.inr en.1) (s4 _ _ hd5); rw [hvv] at this; exact this, _, .inr en.1, rfl, hD4, ?_, fun b o eb => ?_, ?_⟩
          · rw [kv_length, List.length_take]; omega
          · rw [upd_ne (ne_of_none eb hD2)]; exact s4 _ _ eb
          · rw [upd_same, put_next okD.nd e']
      · rintro H6 ⟨s4, hD4⟩
        rw [List.length_map, List.length_map, List.take_length] at hD4
        have S6 := (S2.trans s3).trans s4
        intro n dn hn hdn ndn
        have np : n ≠ dn := Ne.symm ndn
        have spx : (upd (upd H6 dn (.own n)) n (.ins C dn [])) n = some (.ins C dn []) := upd_same
        have s0 : Same H6 (upd (upd H6 dn (.own n)) n (.ins C dn [])) := (same_new hdn).trans (same_new (by rw [upd_ne np]; exact hn))
        generalize (upd (upd H6 dn (.own n)) n (.ins C dn [])) = H0 at spx s0
        have back : ∀ {H'}, Keep n H0 H' → Same H6 H' := fun k b o e => k b o (fun z => by rw [z, hn] at e; cases e) (s0 _ _ e)
        have hbd := bad_ok okD
        have hpk := pkE_id okD
        refine ⟨n, dn, _, rfl, spx, Or.inl ⟨dropE es z, Or.inr ⟨D2, rfl, s0 _ _ hD4⟩, ent_ok okD (by omega), fun q hq => ?_, fun hfb hl2 H' k pk => ?_, fun hfb hl2 => ?_⟩⟩
        · rw [hbd] at hq; cases hq
        · rw [hpk] at pk
          exact ⟨rfl, q2 hin H' n (S6.trans (back k)) pk⟩
        · rw [hpk] at hl2; omega
end
end K5

set_option Elab.async false
set_option linter.all false
set_option maxRecDepth 100000
set_option maxHeartbeats 4000000
namespace K5
open PySem PySem.Spec PyProof.Rows L2 LF TL
theorem prs_pairs {K : PySem.W.Frag} {H : Hp} : ∀ {ps : List Addr} {es : List (Str × V)}, Prs H ps es → Paired (fun p (q : Key × V) => SqT K H p [kV q.1, q.2]) ps (kv es)
  | [], [], .nil => .nil
  | _ :: _, _ :: _, .cons a r => .cons (SqT.of a) (prs_pairs r)
theorem Prs.len {H : Hp} : ∀ {ps : List Addr} {es : List (Str × V)}, Prs H ps es → ps.length = es.length
  | [], [], .nil => rfl
  | _ :: _, _ :: _, .cons _ r => congrArg (· + 1) (Prs.len r)
section
variable {K : PySem.W.Frag} {a d D : Addr} {od : Obj} {es : List (Str × V)} {te : TE} {j : Nat} {σ : L2.St} {H : Hp} {Qd : Hp → Prop}
/-- one more pair is laid -/
theorem pairs_step {H0 H1 : Hp} {D q i : Addr} {e : Str × V} {ps : List Addr} (hD : H0 D = none) (sm : Same H0 H1) (hd1 : H1 D = some (.lst (ps.map V.ref))) (hie : es[i]? = some e) (hps : Prs H1 ps (es.take i)) (hq : H1 q = none) (hlen : es.length < sizeLine) :
    (upd H1 q (.tup [.str e.1, e.2])) D = some (.lst (ps.map V.ref)) ∧ (ps.map V.ref).length < sizeLine ∧ Same H0 (upd (upd H1 q (.tup [.str e.1, e.2])) D (.lst (ps.map V.ref ++ [V.ref q]))) ∧
      ∃ ps2 : List Addr, (upd (upd H1 q (.tup [.str e.1, e.2])) D (.lst (ps.map V.ref ++ [V.ref q]))) D = some (.lst (ps2.map V.ref)) ∧ Prs (upd (upd H1 q (.tup [.str e.1, e.2])) D (.lst (ps.map V.ref ++ [V.ref q]))) ps2 (es.take (i + 1)) := by
  have et : es.take (i + 1) = es.take i ++ [e] := by rw [List.take_add_one, hie]; rfl
  have hdq := same_new (o := .tup [.str e.1, e.2]) hq _ _ hd1
  have nqD : q ≠ D := fun z => by rw [z, hd1] at hq; cases hq
  have hi2 : i < es.length := (List.getElem?_eq_some_iff.mp hie).1
  have hl := hps.len
  rw [List.length_take] at hl
  refine ⟨hdq, by rw [List.length_map]; omega, same_upd hD (sm.trans (same_new hq)), ps ++ [q], by rw [upd_same, List.map_append]; rfl, ?_⟩
  rw [et]
  refine Prs.snoc (e := e) (by rw [upd_ne nqD]; exact upd_same) (hps.mono fun a xs h => ?_)
  rw [upd_ne (fun z => by rw [z, hd1] at h; cases h)]
  exact same_new hq _ _ h
theorem lc_pairs (hD : H D = none) (hS : SqL K H a ((es.map (·.1)).map V.str)) (hlen : es.length < sizeLine)
    (he : ∀ e H1 (R : V → Hp → Prop), e ∈ es → Same H H1 → (∀ q, H1 q = none → R (.ref q) (upd H1 q (.tup [.str e.1, e.2]))) → te ((wipe σ [j]).set j (some (.str e.1))) H1 R)
    (hd : ∀ H' ps, Same H H' → H' D = some (.lst (ps.map V.ref)) → Prs H' ps es → Qd H') :
    ∃ W : Nat → Nat → Hp → Prop, (∃ m, W 0 m (upd H D (.lst []))) ∧ ∀ i m H, W i m H →
      ((Itl K a).stop i H ∧ Qd H) ∨ ((Itl K a).go i H ∧ ∃ Nx : Hp → Prop, (∀ H', Nx H' → ∃ m', m' < m ∧ W (i + 1) m' H') ∧ ∀ x H', (Itl K a).yld i H x H' → gName j x (wipe σ [j]) H' fun σ2 H2 => wipe σ2 [j] = wipe σ [j] ∧ tYes σ2 H2 fun b H3 =>
        if b = true then te σ2 H3 fun y H4 => ∃ acc, H4 D = some (.lst acc) ∧ acc.length < sizeLine ∧ Nx (upd H4 D (.lst (acc ++ [y]))) else Nx H3) := by
  refine lc_list (Pv := fun i H' => Same H H' ∧ ∃ ps : List Addr, H' D = some (.lst (ps.map V.ref)) ∧ Prs H' ps (es.take i)) ⟨same_new hD, [], by rw [upd_same]; rfl, .nil⟩ (fun i H' _ h => sqL_same h.1 hS) ?_ ?_
  · rintro i x H1 hx ⟨sm, ps, hd1, hps⟩
    rw [List.getElem?_map, List.getElem?_map] at hx
    cases e' : es[i]? with
    | none => rw [e'] at hx; cases hx
    | some e =>
      rw [e'] at hx
      cases hx
      have hm := List.mem_of_getElem? e'
      refine ⟨?_, ?_⟩
      · show (((σ.set j none).set j (some (V.str e.1))).set j none) = σ.set j none
        simp
      unfold tYes
      dsimp only
      rw [if_pos rfl]
      refine he e H1 _ hm sm fun q hq => ?_
      obtain ⟨z1, z2, z3, ps2, z4, z5⟩ := pairs_step hD sm hd1 e' hps hq hlen
      exact ⟨_, z1, z2, z3, ps2, z4, z5⟩
  · rintro H1 ⟨sm, ps, hd1, hps⟩
    rw [List.length_map, List.length_map, List.take_length] at hps
    exact hd H1 ps sm hd1 hps
theorem lc_pairsK (hD : H D = none) (hl : H d = some (.frz od (.dK (kv es)))) (hlen : es.length < sizeLine)
    (he : ∀ e H1 (R : V → Hp → Prop), e ∈ es → Same H H1 → (∀ q, H1 q = none → R (.ref q) (upd H1 q (.tup [.str e.1, e.2]))) → te ((wipe σ [j]).set j (some (.str e.1))) H1 R)
    (hd : ∀ H' ps, Same H H' → H' D = some (.lst (ps.map V.ref)) → Prs H' ps es → Qd H') :
    ∃ W : Nat → Nat → Hp → Prop, (∃ m, W 0 m (upd H D (.lst []))) ∧ ∀ i m H, W i m H →
      ((Itk d od (kv es)).stop i H ∧ Qd H) ∨ ((Itk d od (kv es)).go i H ∧ ∃ Nx : Hp → Prop, (∀ H', Nx H' → ∃ m', m' < m ∧ W (i + 1) m' H') ∧ ∀ x H', (Itk d od (kv es)).yld i H x H' → gName j x (wipe σ [j]) H' fun σ2 H2 => wipe σ2 [j] = wipe σ [j] ∧ tYes σ2 H2 fun b H3 =>
        if b = true then te σ2 H3 fun y H4 => ∃ acc, H4 D = some (.lst acc) ∧ acc.length < sizeLine ∧ Nx (upd H4 D (.lst (acc ++ [y]))) else Nx H3) := by
  refine lc_it walk_keys (fun i H' => Same H H' ∧ ∃ ps : List Addr, H' D = some (.lst (ps.map V.ref)) ∧ Prs H' ps (es.take i)) ⟨same_new hD, [], by rw [upd_same]; rfl, .nil⟩ (fun i H' _ h => h.1 _ _ hl) ?_ ?_
  · rintro i x H1 H2 hi ⟨sm, ps, hd1, hps⟩ ⟨rfl, k, v, hk, rfl⟩
    obtain ⟨pth, rfl, hie, hm⟩ := kv_get hk
    refine ⟨?_, ?_⟩
    · show (((σ.set j none).set j (some (V.str pth))).set j none) = σ.set j none
      simp
    unfold tYes
    dsimp only
    rw [if_pos rfl]
    refine he (pth, v) _ _ hm sm fun q hq => ?_
    obtain ⟨z1, z2, z3, ps2, z4, z5⟩ := pairs_step hD sm hd1 hie hps hq hlen
    exact ⟨_, z1, z2, z3, ps2, z4, z5⟩
  · rintro H1 ⟨sm, ps, hd1, hps⟩
    rw [kv_length, List.take_length] at hps
    exact hd H1 ps sm hd1 hps
end
end K5

set_option Elab.async false
set_option linter.all false
set_option maxRecDepth 100000
set_option maxHeartbeats 4000000
namespace K5
open PySem PySem.Spec PyProof.Rows L2 LF TL
open PySem.W (EachIs)
theorem inV_strs (z : Str) : ∀ l : List Str, inV (.str z) (l.map V.str) = decide (z ∈ l)
  | [] => by simp [inV]
  | y :: l => by
    have ih := inV_strs z l
    unfold inV at ih ⊢
    rw [List.map_cons, List.any_cons, ih]
    by_cases h : y = z
    · subst h; simp [eqV]
    · have h1 : eqV (.str y) (.str z) = false := by simp [eqV, h]
      rw [h1, Bool.false_or, Bool.eq_iff_iff, decide_eq_true_eq, decide_eq_true_eq, List.mem_cons]
      exact ⟨Or.inr, fun q => q.elim (fun e => absurd e.symm h) id⟩
theorem all_flat (l : List Str) : (l.map V.str).all flatV = true := by
  rw [List.all_eq_true]
  intro x hx
  obtain ⟨s, _, rfl⟩ := List.mem_map.mp hx
  rfl

theorem at0 (a : V) (r : List V) : atI (a :: r) 0 = some a := (show atI _ ((0 : Nat) : Int) = _ from atI_nat rfl)
theorem at1 (a b : V) (r : List V) : atI (a :: b :: r) 1 = some b := (show atI _ ((1 : Nat) : Int) = _ from atI_nat rfl)
theorem at2 (a b c : V) (r : List V) : atI (a :: b :: c :: r) 2 = some c := (show atI _ ((2 : Nat) : Int) = _ from atI_nat rfl)
theorem bad_new {es : List (Str × V)} {p : Str} {v : V} (ok : OkE es) (h : isPl p = false) : firstBad (putE es p v) = some p := by
  have hno : p ∉ es.map (·.1) := fun hm => by
    obtain ⟨e, he, rfl⟩ := List.mem_map.mp hm
    rw [(ok.pl e he).1] at h; cases h
  have hw : wrongs (putE es p v) = [p] := by
    unfold wrongs
    rw [keys_putE, if_neg fun q => hno (any_key.mp q), List.filter_append]
    have e1 : (es.map (·.1)).filter (fun p => !isPl p) = [] := by
      rw [List.filter_eq_nil_iff]
      intro q hq
      obtain ⟨e, he, rfl⟩ := List.mem_map.mp hq
      rw [(ok.pl e he).1]
      exact Bool.false_ne_true
    rw [e1, List.nil_append, List.filter_cons, h]
    rfl
  unfold firstBad
  rw [hw]; rfl
theorem wrongs_new {es : List (Str × V)} {p : Str} {v : V} (ok : OkE es) (h : isPl p = true) : wrongs (putE es p v) = [] := by
  unfold wrongs
  rw [List.filter_eq_nil_iff]
  intro q hq
  obtain ⟨e, he, rfl⟩ := List.mem_map.mp hq
  rcases mem_putE he with h1 | rfl
  · rw [(ok.pl e h1).1]; exact Bool.false_ne_true
  · show ¬ (!isPl p) = true
    rw [h]; exact Bool.false_ne_true
theorem pair_list {K : PySem.W.Frag} {H : Hp} : ∀ {acc : List V} {es : List (Str × V)}, EachIs (PairAt H) acc es → ∃ ps : List Addr, acc = ps.map V.ref ∧ Paired (fun p (q : Key × V) => SqT K H p [kV q.1, q.2]) ps (kv es)
  | _, _, .nil => ⟨[], rfl, .nil⟩
  | _, _, .cons ⟨t, h1, h2⟩ r => by
    obtain ⟨ps, e1, e2⟩ := pair_list (K := K) r
    exact ⟨t :: ps, by rw [h1, e1]; rfl, .cons (SqT.of h2) e2⟩
/-- what a change comes to -/
inductive Out where
  | bad (k : Str) (x : V)
  | new (es : List (Str × V))
def outE (es : List (Str × V)) (x : V) : Option V → Out
  | none => match x with
    | .str z => if isPt z = true then (if z ∈ es.map (·.1) then .new (dropE es z) else .bad "NoEntry" x) else .bad "BadPath" x
    | _ => .bad "BadPath" x
  | some y => match x with
    | .str z => if isPt z = true then (match firstBad (putE es z y) with
        | some q => .bad "BadEntry" (.str q)
        | none => if (pkE (putE es z y)).length ≤ 40 then .new (pkE (putE es z y)) else .bad "TooMany" (.int 40)) else .bad "BadPath" x
    | _ => .bad "BadPath" x
/-- a change as the law draws it -/
def DeedAt (K : PySem.W.Frag) (H : Hp) (a : Addr) (x : V) : Option V → Prop
  | none => SqT K H a [.str "without", x]
  | some y => SqT K H a [.str "changed", x, y]
/-- a thing for a path -/
def PX (H : Hp) (x : V) : Prop := (∃ z : Str, x = .str z ∧ Asc z ∧ z.length ≤ 1000) ∨ x = .non ∨ (∃ i : Int, x = .int i ∧ (i = 7 ∨ i = 40)) ∨ ∃ a, x = .ref a ∧ H a = some (.lst [.str "a"])
theorem PX.same {H H' : Hp} {x : V} (h : PX H x) (s : Same H H') : PX H' x := by
  rcases h with h | h | h | ⟨a, h1, h2⟩
  · exact Or.inl h
  · exact Or.inr (Or.inl h)
  · exact Or.inr (Or.inr (Or.inl h))
  · exact Or.inr (Or.inr (Or.inr ⟨a, h1, s _ _ h2⟩))
def isPtV : V → Bool
  | .str z => isPt z
  | _ => false
theorem PX.ok {K : PySem.W.Frag} {H : Hp} {x : V} (h : PX H x) : isOkA K H x (isPtV x) := by
  rcases h with ⟨z, rfl, h1, h2⟩ | rfl | ⟨i, rfl, _⟩ | ⟨a, rfl, h2⟩
  · exact Or.inl ⟨z, rfl, by omega, h1, rfl⟩
  · exact Or.inr ⟨⟨_, .base .non, kit_no (t := "NoneType") (by simp [notStr])⟩, rfl⟩
  · exact Or.inr ⟨⟨_, .base (.int i), kit_no (by simp [notStr])⟩, rfl⟩
  · exact Or.inr ⟨⟨_, .base (.lst h2), kit_no (by simp [notStr])⟩, rfl⟩
theorem PX.ok2 {K : PySem.W.Frag} {H : Hp} {x : V} (h : PX H x) : isOk K H x isPt (isPtV x) := by
  rcases h.ok (K := K) with ⟨z, h1, h2, _, h4⟩ | h
  · exact Or.inl ⟨z, h1, h2, h4⟩
  · exact Or.inr h
theorem out_bad {es : List (Str × V)} {x : V} {oy : Option V} (h : isPtV x = false) : outE es x oy = .bad "BadPath" x := by
  cases oy <;> cases x <;> first | rfl | skip
  all_goals
    have h2 : isPt _ = false := h
    show (if isPt _ = true then _ else _) = _
    rw [if_neg (by rw [h2]; exact Bool.false_ne_true)]
theorem pt_str {x : V} (h : isPtV x = true) : ∃ z, x = .str z ∧ isPt z = true := by
  cases x <;> first | exact ⟨_, rfl, h⟩ | cases h
def spDue (K : PySem.W.Frag) : Sp := fun vs H Q _ => ∃ f dd es x oy, vs = [.ref f, .ref dd] ∧ H f = some (.dK (kv es)) ∧ OkE es ∧ es.length ≤ 40 ∧ DeedAt K H dd x oy ∧ PX H x ∧ (∀ y, oy = some y → PlainX H y ∧ ItA y) ∧
  (∀ k v, outE es x oy = .bad k v → ∀ H' q, Same H H' → H' q = some (.tup [.str k, v]) → Q (.ref q) H') ∧
  (∀ es2, outE es x oy = .new es2 → ∀ H' q, Same H H' → H' q = some (.dK (kv es2)) → Q (.ref q) H')
abbrev s__law_due : Stmt := topS 56
abbrev N__law_due : List Str := ["_law_full_here", "_law_deed_here", "_law_path_here", "_law_left", "_law_one", "_law_made", "_law_starts_here", "_law_start"]
theorem sc__law_due : FnScope ["_law_full_here", "_law_deed_here", "_law_path_here", "_law_left", "_law_one", "_law_made", "_law_starts_here", "_law_start"] ["_law_full_here", "_law_deed_here"] (defScope s__law_due) := ⟨rfl, rfl, rfl, by decide +kernel, rfl, by decide +kernel, by decide +kernel⟩
section
variable {P : Program} {w : World} {K : PySem.W.Frag} {mg : Str → Option Value} {base : Heap} {tk1 tk2 : Tok}
theorem ok_due {f f1 f2 f3 f4 f5 : Addr} {fd fd1 fd2 fd3 fd4 fd5 : FuncData} (F : Fun K "_law_due" "_law_due" s__law_due f fd) (T : Txt K mg tk1 tk2) (d_ask : DefAt P w K mg base "_law_is_path" 1 f1 fd1 ["_law_thing"] (spAsk K)) (d_ordered : DefAt P w K mg base "_law_ordered" 1 f2 fd2 ["_law_paths"] (spOrdered K))
    (d_starts : DefAt P w K mg base "_law_starts" 1 f3 fd3 ["_law_path_here"] spStarts) (d_full : DefAt P w K mg base "_law_full" 2 f4 fd4 ["_law_entries_here"] spFull) (d_litem : DefAt P w K mg base "_law_is_item" 2 f5 fd5 ["_law_item"] (spLItem K)) :
    FnOk P w K mg base CX0 3 f fd ["_law_full_here", "_law_deed_here"] (spDue K) := by
  refine F.ok sc__law_due (fun vs H Q E h => ?_) (fun cdv A outer s H vs Q E hr h => ?_)
  · obtain ⟨f, dd, es, x, oy, rfl, _⟩ := h
    rfl
  have hu := hr.units
  have hu1 := hu_of hr
  refine ⟨_, (pss_cons (ps_set (i := 2) sc__law_due.nd rfl (Or.inr rfl) (pe_ix ix_tup (pv 1) pe_int (fun _ _ => rfl)))
    (pss_cons (ps_if (pt_not (pt_val (pe_callD d_ask (hr.mono (by decide)) (pa_cons (pv 2) pa_nil)))) (pss_one (ps_ret (pe_tup (pa_cons pe_str (pa_cons (pv 2) pa_nil))))) pss_nil)
    (pss_cons (ps_if (pt_cmpR op_eq (pe_ix ix_tup (pv 1) pe_int (fun _ _ => rfl)) pe_str (nomark _)) (pss_cons (ps_if (pt_cmp (pc_dnotin hu1 (pv 2) (pv 0)) rfl) (pss_one (ps_ret (pe_tup (pa_cons pe_str (pa_cons (pv 2) pa_nil))))) pss_nil)
    (pss_cons (ps_lock (ps_setLc (i := 3) (own := [("_law_one", 4)]) rfl sc__law_due.nd rfl rfl (sw_true rfl rfl rfl (by decide +kernel)) (pi_keys (pv 0)) (blkOk_by (N := N__law_due) (sc := defScope s__law_due) (by decide +kernel)) (fun _ _ _ _ _ => pg_name (i := 4) sc__law_due.nd rfl (Or.inl rfl)) (fun _ _ _ _ _ => (pts_one (PW.pt (pw_and (pt_cmpR op_ne (pv 4) (pv 2) (nomark _)) (pw_and1 (pt_cmpR (show OpR _ (compareOp .NotIn) (rIn K true) from op_notIn_seq) (pv 2) (pe_callD d_starts (hr.mono (by decide)) (pa_cons (pv 4) pa_nil)) (by rfl))))))) (fun _ _ _ _ _ => (pv 4))))
    (pss_one (ps_ret (pe_callTy (call_dictP rfl) (by rfl) T.n_dict (by decide +kernel) (pa_cons (pe_lc (own := [("_law_one", 4)]) rfl sc__law_due.nd (pi_list (pv 3)) (blkOk_by (N := N__law_due) (sc := defScope s__law_due) (by decide +kernel)) (fun _ _ _ _ _ => pg_name (i := 4) sc__law_due.nd rfl (Or.inl rfl)) (fun _ _ _ _ _ => pts_nil) (fun _ _ _ _ _ => (pe_tup (pa_cons (pv 4) (pa_cons (pe_dget hu1 (pv 0) (pv 4) (fun _ _ => rfl)) pa_nil))))) pa_nil)))))) pss_nil)
    (pss_cons (ps_set (i := 5) sc__law_due.nd rfl (Or.inr rfl) (pe_callTy (call_dictP rfl) (by rfl) T.n_dict (by decide +kernel) (pa_cons (pe_lock (pe_lc (own := [("_law_one", 4)]) rfl sc__law_due.nd (pi_keys (pv 0)) (blkOk_by (N := N__law_due) (sc := defScope s__law_due) (by decide +kernel)) (fun _ _ _ _ _ => pg_name (i := 4) sc__law_due.nd rfl (Or.inl rfl)) (fun _ _ _ _ _ => pts_nil) (fun _ _ _ _ _ => (pe_tup (pa_cons (pv 4) (pa_cons (pe_dget hu1 (pv 0) (pv 4) (fun _ _ => rfl)) pa_nil)))))) pa_nil)))
    (pss_cons (ps_dput hu1 (pv 5) (pv 2) (pe_ix ix_tup (pv 1) pe_int (fun _ _ => rfl)) rfl)
    (pss_cons (ps_if (PW.pt (pw_or (pt_cmpR op_eq (pv 2) pe_str (nomark _)) (pw_or1 (pt_cmpR op_gt (pe_m1 PySem.F.slot_str_count PySem.F.type_str_count mt_count (pv 2) pe_str rfl rfl rfl) pe_int (nomark _))))) (pss_one (ps_ret (pe_tup (pa_cons pe_str (pa_cons (pv 2) pa_nil))))) pss_nil)
    (pss_cons (ps_for PassesOwn.never rfl (pi_list (pe_callD d_ordered (hr.mono (by decide)) (pa_cons (pe_callTy (call_listD rfl) (by rfl) T.n_list (by decide +kernel) (pa_cons (pv 5) pa_nil)) pa_nil))) (pg_name (i := 4) sc__law_due.nd rfl (Or.inl rfl)) (pss_cons (ps_setLc (i := 6) (own := [("_law_start", 7)]) rfl sc__law_due.nd rfl rfl (sw_true rfl rfl rfl (by decide +kernel)) (pi_list (pe_callD d_starts (hr.mono (by decide)) (pa_cons (pv 4) pa_nil))) (blkOk_by (N := N__law_due) (sc := defScope s__law_due) (by decide +kernel)) (fun _ _ _ _ _ => pg_name (i := 7) sc__law_due.nd rfl (Or.inl rfl)) (fun _ _ _ _ _ => (pts_one (pt_cmpR op_notN (pe_dget2 hu1 (pv 5) (pv 7) pe_non ⟨rfl, rfl, rfl, rfl⟩) pe_non (nomark _)))) (fun _ _ _ _ _ => (pv 7)))
    (pss_one (ps_if (PW.pt (pw_or (pt_cmpR (op_neD hu) (pv 6) (pe_lst pa_nil) (nomark _)) (pw_or1 (pt_not (pt_val (pe_callD d_litem (hr.mono (by decide)) (pa_cons (pe_dget hu1 (pv 5) (pv 4) (fun _ _ => rfl)) pa_nil))))))) (pss_one (ps_ret (pe_tup (pa_cons pe_str (pa_cons (pv 4) pa_nil))))) pss_nil))))
    (pss_cons (ps_set (i := 5) sc__law_due.nd rfl (Or.inr rfl) (pe_callTy (call_dictP rfl) (by rfl) T.n_dict (by decide +kernel) (pa_cons (pe_callD d_full (hr.mono (by decide)) (pa_cons (pv 5) pa_nil)) pa_nil)))
    (pss_one (ps_ret (pe_ifExp (pt_cmpR op_gt (pe_callB call_lenD (by rfl) T.n_len (by decide +kernel) (pa_cons (pv 5) pa_nil)) pe_int (nomark _)) (pe_tup (pa_cons pe_str (pa_cons pe_int pa_nil))) (pv 5)))))))))))), ?_⟩
  obtain ⟨d, dd, es, x, oy, rfl, hd, ok, hl, hdd, hx, hy, hbad, hnew⟩ := h
  have hbig := sizeLine_big
  obtain ⟨way, rest, hS, hway⟩ : ∃ way rest, SqT K H dd (.str way :: x :: rest) ∧ ((oy = none ∧ way = "without" ∧ rest = []) ∨ ∃ y, oy = some y ∧ way = "changed" ∧ rest = [y]) := by
    cases oy with
    | none => exact ⟨_, _, hdd, Or.inl ⟨rfl, rfl, rfl⟩⟩
    | some y => exact ⟨_, _, hdd, Or.inr ⟨y, rfl, rfl, rfl⟩⟩
  refine ⟨_, rfl, dd, _, 1, x, rfl, rfl, hS, at1 _ _ _, ?_⟩
  refine ⟨_, rfl, x, isPtV x, rfl, hx.ok, fun H1 s1 => ⟨_, rfl, ?_⟩⟩
  cases hb : isPtV x with
  | false => exact iteT ⟨_, rfl, (by show 2 ≤ sizeLine; decide), fun q hq => hbad "BadPath" x (out_bad hb) _ q (s1.trans (same_new hq)) upd_same⟩
  | true =>
  obtain ⟨z, rfl, hz⟩ := pt_str hb
  have hzA : Asc z ∧ z.length ≤ 1000 := by
    rcases hx with ⟨z', e, h1, h2⟩ | h | ⟨i, h, _⟩ | ⟨a, h, _⟩ <;> first | (cases e; exact ⟨h1, h2⟩) | cases h
  have hd1 := s1 _ _ hd
  have hS1 := sqT_same s1 hS
  refine iteF ?_
  refine ⟨_, rfl, dd, _, 0, _, rfl, rfl, hS1, at0 _ _, rfl, _, rfl, ?_⟩
  rw [str_dec]
  rcases hway with ⟨rfl, rfl, rfl⟩ | ⟨y, rfl, rfl, rfl⟩
  · refine ifD (fun _ => ?_) (fun h => absurd rfl h)
    refine ⟨_, rfl, _, rfl, d, _, rfl, DGet.kv hd1, _, rfl, ?_⟩
    cases hv : valV (kv es) (.inr z) with
    | none =>
      have hno : z ∉ es.map (·.1) := fun hm => by
        obtain ⟨v, h⟩ := key_val hm
        rw [hv] at h; cases h
      refine iteT ⟨_, rfl, (by show 2 ≤ sizeLine; decide), fun q hq => hbad "NoEntry" (.str z) ?_ _ q (s1.trans (same_new hq)) upd_same⟩
      show (if isPt z = true then _ else _) = _
      rw [if_pos hz, if_neg hno]
    | some v =>
      have hin := val_key hv
      obtain ⟨ez, hez, hez2⟩ := List.mem_map.mp hin
      have hzp : isPl z = true := by rw [← hez2]; exact (ok.pl ez hez).1
      have hout : outE es (.str z) none = .new (dropE es z) := by
        show (if isPt z = true then _ else _) = _
        rw [if_pos hz, if_pos hin]
      refine iteF ?_
      refine ⟨d, _, hd1, True.intro, fun od => ?_⟩
      refine ⟨_, rfl, d, od, rfl, Or.inl ⟨kv es, upd_same, fun D hD => ?_⟩⟩
      have hl0 : (upd H1 d (.frz od (.dK (kv es)))) d = some (.frz od (.dK (kv es))) := upd_same
      have hs0 : ∀ H', Same (upd H1 d (.frz od (.dK (kv es)))) H' → Same H1 (upd H' d (.dK (kv es))) := fun H' s' => same_unlock hd1 s'
      generalize (upd H1 d (.frz od (.dK (kv es)))) = L' at hl0 hs0 hD
      refine lc_keys (fun e => !decide (e.1 = z) && !belowB e.1 z) (fun e => .str e.1) hD hl0 (Nat.lt_of_le_of_lt hl (by decide)) ?_ ?_ ?_
      · rintro ⟨pth, v⟩ H3 R1 hm sm hR
        have hpl := (ok.pl _ hm).1
        refine ⟨_, rfl, _, rfl, rfl, _, rfl, ?_⟩
        refine ifN (fun h => ?_) (fun h => ?_)
        · have e : (!decide (pth = z) && !belowB pth z) = false := by rw [decide_eq_true (V.str.inj h)]; rfl
          have := hR H3 (Same.refl H3)
          rw [e] at this
          exact this
        · have e : (!decide (pth = z) && !belowB pth z) = !decide (z ∈ begs pth) := by rw [decide_eq_false fun q => h (by rw [q]), below_begs hpl hzp]; rfl
          obtain ⟨ns, e1, e2, e3⟩ := isPl_jn hpl
          obtain rfl : pth = jn ns := e1
          refine ⟨_, rfl, _, rfl, ns, rfl, ⟨Nat.le_trans e3.1 (by decide), e3.2⟩, fun H4 p s4 np hp => ?_⟩
          refine ⟨p, _, rfl, Or.inl (SqL.of hp), rfl, all_flat _, _, rfl, ?_⟩
          show R1 (!inV (.str z) _) H4
          rw [inV_strs]
          have := hR H4 s4
          rw [e] at this
          exact this
      · rintro ⟨pth, v⟩ H3 R1 hm hp sm hR
        exact ⟨_, rfl, hR H3 (Same.refl H3)⟩
      · rintro H3 sm hd3
        refine ⟨sm _ _ hl0, ?_⟩
        have nDd : D ≠ d := Ne.symm (ne_of_none hl0 hD)
        have s3 := hs0 _ sm
        have hD3 : (upd H3 d (.dK (kv es))) D = some (.lst (((dropE es z).map (·.1)).map V.str)) := by
          rw [upd_ne nDd, hd3]
          unfold dropE
          rw [List.map_map]; rfl
        generalize (upd H3 d (.dK (kv es))) = H5 at s3 hD3
        have hd5 := s3 _ _ hd1
        have okD := okE_drop ok hzp
        have hdl : (dropE es z).length ≤ es.length := List.length_filter_le _ _
        refine ⟨_, rfl, D, rfl, ⟨_, SqL.of hD3⟩, fun D2 hD2 => ?_⟩
        refine lc_pairs (es := dropE es z) hD2 (SqL.of hD3) (by omega) ?_ ?_
        · rintro e H6 R1 he s6 hR
          have hme := ((mem_dropE ok hzp).mp he).1
          have hvv := val_mem ok.nd (p := e.1) (v := e.2) hme
          exact ⟨_, rfl, _, rfl, _, rfl, d, e.2, rfl, by have := DGet.kv (z := e.1) (s6 _ _ hd5); rw [hvv] at this; exact this, (by show 2 ≤ sizeLine; decide), hR⟩
        · rintro H6 ps s6 hd6 hps
          refine ⟨D2, ps, kv (dropE es z), rfl, SqL.of hd6, prs_pairs hps, fun g hg => ?_⟩
          rw [show mergeK [] (kv (dropE es z)) = kv (dropE es z) from merge_new _ [] okD.nd]
          exact hnew _ hout _ g (((s1.trans s3).trans s6).trans (same_new hg)) upd_same
  · refine ifD (fun h => absurd h (by decide +kernel)) (fun _ => ?_)
    refine ⟨d, _, hd1, True.intro, fun od => ?_⟩
    refine ⟨_, rfl, d, od, rfl, Or.inl ⟨kv es, upd_same, fun D hD => ?_⟩⟩
    have hl0 : (upd H1 d (.frz od (.dK (kv es)))) d = some (.frz od (.dK (kv es))) := upd_same
    have hs0 : ∀ H', Same (upd H1 d (.frz od (.dK (kv es)))) H' → Same H1 (upd H' d (.dK (kv es))) := fun H' s' => same_unlock hd1 s'
    generalize (upd H1 d (.frz od (.dK (kv es)))) = L' at hl0 hs0 hD
    refine lc_pairsK (es := es) hD hl0 (by omega) ?_ ?_
    · rintro e H3 R1 he sm hR
      have hvv := val_mem ok.nd (p := e.1) (v := e.2) he
      exact ⟨_, rfl, _, rfl, _, rfl, d, e.2, rfl, .inl ⟨kv es, .inr e.1, .inr ⟨od, sm _ _ hl0⟩, rfl, hvv.symm⟩, (by show 2 ≤ sizeLine; decide), hR⟩
    rintro H3 ps sm hd3 hps
    refine ⟨sm _ _ hl0, ?_⟩
    have nDd : D ≠ d := Ne.symm (ne_of_none hl0 hD)
    have s3 := hs0 _ sm
    have hD3 : (upd H3 d (.dK (kv es))) D = some (.lst (ps.map V.ref)) := by rw [upd_ne nDd]; exact hd3
    have hps3 : Prs (upd H3 d (.dK (kv es))) ps es := hps.mono fun a xs h => by rw [upd_ne (fun e => by rw [e, sm _ _ hl0] at h; cases h)]; exact h
    generalize (upd H3 d (.dK (kv es))) = H4 at s3 hD3 hps3
    refine ⟨D, ps, kv es, rfl, SqL.of hD3, prs_pairs hps3, fun g hg => ?_⟩
    rw [show mergeK [] (kv es) = kv es from merge_new _ [] ok.nd]
    have S4 := s1.trans s3
    refine ⟨_, rfl, dd, _, 2, y, rfl, rfl, sqT_same (S4.trans (same_new hg)) hS, at2 _ _ _ _, ?_⟩
    refine ⟨_, rfl, _, rfl, g, _, rfl, DPut.k (k := Sum.inr z) upd_same (by rw [kv_length]; omega), ?_⟩
    rw [kv_putE]
    have S5 : Same H (upd (upd H4 g (.dK (kv es))) g (.dK (kv (putE es z y)))) := S4.trans (fun c o ec => by rw [upd_ne (ne_of_none ec hg), upd_ne (ne_of_none ec hg)]; exact ec)
    have hg5 : (upd (upd H4 g (.dK (kv es))) g (.dK (kv (putE es z y)))) g = some (.dK (kv (putE es z y))) := upd_same
    have hgH : H g = none := S4.free hg
    have nbe : ∀ q v, firstBad (putE es z y) = some q → v = V.str q → outE es (.str z) (some y) = .bad "BadEntry" v := fun q v hq e => by
      show (if isPt z = true then _ else _) = _
      rw [if_pos hz, hq, e]
    have ntm : firstBad (putE es z y) = none → 40 < (pkE (putE es z y)).length → outE es (.str z) (some y) = .bad "TooMany" (.int 40) := fun hq h => by
      show (if isPt z = true then _ else _) = _
      rw [if_pos hz, hq]
      show (if _ then _ else _) = _
      rw [if_neg (by omega)]
    have nnw : firstBad (putE es z y) = none → (pkE (putE es z y)).length ≤ 40 → outE es (.str z) (some y) = .new (pkE (putE es z y)) := fun hq h => by
      show (if isPt z = true then _ else _) = _
      rw [if_pos hz, hq]
      show (if _ then _ else _) = _
      rw [if_pos h]
    generalize (upd (upd H4 g (.dK (kv es))) g (.dK (kv (putE es z y)))) = H5 at S5 hg5
    have wr : isPl z = false → ∀ H' q, Same H H' → H' q = some (.tup [.str "BadEntry", .str z]) → Q (.ref q) H' := fun h H' q s hq => hbad "BadEntry" (.str z) (nbe z _ (bad_new ok h) rfl) H' q s hq
    have hwk := wrongK_is z
    unfold wrongK at hwk
    rw [hz, Bool.not_true, Bool.false_or] at hwk
    refine ⟨_, rfl, rfl, _, rfl, ?_⟩
    rw [str_dec]
    refine ifD (fun h1 => ?_) (fun h1 => ?_)
    · rw [decide_eq_true h1, Bool.true_or] at hwk
      exact iteT ⟨_, rfl, (by show 2 ≤ sizeLine; decide), fun q hq => wr (by simpa using hwk.symm) _ q (S5.trans (same_new hq)) upd_same⟩
    rw [decide_eq_false h1, Bool.false_or] at hwk
    refine ⟨_, rfl, ⟨_, rfl⟩, z, c_sl, rfl, rfl, _, _, rfl, rfl, _, rfl, ?_⟩
    cases hc : decide (PySem.Txt.count z c_sl > 9) with
    | true =>
      rw [hc] at hwk
      exact iteT ⟨_, rfl, (by show 2 ≤ sizeLine; decide), fun q hq => wr (by simpa using hwk.symm) _ q (S5.trans (same_new hq)) upd_same⟩
    | false =>
    rw [hc] at hwk
    have hzp : isPl z = true := by simpa using hwk.symm
    refine iteF ?_
    obtain ⟨hyP, hyA⟩ := hy y rfl
    have en := ent_putE (v := y) ok (by omega) hzA.2 (hyP.same S5)
    have eia : ∀ e ∈ putE es z y, ItA e.2 := fun e he => by
      rcases mem_putE he with h | rfl
      · rcases (ok.it e h).1 with h2 | ⟨i, h2⟩ | ⟨s, h2, _⟩
        · rw [h2]; exact fun z e => (nomatch e)
        · rw [h2]; exact fun z e => (nomatch e)
        · have h3 := (ok.it e h).2
          rw [h2] at h3 ⊢
          have h4 := tg_short (z := s) h3
          intro z e
          cases e
          have e5 : isTg s = true := h3
          unfold isTg at e5
          rw [Bool.and_eq_true] at e5
          by_cases h0 : s = ""
          · subst h0
            exact ⟨fun c hc => (nomatch hc), Nat.zero_le _⟩
          · obtain ⟨ns, e1, e2, e3, e4⟩ := isPt_jn e5.1 h0
            exact ⟨by rw [e1]; exact asc_join fun n hn => asc_nm (e3 n hn), by omega⟩
      · exact hyA
    have hw := wrongs_new (v := y) ok hzp
    have hpl : ∀ e ∈ putE es z y, isPl e.1 = true := fun e he => by
      rcases mem_putE he with h | rfl
      · exact (ok.pl e h).1
      · exact hzp
    have hel := len_putE es z y
    have hfb : firstBad (putE es z y) = (((putE es z y).map (·.1)).mergeSort pLe).find? (badAt (putE es z y)) := by unfold firstBad; rw [hw]
    have hok := okU_of en
    generalize putE es z y = es2 at hg5 nbe ntm nnw en eia hw hpl hel hfb hok
    refine ⟨_, rfl, g, _, rfl, Or.inl hg5, fun q7 hq7 => ?_⟩
    rw [keys_kv]
    refine ⟨q7, es2.map (·.1), rfl, SqL.of upd_same, fun z hz => ?_, by rw [List.length_map]; omega, fun H8 o s8 no ho => ?_⟩
    · obtain ⟨e, he, rfl⟩ := List.mem_map.mp hz
      obtain ⟨ns, e1, e2, e3⟩ := isPl_jn (hpl e he)
      exact ⟨ns, e1, e2, Nat.le_trans e3.1 (by decide), e3.2⟩
    have s58 := (same_new (o := .lst ((es2.map (·.1)).map V.str)) hq7).trans s8
    have hg8 := s58 _ _ hg5
    have S8 := S5.trans s58
    rw [hfb] at nbe ntm nnw hok
    have hkm2 : ∀ p ∈ (es2.map (·.1)).mergeSort pLe, ∃ v, (p, v) ∈ es2 := fun p hp => by
      obtain ⟨e, he, rfl⟩ := List.mem_map.mp (sort_mem.mp hp)
      exact ⟨e.2, he⟩
    generalize (es2.map (·.1)).mergeSort pLe = ks at ho hkm2 nbe ntm nnw hok
    refine ⟨o, rfl, ⟨_, SqL.of ho⟩, for_list (K := K) (a := o) (xs := ks.map V.str) (fun i σ H' => ∃ v4 v6, σ = [some (.ref d), some (.ref dd), some (.str z), none, v4, some (.ref g), v6, none] ∧ Same H8 H' ∧ ∀ p ∈ ks.take i, badAt es2 p = false) ⟨_, _, rfl, Same.refl H8, fun p hp => by rw [List.take_zero] at hp; cases hp⟩ (fun i σ H' _ ⟨_, _, _, sm, _⟩ => sqL_same sm (SqL.of ho)) ?_ ?_⟩
    · rintro i x σ H' hi ⟨v4, v6, rfl, sm, hall⟩
      rw [List.getElem?_map] at hi
      cases e : ks[i]? with
      | none => rw [e] at hi; cases hi
      | some pth =>
        rw [e] at hi
        obtain rfl : V.str pth = x := Option.some.inj hi
        obtain ⟨v, hm⟩ := hkm2 pth (List.mem_of_getElem? e)
        have hp1 := hpl _ hm
        have hi1 := en.it _ hm
        have hv := val_mem en.nd hm
        have S9 := S8.trans sm
        have hg9 := sm _ _ hg8
        have et : ks.take (i + 1) = ks.take i ++ [pth] := by rw [List.take_add_one, e]; rfl
        have bad : badAt es2 pth = true → ks.find? (badAt es2) = some pth := fun hb => by
          have e2 : ks = ks.take i ++ pth :: ks.drop (i + 1) := by
            have h1 := (List.getElem?_eq_some_iff.mp e)
            have h2 := List.take_append_drop i ks
            have h3 : ks.drop i = pth :: ks.drop (i + 1) := by
              obtain ⟨hil, h4⟩ := h1
              rw [List.drop_eq_getElem_cons hil, h4]
            rw [h3] at h2
            exact h2.symm
          rw [e2, List.find?_append]
          have h5 : (ks.take i).find? (badAt es2) = none := by
            rw [List.find?_eq_none]
            intro x hx
            rw [hall x hx]
            exact Bool.false_ne_true
          rw [h5, List.find?_cons, hb]; rfl
        have hba : badAt es2 pth = (!itemV v || liesB es2 pth) := by unfold badAt; rw [hv]; rfl
        obtain ⟨ns, e1, e2, e3⟩ := isPl_jn hp1
        obtain rfl : pth = jn ns := e1
        refine ⟨_, rfl, ns, rfl, ⟨Nat.le_trans e3.1 (by decide), e3.2⟩, fun H11 b s11 nb hb11 => ?_⟩
        have hbl : (begs (jn ns)).length ≤ 10 := begs_len hp1
        refine ⟨b, rfl, ⟨_, SqL.of hb11⟩, fun D4 hD4 => ?_⟩
        refine lc_filt (xs := (begs (jn ns)).map V.str) (fun x => match x with | .str s => !decide ((valV (kv es2) (.inr s)).getD .non = .non) | _ => false) (fun x => x) hD4 (SqL.of hb11) (by rw [List.length_map]; omega) ?_ ?_ ?_
        · intro x H12 R1 hx sm12 hR
          obtain ⟨s0, hs0', rfl⟩ := List.mem_map.mp hx
          have hd12 := (s11.trans sm12) _ _ hg9
          exact ⟨_, rfl, g, rfl, Or.inl ⟨_, Or.inl hd12⟩, _, rfl, _, DGet.kv hd12, rfl, _, rfl, hR H12 (Same.refl H12)⟩
        · intro x H12 R1 hx _ sm12 hR
          exact ⟨_, rfl, hR H12 (Same.refl H12)⟩
        · intro H12 s12 hd12
          have em2 : (((begs (jn ns)).map V.str).filter fun x => match x with | .str s => !decide ((valV (kv es2) (.inr s)).getD .non = .non) | _ => false).map (fun x => x) = ((begs (jn ns)).filter fun s => !decide ((valV (kv es2) (.inr s)).getD .non = .non)).map V.str := by
            rw [List.map_id', List.filter_map]; rfl
          rw [em2] at hd12
          have hbok : ∀ z ∈ (begs (jn ns)).filter (fun s => !decide ((valV (kv es2) (.inr s)).getD .non = .non)), PyData.strOk z = true := fun z hz => by
            have h1 := (List.mem_filter.mp hz).1
            rw [begs_jn e3.2] at h1
            obtain ⟨k, _, rfl⟩ := List.mem_map.mp h1
            exact strOk_join fun n hn => e3.2 n (List.mem_of_mem_take hn)
          refine ⟨_, rfl, Nat.zero_le _, fun pe3 hpe3 => ?_⟩
          refine ⟨_, .list [], .lst (SqL.of (same_new hpe3 _ _ hd12)) (dp_strs _), .lst (SqL.of upd_same) .nil, shaped_strs hbok, by decide +kernel, _, rfl, ?_⟩
          rw [eqv_nil]
          have el : decide (((begs (jn ns)).filter fun s => !decide ((valV (kv es2) (.inr s)).getD .non = .non)).map PyData.str = []) = !liesB es2 (jn ns) := by
            unfold liesB
            rw [Bool.eq_iff_iff, decide_eq_true_eq, List.map_eq_nil_iff, List.filter_eq_nil_iff, Bool.not_eq_true', List.any_eq_false]
          rw [el]
          have s13 := (s11.trans s12).trans (same_new (o := .lst []) hpe3)
          have hg13 := s13 _ _ hg9
          cases hl : liesB es2 (jn ns) with
          | true =>
            rw [hl, Bool.or_true] at hba
            exact iteT (iteT ⟨_, rfl, (by show 2 ≤ sizeLine; decide), fun q hq => hbad "BadEntry" _ (nbe (jn ns) _ (bad hba) rfl) _ q ((S9.trans s13).trans (same_new hq)) upd_same⟩)
          | false =>
            rw [hl, Bool.or_false] at hba
            have hgv := DGet.kv (z := jn ns) hg13
            rw [hv] at hgv
            refine iteF ⟨_, rfl, _, rfl, g, v, rfl, hgv, v, rfl, hi1.same (((sm.trans s13)).trans (Same.refl _) |> fun s => s58.trans s), eia _ hm, fun H10 s10 => ⟨_, rfl, ?_⟩⟩
            cases hiv : itemV v with
            | false =>
              rw [hiv] at hba
              exact iteT ⟨_, rfl, (by show 2 ≤ sizeLine; decide), fun q hq => hbad "BadEntry" _ (nbe (jn ns) _ (bad hba) rfl) _ q (((S9.trans s13).trans s10).trans (same_new hq)) upd_same⟩
            | true =>
              rw [hiv] at hba
              refine iteF ⟨_, _, rfl, (sm.trans s13).trans s10, fun x hx => ?_⟩
              rw [et] at hx
              rcases List.mem_append.mp hx with hx | hx
              · exact hall x hx
              · rw [List.mem_singleton.mp hx]; exact hba
    · rintro σ H' ⟨v4, v6, rfl, sm, hall⟩
      rw [List.length_map, List.take_length] at hall
      have hnone : ks.find? (badAt es2) = none := by
        rw [List.find?_eq_none]
        intro x hx
        rw [hall x hx]
        exact Bool.false_ne_true
      have ok2 := hok hnone
      have S9 := S8.trans sm
      refine ⟨_, rfl, g, es2, rfl, sm _ _ hg8, ok2, by omega, fun H10 q acc s10 nq hq10 ea => ?_⟩
      have S10 := S9.trans s10
      obtain ⟨ps, rfl, hps⟩ := pair_list (K := K) ea
      refine ⟨q, ps, kv (pkE es2), rfl, SqL.of hq10, hps, fun g2 hg2 => ?_⟩
      rw [show mergeK [] (kv (pkE es2)) = kv (pkE es2) from merge_new _ [] (pkE_nd ok2)]
      refine ⟨_, rfl, g2, _, rfl, upd_same, _, _, rfl, rfl, _, rfl, ?_⟩
      rw [kv_length]
      refine ifD (fun h => ?_) (fun h => ?_)
      · exact ⟨(by show 2 ≤ sizeLine; decide), fun q2 hq2 => hbad "TooMany" _ (ntm hnone (by omega)) _ q2 ((S10.trans (same_new hg2)).trans (same_new hq2)) upd_same⟩
      · exact ⟨_, rfl, hnew _ (nnw hnone (by omega)) _ g2 (S10.trans (same_new hg2)) upd_same⟩
end
end K5

set_option Elab.async false
set_option linter.all false
set_option maxRecDepth 100000
set_option maxHeartbeats 4000000
namespace LF
open PySem PySem.Spec PyProof.Rows L2
abbrev Suite := Addr → Value → Option Addr → TS
/-- several clauses «except c as n», one behind the other: slot i is n's -/
def wAsMany (K : PySem.W.Frag) (i : Nat) (Wout : WX) (D : Ends) : List (Value × Suite) → WX
  | [] => Wout
  | (c, ts) :: more => wAs K c i ts (wAsMany K i Wout D more) D
inductive HdsAs (X : Cx) (n : Str) : List ExceptHandler → List (Value × Suite) → Prop
  | nil : HdsAs X n [] []
  | cons {x : Str} {c : Value} {ts : Suite} {b0 : Stmt} {bs : List Stmt} {p1 p2 : Pos} {hs : List ExceptHandler} {l : List (Value × Suite)} (named : Names X x c)
      (body : ∀ (a : Addr) (o : Obj) (k : Value) (d : Option Addr) (pn : List (Addr × Obj)), Zc k d o → (∃ vs, o.data = .fields vs) → PSs (X.suite a ((a, o) :: pn)) (b0 :: bs) (ts a k d)) (more : HdsAs X n hs l) :
      HdsAs X n (.ExceptHandler (some (.Name x p1)) (some n) (b0 :: bs) p2 :: hs) ((c, ts) :: l)
section
variable {X : Cx} {n : Str} {i : Nat} {body : List Stmt} {hd1 : ExceptHandler} {hds : List ExceptHandler} {l : List (Value × Suite)} {pos : Pos} {tb : WX → TS} {Wout : WX}
theorem ps_try_asMany (hs : X.stack = X.env :: X.outer) (hf : X.env.frame = some X.env.locals) (hN : X.N.Nodup) (hi : X.N[i]? = some n) (hln : X.env.kindOf n = some .local) (tk : Takes X Wout)
    (hb : ∀ (W : WX) (pn : List (Addr × Obj)) (xe : Value → Shared → Prop), Takes (X.tr pn xe) W → PassesOwn (model X.prog X.w) X.A X.env xe → PSs (X.tr pn xe) body (tb W))
    (hh : HdsAs X n (hd1 :: hds) l) : PS X (.Try body (hd1 :: hds) [] [] pos) (fun D σ H => tb (wAsMany X.K i Wout D l) D σ H) := by
  refine ⟨fun pins s σ H D I h => ?_⟩
  have inv := I.ok
  have frm : X.A.frames = some (X.env :: X.outer) := by rw [inv.frames, hs]
  have loc : Loc X.env.scope n := .inl hln
  refine wpAny_Try_except ?_
  refine wpAny_mono ((hb (wAsMany X.K i Wout D l) (X.pn ++ pins)
    (fun e t1 => wpAny (model X.prog X.w) X.A (noteFrame e X.env) (fun _ t2 => wpAny (model X.prog X.w) X.A (setFlight e none) (fun _ t3 => wpAny (model X.prog X.w) X.A (handleBy e X.env (hd1 :: hds)) (SP X pins D) X.xe t3) X.xe t2) X.xe t1)
    (fun u t0 caught => ?_) PassesOwn.looking).run [] s σ H D (I.toTry _) h) (fun f t1 ended => ?_) (fun e t1 he => he)
  · obtain ⟨a, B, sI, pin2, σ1, H1, k, d, rfl, J1, nb, up, sky, na, os, ag, wish⟩ := caught
    have J : Inv X pins σ1 H1 sI := J1.ofTry inv
    have sky1 : Sky B (X.env :: X.outer) a (Zc k d) X.env.locals t0.heap := by rw [← hs]; exact sky
    show wpAny (model X.prog X.w) X.A (noteFrame (.ref a) X.env) _ _ _
    refine Sky.land Zc.steady frm hf sky1 fun hA flA upA => ?_
    have JA : Inv X pins σ1 H1 { t0 with heap := hA } := J.landed nb flA.1 (up.trans upA) os ag
    obtain ⟨oA, vA, hoA, zA, dA⟩ := flA.there
    have far : a ∉ frs (X.env :: X.outer) := fun hm => by
      obtain ⟨_, o', e', hnf⟩ := flA.2.2.1.mem hm
      rw [hoA] at e'
      cases e'
      exact hnf _ dA
    have aL : a ≠ X.env.locals := fun z => far (List.mem_filterMap.mpr ⟨X.env, List.mem_cons_self, by rw [hf, z]⟩)
    have aF : a ∉ X.fs := fun hm => by
      obtain ⟨e, he, q⟩ := List.mem_filterMap.mp hm
      exact far (List.mem_filterMap.mpr ⟨e, List.mem_cons_of_mem _ he, q⟩)
    have SA := JA.suite hoA dA na aL aF
    have go : ∀ {hs2 : List ExceptHandler} {l2 : List (Value × Suite)}, HdsAs X n hs2 l2 → wAsMany X.K i Wout D l2 k d σ1 H1 →
        wpAny (model X.prog X.w) X.A (handleBy (.ref a) X.env hs2) (SP X pins D) X.xe { t0 with heap := hA } := by
      intro hs2 l2 hk
      induction hk with
      | nil =>
        intro out
        refine wpAny_handleBy_nil ?_
        obtain ⟨_, _, _, oe, vs, tt, oT, ts', he, hz, hd, h1, hr⟩ := id flA
        unfold PySem.passOn
        refine wpAny_bind (wpAny_field he hd h1 ?_)
        rw [if_neg (by simp : ¬ ((Value.ref tt == Value.none) = true))]
        have leave : wpAny (model X.prog X.w) X.A (setFlight (.ref a) X.env.frame) (fun _ t4 => wpAny (model X.prog X.w) X.A (throw (.ref a) : Sem Flow) (SP X pins D) X.xe t4) X.xe { t0 with heap := hA } := by
          rw [hf]
          refine HandSPX.setFlight_upZ flA fun hB fB uB => wpAny_throw (tk _ _ ?_)
          exact ⟨a, B, sI, pins, σ1, H1, k, d, rfl, J, nb, (up.trans upA).trans uB, .inr (.inr (by rw [hs]; exact fB)), na, os, ag, out⟩
        first
          | exact wpAny_bind (wpAny_pure (wpAny_bind leave))
          | exact wpAny_bind leave
      | @cons x c ts b0 bs p1 p2 hs3 l3 named suite more ih =>
        intro wish2
        obtain ⟨b, isb, yes, no⟩ := wish2
        refine wpAny_handleBy_cons (codeAny_handlers_test ?_) (by intro q; cases q)
        have its : PySem.W.Looks (model X.prog X.w) hA (typeOf (.ref a)) k := fun A Q E s kp q => wpAny_typeOf_ref (kp _ _ hoA) (by rw [zA.1]; exact q)
        have matched := PySem.W.exm_one (M := model X.prog X.w) (JA.kIn) its isb
        have asked : ∀ {Q : Value → Shared → Prop} {E : Value → Shared → Prop}, Q c { t0 with heap := hA } → wpAny (model X.prog X.w) (X.A.mark (some (.ref a))) (eval (.Name x p1) X.env) Q E { t0 with heap := hA } := fun {Q E} q => by
          obtain ⟨g1, g2, m1 | ⟨m1, m2, m3⟩⟩ := named
          · exact ld_glob (X := X.suite a ((a, oA) :: (X.pn ++ pins))) SA g1 m1 q g2
          · exact ld_blt (X := X.suite a ((a, oA) :: (X.pn ++ pins))) SA g1 m1 m2 q m3 g2
        refine asked (matched.here ?_)
        cases b with
        | false =>
          show wpAny _ X.A (handleBy (.ref a) X.env hs3) _ _ _
          exact ih (no rfl)
        | true =>
          refine codeAny_handlers_suite_as ?_
          refine HandSPX.lands_againZ flA fun hB flB upB => ?_
          have JB : Inv X pins σ1 H1 { t0 with heap := hB } := J.landed nb flB.1 ((up.trans upA).trans upB) os ag
          obtain ⟨oB, vB, hoB, zB, dB⟩ := flB.there
          have SB := JB.suite hoB dB na aL aF
          refine store_ok (X := X.suite a ((a, oB) :: (X.pn ++ pins))) (v := .ref a) SB hN hi loc rfl (fun t5 S5 => ?_) (.inr hln)
          refine wpAny_mono ((suite a oB k d (X.pn ++ pins) zB ⟨_, dB⟩).run [] t5 _ H1 _ S5 (yes rfl a na)) (fun f t6 ends => ?_) (fun _ _ z => False.elim z)
          have over : ∀ {σ6 : L2.St} {H6 : Hp} {Q : Shared → Prop}, Inv (X.suite a ((a, oB) :: (X.pn ++ pins))) [] σ6 H6 t6 → (∀ t7, Inv X pins (σ6.set i none) H6 t7 → Q t7) →
              wpAny (model X.prog X.w) X.A (do bindName X.env n .none; unbindBehindTheSuite X.env n p2) (fun _ t7 => Q t7) X.xe t6 := fun {σ6 H6 Q} S6 hq => gone_ok (S6.unsuite inv) hN hi hln hq
          cases f with
          | next =>
            obtain ⟨σ6, H6, S6, q6⟩ := ends
            exact over S6 fun t7 J7 => ⟨_, _, J7, q6⟩
          | brk =>
            obtain ⟨σ6, H6, S6, q6⟩ := ends
            exact over S6 fun t7 J7 => ⟨_, _, J7, q6⟩
          | cont =>
            obtain ⟨σ6, H6, S6, q6⟩ := ends
            exact over S6 fun t7 J7 => ⟨_, _, J7, q6⟩
          | ret u =>
            obtain ⟨v6, σ6, H6, S6, r6, q6⟩ := ends
            exact over S6 fun t7 J7 => ⟨_, _, _, J7, r6, q6⟩
    exact go hh wish
  · cases f with
    | next =>
      obtain ⟨σ2, H2, J2, q⟩ := ended
      exact wpAny_execs_nil ⟨σ2, H2, J2.ofTry inv, q⟩
    | brk =>
      obtain ⟨σ2, H2, J2, q⟩ := ended
      exact ⟨σ2, H2, J2.ofTry inv, q⟩
    | cont =>
      obtain ⟨σ2, H2, J2, q⟩ := ended
      exact ⟨σ2, H2, J2.ofTry inv, q⟩
    | ret u =>
      obtain ⟨v2, σ2, H2, J2, r, q⟩ := ended
      exact ⟨v2, σ2, H2, J2.ofTry inv, r, q⟩
end
end LF

set_option Elab.async false
set_option linter.all false
set_option maxRecDepth 100000
set_option maxHeartbeats 4000000
namespace K5
open PySem PySem.Spec PyProof.Rows L2 LF TL
abbrev s__law_told : Stmt := topS 57
theorem sc__law_told : FnScope ["_law_package", "_law_deed_here", "e"] ["_law_package", "_law_deed_here"] (defScope s__law_told) := ⟨rfl, rfl, rfl, by decide +kernel, rfl, by decide +kernel, by decide +kernel⟩
/-- the errors that the law takes -/
structure Errs (K : PySem.W.Frag) (mg : Str → Option Value) (CP fP CE fE CN fN CM fM CQ : Addr) : Prop where
  path : PySem.BadPathX.PathTxt K mg CP fP
  low : PySem.BadEntryX.EntryTxt K mg CE fE
  noe : PySem.NoEntryX.NoEntryTxt K mg CN fN
  many : PySem.TooManyX.ManyTxt K mg CM fM
  exP : ExcC K CP
  exN : ExcC K CN
  gQ : mg "NoPackage" = some (.ref CQ)
  n_V : mg "ValueError" = none
  n_K : mg "KeyError" = none
  kP : PySem.W.kitOne K (.ref CP) (.type "ValueError") = some true
  kN : PySem.W.kitOne K (.ref CN) (.type "KeyError") = some true
  kQ : PySem.W.kitOne K (.ref CN) (.ref CQ) = some false
  EP : PySem.W.exmOne K (.ref CE) (.ref CP) = some false
  NP : PySem.W.exmOne K (.ref CN) (.ref CP) = some false
  NE : PySem.W.exmOne K (.ref CN) (.ref CE) = some false
  MP : PySem.W.exmOne K (.ref CM) (.ref CP) = some false
  ME : PySem.W.exmOne K (.ref CM) (.ref CE) = some false
  MN : PySem.W.exmOne K (.ref CM) (.ref CN) = some false
/-- the two changes -/
structure Chg (P : Program) (w : World) (K : PySem.W.Frag) (mg : Str → Option Value) (base : Heap) (C CP CE CM CN fC fW : Addr) (fdC fdW : FuncData) : Prop where
  cl : Cls K C
  mC : Meth K C "changed" fC
  FC : FnOk P w K mg base (L2.CX P w) 10 fC fdC ["self", "path", "item"] (spChanged K C CP CE CM)
  bC : Binds K fdC ["self", "path", "item"] []
  mW : Meth K C "without" fW
  FW : FnOk P w K mg base (L2.CX P w) 10 fW fdW ["self", "path"] (spWithout K C CP CN)
  bW : Binds K fdW ["self", "path"] []
def spTold (K : PySem.W.Frag) (C : Addr) : Sp := fun vs H Q _ => ∃ p dd es x oy, vs = [.ref p, .ref dd] ∧ PkAt C H p es ∧ OkE es ∧ es.length ≤ 40 ∧ DeedAt K H dd x oy ∧ PX H x ∧ (∀ y, oy = some y → PlainX H y ∧ ItA y) ∧
  (∀ k v, outE es x oy = .bad k v → ∀ H' q, Same H H' → H' q = some (.tup [.str k, v]) → Q (.ref q) H') ∧
  (∀ es2, outE es x oy = .new es2 → ∀ H' q, Same H H' → PkAt C H' q es2 → Q (.ref q) H')
section
variable {P : Program} {w : World} {K : PySem.W.Frag} {mg : Str → Option Value} {base : Heap} {tk1 tk2 : Tok}
theorem ok_told {f C CP fP CE fE CN fN CM fM CQ fC fW : Addr} {fd fdC fdW : FuncData} (F : Fun K "_law_told" "_law_told" s__law_told f fd) (T : Txt K mg tk1 tk2) (R : Errs K mg CP fP CE fE CN fN CM fM CQ) (G : Chg P w K mg base C CP CE CM CN fC fW fdC fdW) :
    FnOk P w K mg base CX0 12 f fd ["_law_package", "_law_deed_here"] (spTold K C) := by
  refine F.ok sc__law_told (fun vs H Q E h => ?_) (fun cdv A outer s H vs Q E hr h => ?_)
  · obtain ⟨p, dd, es, x, oy, rfl, _⟩ := h
    rfl
  refine ⟨_, pss_one (ps_try_asMany (i := 2) (Wout := fun _ _ _ _ => False) rfl rfl sc__law_told.nd rfl rfl takes0
    (fun W pn xe tk _ => pss_cons (ps_if (pt_cmpR op_eq (pe_ix (show IxR _ (rIxT K) from ix_tup) (pv 1) pe_int (fun _ _ => rfl)) pe_str (nomark _)) (pss_one (ps_ret (pe_methA (pv 0) G.cl G.mW G.FW (hr.mono (by decide)) G.bW (fun σ => passAt tk σ) (by exact (pa_cons (pe_ix (show IxR _ (rIxT K) from ix_tup) (pv 1) pe_int (fun _ _ => rfl)) pa_nil))))) pss_nil)
      (pss_one (ps_ret (pe_methA (pv 0) G.cl G.mC G.FC (hr.mono (by decide)) G.bC (fun σ => passAt tk σ) (by exact (pa_cons (pe_ix (show IxR _ (rIxT K) from ix_tup) (pv 1) pe_int (fun _ _ => rfl)) (pa_cons (pe_ix (show IxR _ (rIxT K) from ix_tup) (pv 1) pe_int (fun _ _ => rfl)) pa_nil)))))))
    (HdsAs.cons ⟨rfl, by decide, Or.inl R.path.gC⟩ (fun a oe cls d pn hz hf =>
      pss_one (ps_ret (pe_ifExp (pt_val (pe_callB (call_isErr R.exP hz hf) (by rfl) T.n_isinstance (by decide +kernel) (pa_cons (pv 2) (pa_cons (pe_bltn (v := .ty "ValueError") (by rfl) R.n_V (by decide +kernel) rfl) pa_nil)))) (pe_tup (pa_cons pe_str (pa_cons (pe_pathOf R.path hz hf (pv 2)) pa_nil))) (pe_tup (pa_cons pe_str pa_nil)))))
    (HdsAs.cons ⟨rfl, by decide, Or.inl R.low.gC⟩ (fun a oe cls d pn hz hf =>
      pss_one (ps_ret (pe_tup (pa_cons pe_str (pa_cons (pe_ofEntry R.low hz hf (pv 2)) pa_nil)))))
    (HdsAs.cons ⟨rfl, by decide, Or.inl R.noe.gC⟩ (fun a oe cls d pn hz hf =>
      pss_one (ps_ret (pe_ifExp (PW.pt (pw_and (pt_val (pe_callB (call_isErr R.exN hz hf) (by rfl) T.n_isinstance (by decide +kernel) (pa_cons (pv 2) (pa_cons (pe_bltn (v := .ty "KeyError") (by rfl) R.n_K (by decide +kernel) rfl) pa_nil))))
        (pw_and1 (pt_not (pt_val (pe_callB (call_isErr R.exN hz hf) (by rfl) T.n_isinstance (by decide +kernel) (pa_cons (pv 2) (pa_cons (pe_glob (v := .ref CQ) rfl R.gQ rfl) pa_nil)))))))) (pe_tup (pa_cons pe_str (pa_cons (pe_ofNoEntry R.noe hz hf (pv 2)) pa_nil))) (pe_tup (pa_cons pe_str pa_nil)))))
    (HdsAs.cons ⟨rfl, by decide, Or.inl R.many.gC⟩ (fun a oe cls d pn hz hf =>
      pss_one (ps_ret (pe_tup (pa_cons pe_str (pa_cons (pe_limitOf R.many hz hf (pv 2)) pa_nil)))))
    .nil))))), ?_⟩
  obtain ⟨p, dd, es, x, oy, rfl, pk, ok, hl, hdd, hx, hy, hbad, hnew⟩ := h
  obtain ⟨dx, d0, ⟨xx_g1, g1, zz_g1⟩, g2⟩ := id pk
  have hlk : ∀ m : Str, pkNot m = true → (pkFs d0 xx_g1).lookup m = none := fun m h => lk_no _ h
  have hxl : ∀ z, x = .str z → z.length ≤ 1000 := fun z e => by
    rcases hx with ⟨z', e2, _, h⟩ | h | ⟨i, h, _⟩ | ⟨a, h, _⟩
    · rw [e] at e2; cases e2; exact h
    all_goals (rw [e] at h; cases h)
  have pth : ∀ {H' : Hp} {dd : Addr} {q : Addr}, Same H H' → isPtV x = false → H' dd = some (.xd [("path", x)]) → H' q = none → Q (.ref q) (upd H' q (.tup [.str "BadPath", x])) := fun s hb hdd hq =>
    hbad "BadPath" x (out_bad hb) _ _ (s.trans (same_new hq)) upd_same
  have hbo : isOk K H x isPt (isPtV x) := hx.ok2
  cases oy with
  | none =>
    refine ⟨_, rfl, dd, _, 0, _, rfl, rfl, hdd, at0 _ _, rfl, _, rfl, ?_⟩
    rw [str_dec]
    refine ifD (fun _ => ?_) (fun h => absurd rfl h)
    refine ⟨_, rfl, p, dx, _, rfl, g1, hlk _ (by decide +kernel), _, rfl, dd, _, 1, x, rfl, rfl, hdd, at1 _ _ _, ?_⟩
    refine ⟨p, es, x, isPtV x, rfl, pk, ok, hl, hbo, hxl, fun hb H' d1 s hdd1 => ?_, fun z hz hb => ⟨fun hno H' d1 s hdd1 => ?_, fun hin H' p2 s pk2 => ?_⟩⟩
    · refine ⟨true, R.path.te, fun _ a0 ha0 => ?_, fun q => Bool.noConfusion q⟩
      refine ⟨_, rfl, rfl, fun e' he' => ⟨_, Option.some.inj he' ▸ hdd1⟩, Or.inl ⟨.ty "ValueError", .type "ValueError", true, rfl, fun u r => r, R.kP, _, rfl, iteT ?_⟩⟩
      exact ⟨_, rfl, rfl, rfl, d1, _, rfl, hdd1, (by show 2 ≤ sizeLine; decide), fun q hq => pth s hb hdd1 hq⟩
    · subst hz
      have hb : isPt z = true := hb
      refine ⟨false, R.NP, fun q => Bool.noConfusion q, fun _ => ⟨false, R.NE, fun q => Bool.noConfusion q, fun _ => ⟨true, R.noe.te, fun _ a0 ha0 => ?_, fun q => Bool.noConfusion q⟩⟩⟩
      refine ⟨_, rfl, rfl, fun e' he' => ⟨_, Option.some.inj he' ▸ hdd1⟩, Or.inl ⟨.ty "KeyError", .type "KeyError", true, rfl, fun u r => r, R.kN, _, rfl, iteT ?_⟩⟩
      refine ⟨_, rfl, rfl, fun e' he' => ⟨_, Option.some.inj he' ▸ hdd1⟩, Or.inl ⟨.ref CQ, .ref CQ, false, rfl, fun u r => r, R.kQ, _, rfl, iteT ?_⟩⟩
      refine ⟨_, rfl, rfl, rfl, d1, _, rfl, hdd1, (by show 2 ≤ sizeLine; decide), fun q hq => hbad "NoEntry" (.str z) ?_ _ q (s.trans (same_new hq)) upd_same⟩
      show (if isPt z = true then _ else _) = _
      rw [if_pos hb, if_neg hno]
    · subst hz
      have hb : isPt z = true := hb
      refine hnew (dropE es z) ?_ H' p2 s pk2
      show (if isPt z = true then _ else _) = _
      rw [if_pos hb, if_pos hin]
  | some y =>
    obtain ⟨hyP, hyA⟩ := hy y rfl
    refine ⟨_, rfl, dd, _, 0, _, rfl, rfl, hdd, at0 _ _, rfl, _, rfl, ?_⟩
    rw [str_dec]
    refine ifD (fun h => absurd h (by decide +kernel)) (fun _ => ?_)
    refine ⟨_, rfl, p, dx, _, rfl, g1, hlk _ (by decide +kernel), _, rfl, dd, _, 1, x, rfl, rfl, hdd, at1 _ _ _, _, rfl, dd, _, 2, y, rfl, rfl, hdd, at2 _ _ _ _, ?_⟩
    refine ⟨p, es, x, y, isPtV x, rfl, pk, ok, by omega, hbo, hxl, hyP, fun hb H' d1 s hdd1 => ?_, fun z hz hb => ⟨fun q0 hq0 H' d1 s hdd1 => ?_, fun hfb hl2 H' p2 s pk2 => ?_, fun hfb hl2 H' d1 s hdd1 => ?_⟩⟩
    · refine ⟨true, R.path.te, fun _ a0 ha0 => ?_, fun q => Bool.noConfusion q⟩
      refine ⟨_, rfl, rfl, fun e' he' => ⟨_, Option.some.inj he' ▸ hdd1⟩, Or.inl ⟨.ty "ValueError", .type "ValueError", true, rfl, fun u r => r, R.kP, _, rfl, iteT ?_⟩⟩
      exact ⟨_, rfl, rfl, rfl, d1, _, rfl, hdd1, (by show 2 ≤ sizeLine; decide), fun q hq => pth s hb hdd1 hq⟩
    · subst hz
      have hb : isPt z = true := hb
      refine ⟨false, R.EP, fun q => Bool.noConfusion q, fun _ => ⟨true, R.low.te, fun _ a0 ha0 => ?_, fun q => Bool.noConfusion q⟩⟩
      refine ⟨_, rfl, rfl, rfl, d1, _, rfl, hdd1, (by show 2 ≤ sizeLine; decide), fun q hq => hbad "BadEntry" (.str q0) ?_ _ q (s.trans (same_new hq)) upd_same⟩
      show (if isPt z = true then _ else _) = _
      rw [if_pos hb, hq0]
    · subst hz
      have hb : isPt z = true := hb
      refine hnew (pkE (putE es z y)) ?_ H' p2 s pk2
      show (if isPt z = true then _ else _) = _
      rw [if_pos hb, hfb]
      show (if _ then _ else _) = _
      rw [if_pos hl2]
    · subst hz
      have hb : isPt z = true := hb
      refine ⟨false, R.MP, fun q => Bool.noConfusion q, fun _ => ⟨false, R.ME, fun q => Bool.noConfusion q, fun _ => ⟨false, R.MN, fun q => Bool.noConfusion q, fun _ => ⟨true, R.many.te, fun _ a0 ha0 => ?_, fun q => Bool.noConfusion q⟩⟩⟩⟩
      refine ⟨_, rfl, rfl, rfl, d1, _, rfl, hdd1, (by show 2 ≤ sizeLine; decide), fun q hq => hbad "TooMany" (.int 40) ?_ _ q (s.trans (same_new hq)) upd_same⟩
      show (if isPt z = true then _ else _) = _
      rw [if_pos hb, hfb]
      show (if _ then _ else _) = _
      rw [if_neg (by omega)]
end
end K5

set_option Elab.async false
set_option linter.all false
set_option maxRecDepth 100000
set_option maxHeartbeats 4000000
namespace K5
open PySem PySem.Spec PyProof.Rows L2 LF TL
theorem Prs.get {H : Hp} : ∀ {ps : List Addr} {es : List (Str × V)}, Prs H ps es → ∀ {i : Nat} {q : Addr}, ps[i]? = some q → ∃ e, es[i]? = some e ∧ H q = some (.tup [.str e.1, e.2])
  | [], [], .nil, _, _, h => by cases h
  | _ :: _, e :: _, .cons a r, 0, q, h => by
    cases h
    exact ⟨e, rfl, a⟩
  | _ :: _, _ :: _, .cons a r, i + 1, q, h => Prs.get r (i := i) h
section
variable {K : PySem.W.Frag} {a D : Addr} {es : List (Str × V)} {ps : List Addr} {tt : TT} {te : TE} {j k : Nat} {σ : L2.St} {H : Hp} {Qd : Hp → Prop}
theorem lc_rows (p : Str × V → Bool) (hD : H D = none) (hS : SqL K H a (ps.map V.ref)) (hps : Prs H ps es) (hlen : es.length < sizeLine)
    (hw : ∀ x y, wipe (((wipe σ [j, k]).set j x).set k y) [j, k] = wipe σ [j, k])
    (ht : ∀ e H1 (R : Bool → Hp → Prop), e ∈ es → Same H H1 → (∀ H3, Same H1 H3 → R (p e) H3) → tt (((wipe σ [j, k]).set j (some (.str e.1))).set k (some e.2)) H1 R)
    (he : ∀ e H1 (R : V → Hp → Prop), e ∈ es → Same H H1 → (∀ H3, Same H1 H3 → R (.str e.1) H3) → te (((wipe σ [j, k]).set j (some (.str e.1))).set k (some e.2)) H1 R)
    (hd : ∀ H', Same H H' → H' D = some (.lst (((es.filter p).map (·.1)).map V.str)) → Qd H') :
    ∃ W : Nat → Nat → Hp → Prop, (∃ m, W 0 m (upd H D (.lst []))) ∧ ∀ i m H, W i m H →
      ((Itl K a).stop i H ∧ Qd H) ∨ ((Itl K a).go i H ∧ ∃ Nx : Hp → Prop, (∀ H', Nx H' → ∃ m', m' < m ∧ W (i + 1) m' H') ∧ ∀ x H', (Itl K a).yld i H x H' → gTup K 2 (gCons (gName j) (gCons (gName k) gNil)) x (wipe σ [j, k]) H' fun σ2 H2 => wipe σ2 [j, k] = wipe σ [j, k] ∧ tt σ2 H2 fun b H3 =>
        if b = true then te σ2 H3 fun y H4 => ∃ acc, H4 D = some (.lst acc) ∧ acc.length < sizeLine ∧ Nx (upd H4 D (.lst (acc ++ [y]))) else Nx H3) := by
  have hpl := hps.len
  refine lc_list (Pv := fun i H' => Same H H' ∧ H' D = some (.lst ((((es.take i).filter p).map (·.1)).map V.str))) ⟨same_new hD, upd_same⟩ (fun i H' _ h => sqL_same h.1 hS) ?_ ?_
  · rintro i x H1 hx ⟨sm, hd1⟩
    rw [List.getElem?_map] at hx
    cases e' : ps[i]? with
    | none => rw [e'] at hx; cases hx
    | some q =>
      rw [e'] at hx
      cases hx
      obtain ⟨e, hie, hq⟩ := hps.get e'
      have hm := List.mem_of_getElem? hie
      have et : es.take (i + 1) = es.take i ++ [e] := by rw [List.take_add_one, hie]; rfl
      have hl : ((((es.take i).filter p).map (·.1)).map V.str).length < sizeLine := by
        rw [List.length_map, List.length_map]
        have h1 : ((es.take i).filter p).length ≤ (es.take i).length := List.length_filter_le _ _
        have h2 : (es.take i).length ≤ es.length := by rw [List.length_take]; exact Nat.min_le_right _ _
        omega
      refine ⟨q, [.str e.1, e.2], rfl, SqT.of (sm _ _ hq), rfl, _, _, rfl, _, _, rfl, rfl, hw _ _, ht e H1 _ hm sm fun H3 s3 => ?_⟩
      cases hp : p e with
      | true =>
        refine iteT (he e H3 _ hm (sm.trans s3) fun H4 s4 => ?_)
        refine ⟨_, s4 _ _ (s3 _ _ hd1), hl, same_upd hD ((sm.trans s3).trans s4), ?_⟩
        rw [upd_same, et, List.filter_append, List.map_append, List.map_append]
        simp [hp]
      | false =>
        refine iteF ⟨sm.trans s3, ?_⟩
        rw [s3 _ _ hd1, et, List.filter_append, List.map_append, List.map_append]
        simp [hp]
  · rintro H1 ⟨sm, hd1⟩
    rw [List.length_map, hpl, List.take_length] at hd1
    exact hd H1 sm hd1
end
theorem ord_id {es : List (Str × V)} (ok : OkE es) : (es.map (·.1)).mergeSort pLe = es.map (·.1) := List.mergeSort_of_pairwise ok.le
theorem prs_list {K : PySem.W.Frag} {H : Hp} : ∀ {ps : List Addr} {es : List (Str × V)}, Prs H ps es → (∀ e ∈ es, Plain e.2) → DpAll K H (ps.map V.ref) (es.map fun e => .tuple [.str e.1, dV e.2])
  | [], [], .nil, _ => .nil
  | _ :: _, _ :: _, .cons h2 r, hp => .cons (.tup (SqT.of h2) (.cons (.str _) (.cons (dp_plain (hp _ List.mem_cons_self)) .nil))) (prs_list r fun e he => hp e (List.mem_cons_of_mem _ he))
theorem kind_int {v : V} (h : Plain v) : decide (kindV v = "file") = (match v with | .int _ => true | _ => false) := by
  rcases h with rfl | ⟨i, rfl⟩ | ⟨z, rfl, _⟩
  · exact (by decide +kernel : decide (("folder" : Str) = "file") = false)
  · exact (by decide +kernel : decide (("file" : Str) = "file") = true)
  · exact (by decide +kernel : decide (("reference" : Str) = "file") = false)
theorem kind_non {v : V} (h : Plain v) : decide (kindV v = "folder") = (match v with | .non => true | _ => false) := by
  rcases h with rfl | ⟨i, rfl⟩ | ⟨z, rfl, _⟩
  · exact (by decide +kernel : decide (("folder" : Str) = "folder") = true)
  · exact (by decide +kernel : decide (("file" : Str) = "folder") = false)
  · exact (by decide +kernel : decide (("reference" : Str) = "folder") = false)
theorem kind_str {v : V} (h : Plain v) : decide (kindV v = "reference") = (match v with | .str _ => true | _ => false) := by
  rcases h with rfl | ⟨i, rfl⟩ | ⟨z, rfl, _⟩
  · exact (by decide +kernel : decide (("folder" : Str) = "reference") = false)
  · exact (by decide +kernel : decide (("file" : Str) = "reference") = false)
  · exact (by decide +kernel : decide (("reference" : Str) = "reference") = true)
def lstsD (as : List (List Str)) : PyData := .list (as.map fun l => .list (l.map PyData.str))
theorem lay_strs : ∀ {l : List Str}, (∀ s ∈ l, PyData.strOk s = true) → PyData.canLayAll0 (l.map PyData.str) = true
  | [], _ => by rw [List.map_nil, PyData.canLayAll0]
  | s :: l, h => by
    rw [List.map_cons, PyData.canLayAll0, lay_strs fun t ht => h t (List.mem_cons_of_mem _ ht), PyData.canLay0, h s List.mem_cons_self]; rfl
theorem lay_lsts : ∀ {as : List (List Str)}, (∀ l ∈ as, ∀ s ∈ l, PyData.strOk s = true) → PyData.canLayAll0 (as.map fun l => .list (l.map PyData.str)) = true
  | [], _ => by rw [List.map_nil, PyData.canLayAll0]
  | l :: as, h => by
    rw [List.map_cons, PyData.canLayAll0, lay_lsts fun t ht => h t (List.mem_cons_of_mem _ ht), PyData.canLay0, lay_strs (h l List.mem_cons_self)]; rfl
theorem depth_lsts : ∀ (as : List (List Str)), PyData.depthAll (as.map fun l => .list (l.map PyData.str)) ≤ 1
  | [] => by rw [List.map_nil, PyData.depthAll]; decide
  | l :: as => by
    have := depth_lsts as
    rw [List.map_cons, PyData.depthAll, PyData.depth, depth_strs]
    omega
theorem shaped_lsts {as : List (List Str)} (h : ∀ l ∈ as, ∀ s ∈ l, PyData.strOk s = true) : SeqAt.shaped (lstsD as) = true ∧ PyData.eqv (lstsD as) (lstsD as) = true := by
  have h1 : (lstsD as).canLay0 = true := by
    unfold lstsD
    rw [PyData.canLay0]; exact lay_lsts h
  refine ⟨?_, PySem.SeqAt.eqv_refl _ h1⟩
  unfold SeqAt.shaped
  rw [h1, Bool.true_and]
  refine decide_eq_true ?_
  unfold lstsD
  have := depth_lsts as
  rw [PyData.depth]
  omega
theorem paths_ok {es : List (Str × V)} (ok : OkE es) (kd : Str) : ∀ s ∈ pathsOf es kd, PyData.strOk s = true := fun s hs => by
  unfold pathsOf at hs
  obtain ⟨e, he, rfl⟩ := List.mem_map.mp hs
  exact (pl_short (ok.pl e (List.mem_filter.mp he).1).1).1
theorem eqPV_self {v : V} (h : flatP v = true) : eqPV v v = true := by
  cases v <;> first | (cases h; done) | rfl | (simp [eqPV])
theorem dEq_self {es : List (Str × V)} (ok : OkE es) : dEq (kv es) (kv es) = true := by
  unfold dEq
  rw [beq_self_eq_true, Bool.true_and, List.all_eq_true]
  intro q hq
  obtain ⟨e, he, rfl⟩ := List.mem_map.mp hq
  rw [val_mem ok.nd (p := e.1) (v := e.2) he]
  exact eqPV_self (flat_kv ok _ hq)
theorem badU_ok {es : List (Str × V)} (ok : OkU es) : firstBad es = none := by
  have hw : wrongs es = [] := by
    unfold wrongs
    rw [List.filter_eq_nil_iff]
    intro p hp
    obtain ⟨e, he, rfl⟩ := List.mem_map.mp hp
    rw [(ok.pl e he).1]
    exact Bool.false_ne_true
  unfold firstBad
  rw [hw]
  show List.find? _ _ = none
  rw [List.find?_eq_none]
  intro p hp
  obtain ⟨e, he, rfl⟩ := List.mem_map.mp (sort_mem.mp hp)
  unfold badAt liesB
  rw [val_mem ok.nd (p := e.1) (v := e.2) he]
  have h1 : ((begs e.1).any fun s => !decide ((valV (kv es) (.inr s)).getD .non = .non)) = false := by
    rw [List.any_eq_false]
    intro s hs
    rcases ok.up e he s hs with h | h <;> (rw [h]; simp)
  rw [h1, Bool.or_false]
  show ¬ (!itemV e.2) = true
  rw [(ok.it e he).2]
  exact Bool.false_ne_true
/-- Package(d), d a dict of sound entries -/
theorem makeU_ok {K : PySem.W.Frag} {CK CE CM : Addr} {H : Hp} {x dx d : Addr} {es : List (Str × V)} {R : VK} {E : XK} (hx : H x = none) (hdx : H dx = none) (hd : H d = some (.dK (kv es))) (ok : OkU es) (hel : es.length ≤ 1000) (hl : (pkE es).length ≤ 40) (hq : ∀ H', Same H H' → PkAt CK H' x (pkE es) → R .non H') :
    spInX K CK CE CM (.ref x :: ([.ref d] ++ [])) (upd (upd H dx (.own x)) x (.ins CK dx [])) R E := by
  have n1 := ne_of_none hd hx
  have n2 := ne_of_none hd hdx
  have hb := badU_ok ok
  refine ⟨x, dx, .ref d, rfl, upd_same, Or.inl ⟨es, Or.inr ⟨d, rfl, by rw [upd_ne n1, upd_ne n2]; exact hd⟩, ⟨fun e he => by have := (pl_short (ok.pl e he).1).2; omega, fun e he => Or.inl (ok.it e he).1, ok.nd, hel⟩, fun z hz => ?_, fun _ _ H' k pk => hq H' (fun b o e => k b o (ne_of_none e hx) (by rw [upd_ne (ne_of_none e hx), upd_ne (ne_of_none e hdx)]; exact e)) pk, fun _ h => absurd hl (by omega)⟩⟩
  rw [hb] at hz; cases hz
theorem makeE_ok {K : PySem.W.Frag} {CK CE CM : Addr} {H : Hp} {x dx d : Addr} {es : List (Str × V)} {R : VK} {E : XK} (hx : H x = none) (hdx : H dx = none) (hd : H d = some (.dK (kv es))) (ok : OkE es) (hl : es.length ≤ 40) (hq : ∀ H', Same H H' → PkAt CK H' x es → R .non H') :
    spInX K CK CE CM (.ref x :: ([.ref d] ++ [])) (upd (upd H dx (.own x)) x (.ins CK dx [])) R E := by
  have e := pkE_id ok
  exact makeU_ok hx hdx hd ok.toU (by omega) (by rw [e]; exact hl) fun H' s pk => hq H' s (by rw [e] at pk; exact pk)
/-- a package that is read, its dict walked or not -/
def PkR (C : Addr) (H : Hp) (p : Addr) (es : List (Str × V)) : Prop := ∃ dx d, (∃ x, H p = some (.ins C dx (pkFs d x)) ∧ True) ∧ Rd H d (.dK (kv es))
def spIn3 (K : PySem.W.Frag) (C : Addr) : Sp := fun vs H Q _ => ∃ p es x, vs = [.ref p, x] ∧ PkR C H p es ∧ ((∃ z, x = .str z ∧ ∀ H', Same H H' → Q (.bl (inE es z)) H') ∨ ((∃ t, TyX K H x t ∧ PySem.W.kitOne K t (.type "str") = some false) ∧ ∀ H', Same H H' → Q (.bl false) H'))
theorem ok_contains3 {P : Program} {w : World} {K : PySem.W.Frag} {mg : Str → Option Value} {base : Heap} {tk1 tk2 : Tok} {f C : Addr} {fd : FuncData} (F : Fun K "__contains__" "Package.__contains__" s_contains f fd) (T : Txt K mg tk1 tk2) (R : PkTxt K mg C) : FnOk P w K mg base CX0 1 f fd ["self", "thing"] (spIn3 K C) := by
  refine F.ok sc_contains (fun vs H Q E h => ?_) (fun cdv A outer s H vs Q E hr h => ?_)
  · obtain ⟨p, es, x, rfl, _⟩ := h
    rfl
  have hu1 := hu_of hr
  refine ⟨_, pss_one (ps_ret (pe_and (pe_callB call_isi (by rfl) T.n_isinstance (by decide +kernel) (pa_cons (pv 1) (pa_cons (pe_bltn (v := .ty "str") (by rfl) T.n_str (by decide +kernel) rfl) pa_nil))) (pe_one (pe_cmp (pc_din hu1 (pv 1) (pe_fld (pv 0) rfl)) rfl)))), ?_⟩
  obtain ⟨p, es, x, rfl, ⟨dx, d, ⟨xx_hp, hp, zz_hp⟩, hd⟩, h⟩ := h
  rcases h with ⟨z, rfl, hq⟩ | ⟨⟨t, ty, ht⟩, hq⟩
  · refine ⟨_, rfl, _, .ty "str", _, _, true, rfl, .ty _, .base (.str _), kit_str, _, rfl, iteT ?_⟩
    exact ⟨_, rfl, _, rfl, p, C, dx, _, _, rfl, hp, R.cl, R.nE, lk_entries d, d, _, rfl, .inl ⟨kv es, .inr z, hd, rfl, rfl⟩, hq H (Same.refl H)⟩
  · refine ⟨_, rfl, _, .ty "str", _, _, false, rfl, .ty _, ty, ht, _, rfl, iteF ?_⟩
    exact hq H (Same.refl H)
end K5

set_option Elab.async false
set_option linter.all false
set_option maxRecDepth 100000
set_option maxHeartbeats 1000000
namespace K5
open PySem PySem.Spec PyProof.Rows L2 LF TL
open PySem.W (EachIs)
abbrev s__law_same : Stmt := topS 58
abbrev N__law_same : List Str := ["_law_package", "_law_full_here", "_law_rows", "_law_path_here", "_law_row", "_law_files", "_law_item", "_law_folders", "_law_others", "_law_text", "_law_one"]
theorem sc__law_same : FnScope ["_law_package", "_law_full_here", "_law_rows", "_law_path_here", "_law_row", "_law_files", "_law_item", "_law_folders", "_law_others", "_law_text", "_law_one"] ["_law_package", "_law_full_here"] (defScope s__law_same) := ⟨rfl, rfl, rfl, by decide +kernel, rfl, by decide +kernel, by decide +kernel⟩
/-- what the law asks of packages -/
structure PkAll (P : Program) (w : World) (K : PySem.W.Frag) (mg : Str → Option Value) (base : Heap) (C CE CM p1 p2 p3 g1 g2 g3 fG fL fE fR fN fI : Addr) (fd1 fd2 fd3 fdG fdL fdE fdR fdN fdI : FuncData) : Prop where
  gC : mg "Package" = some (.ref C)
  cl : Cls K C
  pr : Props P w K mg base C p1 p2 p3 g1 g2 g3 fd1 fd2 fd3
  mG : Meth K C "items" fG
  GG : GFnC P w K mg base 2 fG fdG ["self"] (spItems C)
  bG : Binds K fdG ["self"] []
  FL : FnOk P w K mg base CX0 1 fL fdL ["self"] (spLen C)
  bL : Binds K fdL ["self"] []
  sL : PySem.W.findIn K (.ref C) "__len__" = some (some (.ref fL))
  iL : PySem.W.isFn K (.ref fL) = true
  FE : FnOk P w K mg base CX0 1 fE fdE ["self", "other"] (spEqA C)
  bE : Binds K fdE ["self", "other"] []
  sE : PySem.W.findIn K (.ref C) "__eq__" = some (some (.ref fE))
  iE : PySem.W.isFn K (.ref fE) = true
  FR : FnOk P w K mg base CX0 5 fR fdR ["self"] (spReprP C)
  bR : Binds K fdR ["self"] []
  sR : PySem.W.findIn K (.ref C) "__repr__" = some (some (.ref fR))
  iR : PySem.W.isFn K (.ref fR) = true
  FN : FnOk P w K mg base CX0 1 fN fdN ["self", "thing"] (spIn3 K C)
  bN : Binds K fdN ["self", "thing"] []
  sN : PySem.W.findIn K (.ref C) "__contains__" = some (some (.ref fN))
  iN : PySem.W.isFn K (.ref fN) = true
  mkr : Mk K C fI
  FI : FnOk P w K mg base (L2.CX P w) 8 fI fdI ["self", "entries"] (spInX K C CE CM)
  bI : Binds K fdI ["self", "entries"] []
theorem scal_str (a b : Str) : scal (.str a) (.str b) = true := rfl
def spSame (C : Addr) : Sp := fun vs H Q _ => ∃ p f es, vs = [.ref p, .ref f] ∧ PkAt C H p es ∧ H f = some (.dK (kv es)) ∧ OkE es ∧ es.length ≤ 40 ∧ ("zzz" : Str) ∉ es.map (·.1) ∧ ∀ H', Same H H' → Q (.bl true) H'
section
variable {P : Program} {w : World} {K : PySem.W.Frag} {mg : Str → Option Value} {base : Heap} {tk1 tk2 : Tok}
theorem ok_same {f f1 C CE CM p1 p2 p3 g1 g2 g3 fG fL fE fR fN fI : Addr} {fd fda fd1 fd2 fd3 fdG fdL fdE fdR fdN fdI : FuncData} (F : Fun K "_law_same" "_law_same" s__law_same f fd) (T : Txt K mg tk1 tk2) (d_ordered : DefAt P w K mg base "_law_ordered" 1 f1 fda ["_law_paths"] (spOrdered K))
    (G : PkAll P w K mg base C CE CM p1 p2 p3 g1 g2 g3 fG fL fE fR fN fI fd1 fd2 fd3 fdG fdL fdE fdR fdN fdI) : FnG P w K mg base CX0 10 f fd ["_law_package", "_law_full_here"] (spSame C) := by
  refine fnG_of F sc__law_same (fun vs H Q E h => ?_) (fun cdv A outer s H vs Q E gd hr h => ?_)
  · obtain ⟨p, f, es, rfl, _⟩ := h
    rfl
  have hu := hr.units
  have hu1 := hu_of hr
  refine ⟨_, (pss_cons (ps_setLc (i := 2) (own := [("_law_path_here", 3)]) rfl sc__law_same.nd rfl rfl (sw_true rfl rfl rfl (by decide +kernel)) (pi_list (pe_callD d_ordered (hr.mono (by decide)) (pa_cons (pe_callTy (call_listD rfl) (by rfl) T.n_list (by decide +kernel) (pa_cons (pv 1) pa_nil)) pa_nil))) (blkOk_by (N := N__law_same) (sc := defScope s__law_same) (by decide +kernel)) (fun _ _ _ _ _ => pg_name (i := 3) sc__law_same.nd rfl (Or.inl rfl)) (fun _ _ _ _ _ => pts_nil) (fun _ _ _ _ _ => (pe_tup (pa_cons (pv 3) (pa_cons (pe_dget hu1 (pv 1) (pv 3) (fun _ _ => rfl)) pa_nil)))))
    (pss_cons (ps_if (PW.pt (pw_or (pt_cmpR op_ne (pe_callB (call_reprX gd hu) (by rfl) T.n_repr (by decide +kernel) (pa_cons (pe_lcG (x := "_law_row") (pgenC_meth (pv 0) G.cl G.mG G.GG (hr.mono (by decide)) G.bG) (hr.mono (by decide)) rfl (by decide +kernel) (by decide +kernel) (by decide +kernel)) pa_nil)) (pe_callB (call_reprX gd hu) (by rfl) T.n_repr (by decide +kernel) (pa_cons (pv 2) pa_nil)) (nomark _)) (pw_or1 (pt_cmpR op_ne (pe_callB (call_lenO G.FL (hr.mono (by decide)) G.bL G.sL G.iL) (by rfl) T.n_len (by decide +kernel) (pa_cons (pv 0) pa_nil)) (pe_callB call_len_seq (by rfl) T.n_len (by decide +kernel) (pa_cons (pv 2) pa_nil)) (nomark _))))) (pss_one (ps_ret pe_bl)) pss_nil)
    (pss_cons (ps_setLc (i := 5) (own := [("_law_path_here", 3), ("_law_item", 6)]) rfl sc__law_same.nd rfl rfl (sw_true rfl rfl rfl (by decide +kernel)) (pi_list (pv 2)) (blkOk_by (N := N__law_same) (sc := defScope s__law_same) (by decide +kernel)) (fun _ _ _ _ _ => (show PG _ _ (gTup K 2 (gCons (gName 3) (gCons (gName 6) gNil))) from (pg_tup (by rfl) (pgs_cons (pg_name (i := 3) sc__law_same.nd rfl (Or.inl rfl)) (pgs_cons (pg_name (i := 6) sc__law_same.nd rfl (Or.inl rfl)) pgs_nil))))) (fun _ _ _ _ _ => (pts_one (pt_val (pe_callB (show CallR _ (.builtin "isinstance") (rIsi K) from call_isi) (by rfl) T.n_isinstance (by decide +kernel) (pa_cons (pv 6) (pa_cons (pe_bltn (v := .ty "int") (by rfl) T.n_int (by decide +kernel) rfl) pa_nil)))))) (fun _ _ _ _ _ => (pv 3)))
    (pss_cons (ps_setLc (i := 7) (own := [("_law_path_here", 3), ("_law_item", 6)]) rfl sc__law_same.nd rfl rfl (sw_true rfl rfl rfl (by decide +kernel)) (pi_list (pv 2)) (blkOk_by (N := N__law_same) (sc := defScope s__law_same) (by decide +kernel)) (fun _ _ _ _ _ => (show PG _ _ (gTup K 2 (gCons (gName 3) (gCons (gName 6) gNil))) from (pg_tup (by rfl) (pgs_cons (pg_name (i := 3) sc__law_same.nd rfl (Or.inl rfl)) (pgs_cons (pg_name (i := 6) sc__law_same.nd rfl (Or.inl rfl)) pgs_nil))))) (fun _ _ _ _ _ => (pts_one (pt_cmpR op_isN (pv 6) pe_non (nomark _)))) (fun _ _ _ _ _ => (pv 3)))
    (pss_cons (ps_setLc (i := 8) (own := [("_law_path_here", 3), ("_law_item", 6)]) rfl sc__law_same.nd rfl rfl (sw_true rfl rfl rfl (by decide +kernel)) (pi_list (pv 2)) (blkOk_by (N := N__law_same) (sc := defScope s__law_same) (by decide +kernel)) (fun _ _ _ _ _ => (show PG _ _ (gTup K 2 (gCons (gName 3) (gCons (gName 6) gNil))) from (pg_tup (by rfl) (pgs_cons (pg_name (i := 3) sc__law_same.nd rfl (Or.inl rfl)) (pgs_cons (pg_name (i := 6) sc__law_same.nd rfl (Or.inl rfl)) pgs_nil))))) (fun _ _ _ _ _ => (pts_one (pt_val (pe_callB (show CallR _ (.builtin "isinstance") (rIsi K) from call_isi) (by rfl) T.n_isinstance (by decide +kernel) (pa_cons (pv 6) (pa_cons (pe_bltn (v := .ty "str") (by rfl) T.n_str (by decide +kernel) rfl) pa_nil)))))) (fun _ _ _ _ _ => (pv 3)))
    (pss_cons (ps_if (pt_cmpR (op_neD hu) (pe_lst (pa_cons (pe_prop (pv 0) G.cl G.pr.q1 G.pr.F1 (hr.mono (by decide)) G.pr.b1 .nil pass0 rfl) (pa_cons (pe_prop (pv 0) G.cl G.pr.q2 G.pr.F2 (hr.mono (by decide)) G.pr.b2 .nil pass0 rfl) (pa_cons (pe_prop (pv 0) G.cl G.pr.q3 G.pr.F3 (hr.mono (by decide)) G.pr.b3 .nil pass0 rfl) pa_nil)))) (pe_lst (pa_cons (pv 5) (pa_cons (pv 7) (pa_cons (pv 8) pa_nil)))) (nomark _)) (pss_one (ps_ret pe_bl)) pss_nil)
    (pss_cons (ps_set (i := 9) sc__law_same.nd rfl (Or.inl rfl) (pe_op op_add_str (pe_op op_add_str (pe_op op_add_str (pe_callTy call_str_int (by rfl) T.n_str (by decide +kernel) (pa_cons (pe_callB call_len_seq (by rfl) T.n_len (by decide +kernel) (pa_cons (pv 5) pa_nil)) pa_nil)) pe_str) (pe_callTy call_str_int (by rfl) T.n_str (by decide +kernel) (pa_cons (pe_callB call_len_seq (by rfl) T.n_len (by decide +kernel) (pa_cons (pv 7) pa_nil)) pa_nil))) pe_str))
    (pss_cons (ps_if (pt_cmpR op_ne (pe_callB (call_reprO G.FR (hr.mono (by decide)) G.bR G.sR G.iR) (by rfl) T.n_repr (by decide +kernel) (pa_cons (pv 0) pa_nil)) (pe_op op_add_str (pe_op op_add_str (pe_op op_add_str pe_str (pv 9)) (pe_callTy call_str_int (by rfl) T.n_str (by decide +kernel) (pa_cons (pe_callB call_len_seq (by rfl) T.n_len (by decide +kernel) (pa_cons (pv 8) pa_nil)) pa_nil))) pe_str) (nomark _)) (pss_one (ps_ret pe_bl)) pss_nil)
    (pss_cons (ps_if (pt_not (pt_cmpR (op_eqO G.FE (hr.mono (by decide)) G.bE G.sE G.iE) (pv 0) (pe_make G.mkr G.FI (hr.mono (by decide)) rfl G.gC G.bI .nil passL (pa_cons (pe_callTy (call_dictP rfl) (by rfl) T.n_dict (by decide +kernel) (pa_cons (pv 2) pa_nil)) pa_nil)) (nomark _))) (pss_one (ps_ret pe_bl)) pss_nil)
    (pss_one (ps_ret (pe_and (pe_callB (cr_all rfl) (by rfl) T.n_all (by decide +kernel) (pa_cons (pe_lock (pe_lc (own := [("_law_path_here", 3)]) rfl sc__law_same.nd (pi_keys (pv 1)) (blkOk_by (N := N__law_same) (sc := defScope s__law_same) (by decide +kernel)) (fun _ _ _ _ _ => pg_name (i := 3) sc__law_same.nd rfl (Or.inl rfl)) (fun _ _ _ _ _ => pts_nil) (fun _ _ _ _ _ => (pe_cmpR (show OpR _ (compareOp .In) (rInO false C (spIn3 K C)) from op_inO G.FN (hr.mono (by decide)) G.bN G.sN G.iN) (pv 3) (pv 0) (by rfl))))) pa_nil)) (pe_one (pe_not (pe_callB (cr_any rfl) (by rfl) T.n_any (by decide +kernel) (pa_cons (pe_lc (own := [("_law_one", 10)]) rfl sc__law_same.nd (pi_list (pe_lst (pa_cons pe_str (pa_cons pe_non (pa_cons pe_int (pa_cons pe_str (pa_cons (pe_lst (pa_cons pe_str pa_nil)) pa_nil))))))) (blkOk_by (N := N__law_same) (sc := defScope s__law_same) (by decide +kernel)) (fun _ _ _ _ _ => pg_name (i := 10) sc__law_same.nd rfl (Or.inl rfl)) (fun _ _ _ _ _ => pts_nil) (fun _ _ _ _ _ => (pe_cmpR (show OpR _ (compareOp .In) (rInO false C (spIn3 K C)) from op_inO G.FN (hr.mono (by decide)) G.bN G.sN G.iN) (pv 10) (pv 0) (by rfl)))) pa_nil)))))))))))))))), ?_⟩
  obtain ⟨p, f, es, rfl, pk, hf, ok, hl, h3, hq⟩ := h
  have hbig := sizeLine_big
  obtain ⟨dx, d0, ⟨xx_g1, g1, zz_g1⟩, g2⟩ := id pk
  refine ⟨_, rfl, f, _, rfl, Or.inl hf, fun q1 hq1 => ?_⟩
  rw [keys_kv]
  refine ⟨q1, es.map (·.1), rfl, SqL.of upd_same, fun z hz => ?_, by rw [List.length_map]; omega, fun H2 o s2 no ho => ?_⟩
  · obtain ⟨e, he, rfl⟩ := List.mem_map.mp hz
    obtain ⟨ns, e1, e2, e3⟩ := isPl_jn (ok.pl e he).1
    exact ⟨ns, e1, e2, Nat.le_trans e3.1 (by decide), e3.2⟩
  rw [ord_id ok] at ho
  have S2 := (same_new (o := .lst ((es.map (·.1)).map V.str)) hq1).trans s2
  refine ⟨o, rfl, ⟨_, SqL.of ho⟩, fun D hD => ?_⟩
  refine lc_pairs (es := es) hD (SqL.of ho) (by omega) ?_ ?_
  · rintro e H6 R1 he s6 hR
    have hvv := val_mem ok.nd (p := e.1) (v := e.2) he
    exact ⟨_, rfl, _, rfl, _, rfl, f, e.2, rfl, by have := DGet.kv (z := e.1) ((S2.trans s6) _ _ hf); rw [hvv] at this; exact this, (by show 2 ≤ sizeLine; decide), hR⟩
  rintro H3 ps s3 hd3 hps
  have S3 := S2.trans s3
  have hplain : ∀ e ∈ es, Plain e.2 := fun e he => (ok.it e he).1
  have pk3 := pk.same S3
  have rok := rok_listD ok hl
  refine ⟨_, rfl, p, dx, _, rfl, S3 _ _ g1, lk_no d0 (by decide +kernel), p, es, rfl, pk3, ok, by omega, fun H4 ps2 s4 hps2 q2 hq2 => ?_⟩
  refine repr_of (d := listD es) (.lst (SqL.of upd_same) (prs_list (hps2.mono fun a xs h => same_new hq2 _ _ h) hplain)) rok ?_
  have s34 := s4.trans (same_new (o := .lst (ps2.map V.ref)) hq2)
  generalize (upd H4 q2 (.lst (ps2.map V.ref))) = H5 at s34
  have hd5 := s34 _ _ hd3
  have hps5 : Prs H5 ps es := hps.mono fun a xs h => s34 _ _ h
  refine ⟨_, rfl, repr_of (d := listD es) (.lst (SqL.of hd5) (prs_list hps5 hplain)) rok ?_⟩
  refine ⟨rfl, _, rfl, ?_⟩
  refine ifN (fun _ => ?_) (fun h => absurd rfl h)
  have S5 := S3.trans s34
  refine ⟨_, rfl, p, dx, _, rfl, S5 _ _ g1, p, es, rfl, pk.same S5, fun H6 s6 => ⟨es.length, rfl, Nat.lt_of_le_of_lt hl (by decide), ?_⟩⟩
  have hd6 := s6 _ _ hd5
  have hps6 : Prs H6 ps es := hps5.mono fun a xs h => s6 _ _ h
  refine ⟨_, rfl, D, _, rfl, Or.inl (SqL.of hd6), ?_⟩
  rw [List.length_map, hps6.len]
  refine ⟨rfl, _, rfl, ?_⟩
  refine ifN (fun _ => ?_) (fun h => absurd rfl h)
  have S6 := S5.trans s6
  -- the paths of each kind
  refine ⟨_, rfl, D, rfl, ⟨_, SqL.of hd6⟩, fun D1 hD1 => ?_⟩
  refine lc_rows (p := fun e => decide (kindV e.2 = "file")) hD1 (SqL.of hd6) hps6 (by omega) (fun _ _ => rfl) ?_ ?_ ?_
  · rintro e H7 R1 he s7 hR
    have hpe := hplain e he
    rw [kind_int hpe] at hR
    obtain ⟨pth, v⟩ := e
    rcases hpe with h | ⟨i, h⟩ | ⟨z, h, _⟩ <;> obtain rfl : v = _ := h
    · exact ⟨_, rfl, _, .ty "int", _, _, false, rfl, .ty _, .base .non, kit_ty (by decide +kernel), _, rfl, hR H7 (Same.refl H7)⟩
    · exact ⟨_, rfl, _, .ty "int", _, _, true, rfl, .ty _, .base (.int i), kit_ty (by decide +kernel), _, rfl, hR H7 (Same.refl H7)⟩
    · exact ⟨_, rfl, _, .ty "int", _, _, false, rfl, .ty _, .base (.str z), kit_ty (by decide +kernel), _, rfl, hR H7 (Same.refl H7)⟩
  · rintro e H7 R1 he s7 hR
    exact ⟨_, rfl, hR H7 (Same.refl H7)⟩
  rintro H7 s7 hd7
  have hp7 : H7 D1 = some (.lst ((pathsOf es "file").map V.str)) := hd7
  have hdD7 := s7 _ _ hd6
  have hps7 : Prs H7 ps es := hps6.mono fun a xs h => s7 _ _ h
  refine ⟨_, rfl, D, rfl, ⟨_, SqL.of hdD7⟩, fun D2 hD2 => ?_⟩
  refine lc_rows (p := fun e => decide (kindV e.2 = "folder")) hD2 (SqL.of hdD7) hps7 (by omega) (fun _ _ => rfl) ?_ ?_ ?_
  · rintro e H8 R1 he s8 hR
    have hpe := hplain e he
    rw [kind_non hpe] at hR
    obtain ⟨pth, v⟩ := e
    rcases hpe with h | ⟨i, h⟩ | ⟨z, h, _⟩ <;> obtain rfl : v = _ := h
    · exact ⟨_, rfl, rfl, _, rfl, hR H8 (Same.refl H8)⟩
    · exact ⟨_, rfl, rfl, _, rfl, hR H8 (Same.refl H8)⟩
    · exact ⟨_, rfl, rfl, _, rfl, hR H8 (Same.refl H8)⟩
  · rintro e H8 R1 he s8 hR
    exact ⟨_, rfl, hR H8 (Same.refl H8)⟩
  rintro H8 s8 hd8
  have hp8 : H8 D2 = some (.lst ((pathsOf es "folder").map V.str)) := hd8
  have hdD8 := s8 _ _ hdD7
  have hps8 : Prs H8 ps es := hps7.mono fun a xs h => s8 _ _ h
  refine ⟨_, rfl, D, rfl, ⟨_, SqL.of hdD8⟩, fun D3 hD3 => ?_⟩
  refine lc_rows (p := fun e => decide (kindV e.2 = "reference")) hD3 (SqL.of hdD8) hps8 (by omega) (fun _ _ => rfl) ?_ ?_ ?_
  · rintro e H9 R1 he s9 hR
    have hpe := hplain e he
    rw [kind_str hpe] at hR
    obtain ⟨pth, v⟩ := e
    rcases hpe with h | ⟨i, h⟩ | ⟨z, h, _⟩ <;> obtain rfl : v = _ := h
    · exact ⟨_, rfl, _, .ty "str", _, _, false, rfl, .ty _, .base .non, kit_ty (by decide +kernel), _, rfl, hR H9 (Same.refl H9)⟩
    · exact ⟨_, rfl, _, .ty "str", _, _, false, rfl, .ty _, .base (.int i), kit_ty (by decide +kernel), _, rfl, hR H9 (Same.refl H9)⟩
    · exact ⟨_, rfl, _, .ty "str", _, _, true, rfl, .ty _, .base (.str z), kit_ty (by decide +kernel), _, rfl, hR H9 (Same.refl H9)⟩
  · rintro e H9 R1 he s9 hR
    exact ⟨_, rfl, hR H9 (Same.refl H9)⟩
  rintro H9 s9 hd9
  have hp9 : H9 D3 = some (.lst ((pathsOf es "reference").map V.str)) := hd9
  have S9 := ((S6.trans s7).trans s8).trans s9
  have e1 := s9 _ _ (s8 _ _ hp7)
  have e2 := s9 _ _ hp8
  have hdD9 := s9 _ _ hdD8
  have hps9 : Prs H9 ps es := hps8.mono fun a xs h => s9 _ _ h
  have n1 := paths_len es "file"
  have n2 := paths_len es "folder"
  have n3 := paths_len es "reference"
  -- the properties
  refine ⟨_, rfl, p, dx, _, rfl, S9 _ _ g1, p, es, rfl, pk.same S9, ok, fun HA r1 sA nA hr1 => ?_⟩
  have SA := S9.trans sA
  refine ⟨_, rfl, p, dx, _, rfl, SA _ _ g1, p, es, rfl, pk.same SA, ok, fun HB r2 sB nB hr2 => ?_⟩
  have SB := SA.trans sB
  refine ⟨_, rfl, p, dx, _, rfl, SB _ _ g1, p, es, rfl, pk.same SB, ok, fun HC r3 sC nC hr3 => ?_⟩
  have SC := SB.trans sC
  have f1' := sC _ _ (sB _ _ hr1)
  have f2' := sC _ _ hr2
  have s9C := (sA.trans sB).trans sC
  refine ⟨by show 3 ≤ sizeLine; decide, fun L1 hL1 => ?_⟩
  refine ⟨_, rfl, _, rfl, _, rfl, by show 3 ≤ sizeLine; decide, fun L2 hL2 => ?_⟩
  have sCD := (same_new (o := .lst [.ref r1, .ref r2, .ref r3]) hL1).trans (same_new (o := .lst [.ref D1, .ref D2, .ref D3]) hL2)
  have hL1' := same_new (o := .lst [.ref D1, .ref D2, .ref D3]) hL2 L1 (.lst [.ref r1, .ref r2, .ref r3]) upd_same
  have hL2' : (upd (upd HC L1 (.lst [.ref r1, .ref r2, .ref r3])) L2 (.lst [.ref D1, .ref D2, .ref D3])) L2 = some (.lst [.ref D1, .ref D2, .ref D3]) := upd_same
  generalize (upd (upd HC L1 (.lst [.ref r1, .ref r2, .ref r3])) L2 (.lst [.ref D1, .ref D2, .ref D3])) = HD at sCD hL1' hL2'
  have hshape := shaped_lsts (as := [pathsOf es "file", pathsOf es "folder", pathsOf es "reference"]) (by
    intro l hl s hs
    simp only [List.mem_cons, List.not_mem_nil, or_false] at hl
    rcases hl with rfl | rfl | rfl <;> exact paths_ok ok _ s hs)
  have s9D := s9C.trans sCD
  refine ⟨lstsD [pathsOf es "file", pathsOf es "folder", pathsOf es "reference"], lstsD [pathsOf es "file", pathsOf es "folder", pathsOf es "reference"],
    .lst (SqL.of hL1') (.cons (.lst (SqL.of (sCD _ _ f1')) (dp_strs _)) (.cons (.lst (SqL.of (sCD _ _ f2')) (dp_strs _)) (.cons (.lst (SqL.of (sCD _ _ hr3)) (dp_strs _)) .nil))),
    .lst (SqL.of hL2') (.cons (.lst (SqL.of (s9D _ _ e1)) (dp_strs _)) (.cons (.lst (SqL.of (s9D _ _ e2)) (dp_strs _)) (.cons (.lst (SqL.of (s9D _ _ hp9)) (dp_strs _)) .nil))), hshape.1, hshape.1, _, rfl, ?_⟩
  rw [hshape.2]
  refine iteF ?_
  have SD := S9.trans s9D
  have e1 := s9D _ _ e1
  have e2 := s9D _ _ e2
  have e3 := s9D _ _ hp9
  have hdDD := s9D _ _ hdD9
  have hpsD : Prs HD ps es := hps9.mono fun a xs h => s9D _ _ h
  clear hL1' hL2' sCD s9D s9C f1' f2' hr3
  -- the text
  have a1 : (" files, " : Str).length = 8 := by decide +kernel
  have a2 : (" folders, " : Str).length = 10 := by decide +kernel
  have a3 : (" references)" : Str).length = 12 := by decide +kernel
  have a4 : ("Package(" : Str).length = 8 := by decide +kernel
  have l1 := num_len (n := (pathsOf es "file").length) (by omega)
  have l2 := num_len (n := (pathsOf es "folder").length) (by omega)
  have l3 := num_len (n := (pathsOf es "reference").length) (by omega)
  have hre : V.str (reprT es) = V.str ("Package(" ++ (numT (pathsOf es "file").length ++ " files, " ++ numT (pathsOf es "folder").length ++ " folders, ") ++ numT (pathsOf es "reference").length ++ " references)") := by unfold reprT; rfl
  refine ⟨_, rfl, D1, _, rfl, Or.inl (SqL.of e1), ?_⟩
  rw [List.length_map]
  refine ⟨_, rfl, log_len (by omega), numT (pathsOf es "file").length, _, rfl, rfl, by omega, ?_⟩
  refine ⟨_, rfl, D2, _, rfl, Or.inl (SqL.of e2), ?_⟩
  rw [List.length_map]
  refine ⟨_, rfl, log_len (by omega), _, numT (pathsOf es "folder").length, rfl, rfl, by rw [len_app]; omega, _, _, rfl, rfl, by rw [len_app, len_app]; omega, ?_⟩
  refine ⟨_, rfl, p, dx, _, rfl, SD _ _ g1, p, es, rfl, pk.same SD, ok, by omega, fun HE sE => ⟨_, rfl, ?_⟩⟩
  refine ⟨_, rfl, _, _, rfl, rfl, by rw [len_app, len_app, len_app]; omega, ?_⟩
  refine ⟨_, rfl, D3, _, rfl, Or.inl (SqL.of (sE _ _ e3)), ?_⟩
  rw [List.length_map]
  refine ⟨_, rfl, log_len (by omega), _, numT (pathsOf es "reference").length, rfl, rfl, by rw [len_app, len_app, len_app, len_app]; omega, _, _, rfl, rfl, by rw [len_app, len_app, len_app, len_app, len_app]; omega, ?_⟩
  refine ⟨scal_str _ _, ?_⟩
  rw [← hre]
  generalize V.str (reprT es) = vr
  refine ⟨_, rfl, ?_⟩
  refine ifN (fun _ => ?_) (fun h => absurd rfl h)
  have SE := SD.trans sE
  -- == of packages
  have hpsE : Prs HE ps es := hpsD.mono fun a xs h => sE _ _ h
  refine ⟨_, rfl, _, rfl, D, ps, kv es, rfl, SqL.of (sE _ _ hdDD), prs_pairs hpsE, fun g hg => ?_⟩
  rw [show mergeK [] (kv es) = kv es from merge_new _ [] ok.nd]
  have sEF := same_new (o := .dK (kv es)) hg
  have hgg : (upd HE g (.dK (kv es))) g = some (.dK (kv es)) := upd_same
  generalize (upd HE g (.dK (kv es))) = HF at sEF hgg
  have SF := SE.trans sEF
  intro x4 d4 hx4 hd4 hn4
  refine makeE_ok hx4 hd4 hgg ok hl fun HG sG pkG => ⟨rfl, ?_⟩
  have SG := SF.trans sG
  obtain ⟨dxG, dG, ⟨xx_y1, y1, zz_y1⟩, y2⟩ := id pkG
  refine ⟨p, x4, dx, dxG, _, _, rfl, rfl, SG _ _ g1, y1, p, es, _, rfl, pk.same SG, ok, Or.inl ⟨x4, es, rfl, pkG, ok, ?_⟩⟩
  rw [dEq_self ok]
  refine ⟨true, rfl, _, rfl, iteF ?_⟩
  -- what is in it
  have hfG := SG _ _ hf
  have gp := SG _ _ g1
  have gd := SG _ _ g2
  have npf : p ≠ f := ne_of gp hfG (by intro z; cases z)
  refine ⟨f, _, hfG, True.intro, fun od => ?_⟩
  refine ⟨_, rfl, f, od, rfl, Or.inl ⟨kv es, upd_same, fun DA hDA => ?_⟩⟩
  have hl0 : (upd HG f (.frz od (.dK (kv es)))) f = some (.frz od (.dK (kv es))) := upd_same
  have hp0 : (upd HG f (.frz od (.dK (kv es)))) p = some (.ins C dx (pkFs d0 xx_g1)) := by rw [upd_ne npf]; exact gp
  have hr0 : Rd (upd HG f (.frz od (.dK (kv es)))) d0 (.dK (kv es)) := by
    by_cases e : d0 = f
    · subst e
      exact Or.inr ⟨od, upd_same⟩
    · exact Or.inl (by rw [upd_ne e]; exact gd)
  have hs0 : ∀ H', Same (upd HG f (.frz od (.dK (kv es)))) H' → Same HG (upd H' f (.dK (kv es))) := fun H' s' => same_unlock hfG s'
  generalize (upd HG f (.frz od (.dK (kv es)))) = L' at hl0 hp0 hr0 hs0 hDA
  have rdS : ∀ {H1 : Hp}, Same L' H1 → PkR C H1 p es := fun s => ⟨dx, d0, ⟨_, s _ _ hp0, True.intro⟩, hr0.elim (fun h => Or.inl (s _ _ h)) fun ⟨o, h⟩ => Or.inr ⟨o, s _ _ h⟩⟩
  refine lc_keys (fun _ => true) (fun _ => .bl true) hDA hl0 (by omega) (fun e H1 R _ sm hR => hR H1 (Same.refl H1)) ?_ ?_
  · rintro ⟨pth, v⟩ HH R1 hm _ sm hR
    have hin : inE es pth = true := by unfold inE; rw [val_mem ok.nd hm]; rfl
    refine ⟨_, rfl, _, rfl, p, dx, _, rfl, sm _ _ hp0, p, es, _, rfl, rdS sm, Or.inl ⟨pth, rfl, fun H4 s4 => ?_⟩⟩
    rw [hin]
    exact ⟨true, rfl, hR H4 s4⟩
  · rintro HH sm hdh
    refine ⟨sm _ _ hl0, ?_⟩
    have nDf : DA ≠ f := Ne.symm (ne_of_none hl0 hDA)
    have sh := hs0 _ sm
    have hDA2 : (upd HH f (.dK (kv es))) DA = some (.lst ((es.map fun _ => true).map V.bl)) := by
      rw [upd_ne nDf, hdh, List.filter_eq_self.mpr (fun _ _ => rfl), List.map_map]; rfl
    generalize (upd HH f (.dK (kv es))) = HI at sh hDA2
    refine ⟨DA, _, rfl, SqL.of hDA2, ?_⟩
    have hall : (es.map fun _ => true).all id = true := by rw [List.all_eq_true]; intro b hb; obtain ⟨_, _, rfl⟩ := List.mem_map.mp hb; rfl
    rw [hall]
    refine ⟨true, rfl, iteT ?_⟩
    have SI := SG.trans sh
    refine ⟨by show 1 ≤ sizeLine; decide, fun o1 ho1 => ⟨by show 5 ≤ sizeLine; decide, fun L3 hL3 => ?_⟩⟩
    have sIJ := (same_new (o := .lst [.str "a"]) ho1).trans (same_new (o := .lst [.str "", .non, .int 1, .str "zzz", .ref o1]) hL3)
    have ho1' := same_new (o := .lst [.str "", .non, .int 1, .str "zzz", .ref o1]) hL3 o1 (.lst [.str "a"]) upd_same
    have hL3' : (upd (upd HI o1 (.lst [.str "a"])) L3 (.lst [.str "", .non, .int 1, .str "zzz", .ref o1])) L3 = some (.lst [.str "", .non, .int 1, .str "zzz", .ref o1]) := upd_same
    generalize (upd (upd HI o1 (.lst [.str "a"])) L3 (.lst [.str "", .non, .int 1, .str "zzz", .ref o1])) = HJ at sIJ ho1' hL3'
    have SJ := SI.trans sIJ
    refine ⟨L3, rfl, ⟨_, SqL.of hL3'⟩, fun D5 hD5 => ?_⟩
    refine lc_filt (xs := [.str "", .non, .int 1, .str "zzz", .ref o1]) (fun _ => true) (fun _ => .bl false) hD5 (SqL.of hL3') (by show 5 < sizeLine; decide) (fun x H1 R _ sm hR => hR H1 (Same.refl H1)) ?_ ?_
    · intro x HK R1 hx _ sm hR
      have gk := (SJ.trans sm) _ _ g1
      have gk2 := (SJ.trans sm) _ _ g2
      refine ⟨_, rfl, _, rfl, p, dx, _, rfl, gk, p, es, _, rfl, ⟨dx, d0, ⟨_, gk, True.intro⟩, Or.inl gk2⟩, ?_⟩
      have no1 : inE es "" = false := by
        have hv : valV (kv es) (.inr "") = none := val_no fun h => by
          obtain ⟨e, he, h2⟩ := List.mem_map.mp h
          exact (isPl_pt (ok.pl e he).1).2 h2
        unfold inE
        rw [hv]; rfl
      have no2 : inE es "zzz" = false := by
        unfold inE
        rw [val_no h3]; rfl
      simp only [List.mem_cons, List.not_mem_nil, or_false] at hx
      rcases hx with rfl | rfl | rfl | rfl | rfl
      · refine Or.inl ⟨_, rfl, fun H4 s4 => ?_⟩
        rw [no1]
        exact ⟨false, rfl, hR H4 s4⟩
      · exact Or.inr ⟨⟨_, .base .non, kit_no (t := "NoneType") (by simp [notStr])⟩, fun H4 s4 => ⟨false, rfl, hR H4 s4⟩⟩
      · exact Or.inr ⟨⟨_, .base (.int 1), kit_no (by simp [notStr])⟩, fun H4 s4 => ⟨false, rfl, hR H4 s4⟩⟩
      · refine Or.inl ⟨_, rfl, fun H4 s4 => ?_⟩
        rw [no2]
        exact ⟨false, rfl, hR H4 s4⟩
      · exact Or.inr ⟨⟨_, .base (.lst (sm _ _ ho1')), kit_no (by simp [notStr])⟩, fun H4 s4 => ⟨false, rfl, hR H4 s4⟩⟩
    · intro HK sm hdk
      have hdk2 : HK D5 = some (.lst ([false, false, false, false, false].map V.bl)) := hdk
      exact ⟨D5, _, rfl, SqL.of hdk2, _, rfl, hq _ (SJ.trans sm)⟩
end
end K5

set_option Elab.async false
set_option linter.all false
set_option maxRecDepth 100000
set_option maxHeartbeats 4000000
namespace LF
open PySem PySem.Spec PyProof.Rows L2
/-- [..], and the new list is not sys.modules -/
def tLstS (t : TA) : TE := fun σ H Q => t σ H fun xs H1 => xs.length ≤ sizeLine ∧ ∀ p, H1 p = none → (p == sysModules) = false → Q (.ref p) (upd H1 p (.lst xs))
theorem pe_lstS {X : Cx} {es : List Expr} {t : TA} {pos : Pos} (h : PA X es t) : PE X (.List es pos) (tLstS t) := by
  refine ⟨fun pins s σ H Q I hq => ?_⟩
  refine wpAny_List_spliced (thn (h.run pos pins s σ H _ I hq) fun us s1 ⟨xs, H1, I1, r, z, q⟩ => ⟨by rw [← r.length]; exact z, ?_⟩)
  have hf : H1 s1.heap.objs.size = none := I1.hok.fresh (Nat.le_refl _)
  have hsz : cStatics < s1.heap.objs.size := let ⟨_, hn, _⟩ := I1.nolimit; hn.lt
  have hne : (s1.heap.objs.size == sysModules) = false := by
    rw [beq_eq_false_iff_ne]
    intro e
    rw [e] at hsz
    exact absurd hsz (by decide)
  refine ⟨.ref s1.heap.objs.size, upd H1 s1.heap.objs.size (.lst xs), I1.laid (t' := s1.toks) (fun b u e => Heap.get?_push_of_some _ e) (Nat.le_refl _) ?_, rfl, q _ hf hne⟩
  exact ⟨z, us, 0, r, Heap.get?_push_size _ rfl⟩
end LF

set_option Elab.async false
set_option linter.all false
set_option maxRecDepth 100000
set_option maxHeartbeats 4000000
namespace K5
open PySem PySem.Spec PyProof.Rows L2 LF TL
theorem ifS_join {T : TT} {A B : TS} {D : Ends} {σ : L2.St} {H : Hp} (Iv : L2.St → Hp → Prop) (hA : ∀ D' : Ends, (∀ σ' H', Iv σ' H' → D'.nx σ' H') → T σ H fun b H1 => if b = true then A D' σ H1 else B D' σ H1) (hf : ∀ σ' H', Iv σ' H' → D.nx σ' H') : tIfS T A B D σ H := hA D hf
def spLPathL : Sp := fun vs H Q _ => ∃ (b l : Addr) (L : List Str) (most : Int), vs = [.ref b, .ref l, .int most] ∧ BagAt H b ∧ l ≠ b ∧ H l = some (.lst (L.map V.str)) ∧ 1 ≤ L.length ∧ L.length ≤ 1000 ∧
  (∀ s ∈ L, isNm s = true) ∧ 0 ≤ most ∧ most ≤ 1000 ∧
  ∀ (H' : Hp) (ns : List Str), Keep b H H' → BagAt H' b → (∀ n ∈ ns, n ∈ L) → (ns.length : Int) ≤ most → Q (.str (PySem.Txt.join c_sl ns)) H'
/-- no name of it has three letters -/
def N3 (z : Str) : Prop := ∀ n ∈ parts z, n.length ≠ 3
theorem n3_jn {ns : List Str} (hn : ∀ s ∈ ns, isNm s = true) (h3 : ∀ s ∈ ns, s.length ≠ 3) : N3 (jn ns) := fun n h => by
  rw [parts_join hn] at h
  exact h3 n h
def rj (n : Nat) (z : Str) : Str := jn (List.replicate n z)
theorem rj_asc {n : Nat} {z : Str} (h : Asc z) : Asc (rj n z) := asc_join fun y hy => by rw [(List.mem_replicate.mp hy).2]; exact h
theorem rj_len {n : Nat} {z : Str} (h : z.length ≤ 8) : (rj n z).length ≤ 9 * n := by
  have := join_le (m := 8) (ns := List.replicate n z) fun y hy => by rw [(List.mem_replicate.mp hy).2]; exact h
  rw [List.length_replicate] at this
  exact this
theorem rep_flat (n : Nat) (z : Str) : (List.replicate n [V.str z]).flatten = (List.replicate n z).map V.str := by
  induction n with
  | zero => rfl
  | succ n ih => rw [List.replicate_succ, List.replicate_succ, List.flatten_cons, ih]; rfl
theorem rep_sum {n : Nat} {z : Str} (hn : n ≤ 100) (hz : z.length ≤ 1000) : ((List.replicate n z).map (·.length)).sum + (List.replicate n z).length * c_sl.length ≤ 16777216 := by
  have h1 : c_sl.length = 1 := rfl
  rw [List.length_replicate, h1, List.map_replicate, List.sum_replicate_nat]
  have : n * z.length ≤ 100 * 1000 := Nat.mul_le_mul hn hz
  omega
theorem asc_lit {z : Str} (h : (z.cps.toList.all fun c => decide (c < 128)) = true) : Asc z := fun c hc => of_decide_eq_true (List.all_eq_true.mp h c hc)
/-- a thing for a path, as it is drawn -/
def PD (b : Addr) (H : Hp) (x : V) : Prop := (∃ z : Str, x = .str z ∧ Asc z ∧ z.length ≤ 1000 ∧ (isPt z = true → N3 z)) ∨ x = .non ∨ (∃ i : Int, x = .int i ∧ (i = 7 ∨ i = 40)) ∨ ∃ a, x = .ref a ∧ a ≠ b ∧ H a = some (.lst [.str "a"])
theorem PD.keep {b : Addr} {H H' : Hp} {x : V} (h : PD b H x) (k : Keep b H H') : PD b H' x := by
  rcases h with h | h | h | ⟨a, h1, h2, h3⟩
  · exact Or.inl h
  · exact Or.inr (Or.inl h)
  · exact Or.inr (Or.inr (Or.inl h))
  · exact Or.inr (Or.inr (Or.inr ⟨a, h1, h2, k _ _ h2 h3⟩))
theorem PD.px {b : Addr} {H : Hp} {x : V} (h : PD b H x) : PX H x ∧ ∀ z, x = .str z → isPt z = true → N3 z := by
  rcases h with ⟨z, rfl, h1, h2, h3⟩ | rfl | ⟨i, rfl, h⟩ | ⟨a, rfl, h1, h2⟩
  · exact ⟨Or.inl ⟨z, rfl, h1, h2⟩, fun y e => by cases e; exact h3⟩
  · exact ⟨Or.inr (Or.inl rfl), fun z e => (nomatch e)⟩
  · exact ⟨Or.inr (Or.inr (Or.inl ⟨i, rfl, h⟩)), fun z e => (nomatch e)⟩
  · exact ⟨Or.inr (Or.inr (Or.inr ⟨a, rfl, h2⟩)), fun z e => (nomatch e)⟩
theorem join_bits {ns : List Str} {l : Str} (hn : ∀ s ∈ ns, isNm s = true) (hl : isNm l = true) : jn (([jn ns, l] : List Str).filter fun s : Str => !decide (s = "")) = jn (ns ++ [l]) := by
  have hl0 : l ≠ "" := fun e => by rw [e] at hl; exact absurd hl (by decide +kernel)
  cases ns with
  | nil =>
    have e : (([jn [], l] : List Str).filter fun s : Str => !decide (s = "")) = [l] := by
      rw [List.filter_cons_of_neg (by decide +kernel), List.filter_cons_of_pos (by simpa using hl0), List.filter_nil]
    rw [e]; rfl
  | cons a r =>
    have e : (([jn (a :: r), l] : List Str).filter fun s : Str => !decide (s = "")) = [jn (a :: r), l] := by
      rw [List.filter_cons_of_pos (by simpa using join_ne (by simp) hn), List.filter_cons_of_pos (by simpa using hl0), List.filter_nil]
    rw [e, join_pair l (by simp)]
def spDeed (K : PySem.W.Frag) : Sp := fun vs H Q _ => ∃ (b f l : Addr) (es : List (Str × V)) (L : List Str), vs = [.ref b, .ref f, .ref l] ∧ BagAt H b ∧ f ≠ b ∧ H f = some (.dK (kv es)) ∧ OkE es ∧ es.length ≤ 40 ∧ (∀ e ∈ es, N3 e.1) ∧
  l ≠ b ∧ H l = some (.lst (L.map V.str)) ∧ 1 ≤ L.length ∧ L.length ≤ 1000 ∧ (∀ s ∈ L, isNm s = true) ∧ (∀ s ∈ L, s.length ≠ 3) ∧
  ∀ (H' : Hp) q x oy, Keep b H H' → BagAt H' b → DeedAt K H' q x oy → PX H' x → (∀ z, x = .str z → isPt z = true → N3 z) → (∀ y, oy = some y → PlainX H' y ∧ ItA y) → Q (.ref q) H'
abbrev s__law_deed : Stmt := topS 59
abbrev N__law_deed : List Str := ["_law_bag_here", "_law_full_here", "_law_letters", "_law_known", "_law_path_here", "_law_items"]
theorem sc__law_deed : FnScope ["_law_bag_here", "_law_full_here", "_law_letters", "_law_known", "_law_path_here", "_law_items"] ["_law_bag_here", "_law_full_here", "_law_letters"] (defScope s__law_deed) := ⟨rfl, rfl, rfl, by decide +kernel, rfl, by decide +kernel, by decide +kernel⟩
section
variable {P : Program} {w : World} {K : PySem.W.Frag} {mg : Str → Option Value} {base : Heap} {tk1 tk2 : Tok}
theorem ok_lpathL {f f1 f2 : Addr} {fd fd1 fd2 : FuncData} (F : Fun K "_law_path" "_law_path" s_lpath f fd) (T : Txt K mg tk1 tk2) (d_take : DefAt P w K mg base "_law_take" 1 f1 fd1 ["_law_bag_here", "_law_many"] spTake)
    (d_pick : DefAt P w K mg base "_law_pick" 2 f2 fd2 ["_law_bag_here", "_law_some"] (spPick K)) : FnOk P w K mg base CX0 3 f fd ["_law_bag_here", "_law_letters", "_law_most"] spLPathL := by
  refine F.ok sc__law_path (fun vs H Q E h => ?_) (fun cdv A outer s H vs Q E hr h => ?_)
  · obtain ⟨b, l, L, m, rfl, _⟩ := h
    rfl
  refine ⟨_, (pss_one (ps_ret (pe_join pe_str (pe_lc (own := [("_law_k", 3)]) rfl sc__law_path.nd (pi_range1 (by rfl) T.n_range (pa_cons (pe_callD d_take (hr.mono (by decide)) (pa_cons (pv 0) (pa_cons (pe_op op_add (pv 2) pe_int) pa_nil))) pa_nil)) (blkOk_by (N := N__law_path) (sc := defScope s_lpath) (by decide +kernel)) (fun _ _ _ _ _ => pg_name (i := 3) sc__law_path.nd rfl (Or.inl rfl)) (fun _ _ _ _ _ => pts_nil) (fun _ _ _ _ _ => (pe_callD d_pick (hr.mono (by decide)) (pa_cons (pv 0) (pa_cons (pv 1) pa_nil)))))))), ?_⟩
  obtain ⟨b, l, L, m, rfl, hb, nlb, hl, hL1, hL2, hL, hm0, hm1, hq⟩ := h
  refine ⟨⟨_, rfl⟩, _, rfl, _, rfl, _, _, rfl, rfl, ?_⟩
  refine ⟨b, m + 1, rfl, hb, by omega, by omega, fun H1 r k1 b1 r0 r1 => ?_⟩
  refine ⟨r, rfl, by omega, by omega, fun D hD => ?_⟩
  refine lc_draw (lo := 0) (Good := fun y => ∃ s, y = .str s ∧ s ∈ L) b1 hD ?_ ?_ ?_
  · exact Nat.lt_of_lt_of_le (show r.toNat < 2000 by omega) (by decide)
  · intro i H2 R hi k2 b2 hR
    refine ⟨_, rfl, _, rfl, ?_⟩
    refine ⟨b, _, rfl, b2, Or.inl ⟨l, L.map V.str, rfl, nlb, SqL.of (k2 _ _ nlb (k1 _ _ nlb hl)), by rw [List.length_map]; exact hL1, by rw [List.length_map]; omega, fun H' v k b3 hv => ?_⟩⟩
    obtain ⟨s, hs, rfl⟩ := List.mem_map.mp hv
    exact hR _ H' k b3 ⟨s, rfl, hs⟩
  · intro H2 acc k2 b2 hD2 hlen hg
    obtain ⟨ss, rfl, hs⟩ := all_str hg
    rw [List.length_map] at hlen
    have h1 := sum_le (ss := ss) (n := 8) fun s hm => (isNm_len (hL s (hs s hm))).2
    have h2 : c_sl.length = 1 := by decide +kernel
    refine ⟨_, D, ss, rfl, rfl, Or.inl (SqL.of hD2), ?_, hq H2 ss (k1.trans k2) b2 hs (by omega)⟩
    show (ss.map (·.length)).sum + ss.length * c_sl.length ≤ 16777216
    rw [h2]; omega
theorem ok_deed {f f1 f2 f3 f4 : Addr} {fd fd1 fd2 fd3 fd4 : FuncData} (F : Fun K "_law_deed" "_law_deed" s__law_deed f fd) (T : Txt K mg tk1 tk2) (d_take : DefAt P w K mg base "_law_take" 1 f1 fd1 ["_law_bag_here", "_law_many"] spTake)
    (d_pick : DefAt P w K mg base "_law_pick" 2 f2 fd2 ["_law_bag_here", "_law_some"] (spPick K)) (d_path : DefAt P w K mg base "_law_path" 3 f3 fd3 ["_law_bag_here", "_law_letters", "_law_most"] spLPathL) (d_joined : DefAt P w K mg base "_law_joined" 1 f4 fd4 ["_law_bits"] (spJoined K)) :
    FnOk P w K mg base CX0 4 f fd ["_law_bag_here", "_law_full_here", "_law_letters"] (spDeed K) := by
  refine F.ok sc__law_deed (fun vs H Q E h => ?_) (fun cdv A outer s H vs Q E hr h => ?_)
  · obtain ⟨b, f, l, es, L, rfl, _⟩ := h
    rfl
  refine ⟨_, (pss_cons (ps_set (i := 3) sc__law_deed.nd rfl (Or.inl rfl) (pe_op op_cat (pe_callTy (call_listD rfl) (by rfl) T.n_list (by decide +kernel) (pa_cons (pv 1) pa_nil)) (pe_lst (pa_cons (pe_callD d_joined (hr.mono (by decide)) (pa_cons (pe_lst (pa_cons (pe_callD d_path (hr.mono (by decide)) (pa_cons (pv 0) (pa_cons (pv 2) (pa_cons pe_int pa_nil)))) (pa_cons (pe_callD d_pick (hr.mono (by decide)) (pa_cons (pv 0) (pa_cons (pv 2) pa_nil))) pa_nil))) pa_nil)) pa_nil))))
    (pss_cons (ps_set (i := 4) sc__law_deed.nd rfl (Or.inl rfl) (pe_callD d_pick (hr.mono (by decide)) (pa_cons (pv 0) (pa_cons (pv 3) pa_nil))))
    (pss_cons (ps_if (pt_cmpR op_eq (pe_callD d_take (hr.mono (by decide)) (pa_cons (pv 0) (pa_cons pe_int pa_nil))) pe_int (nomark _)) (pss_one (ps_set (i := 4) sc__law_deed.nd rfl (Or.inl rfl) (pe_callD d_pick (hr.mono (by decide)) (pa_cons (pv 0) (pa_cons (pe_lst (pa_cons pe_str (pa_cons pe_non (pa_cons pe_str (pa_cons pe_str (pa_cons pe_int (pa_cons (pe_lst (pa_cons pe_str pa_nil)) (pa_cons (pe_join pe_str (pe_op op_rep (pe_lst (pa_cons (pe_ix ix_list (pv 2) pe_int (fun _ _ => rfl)) pa_nil)) pe_int)) pa_nil)))))))) pa_nil))))) pss_nil)
    (pss_cons (ps_if (pt_cmpR op_eq (pe_callD d_take (hr.mono (by decide)) (pa_cons (pv 0) (pa_cons pe_int pa_nil))) pe_int (nomark _)) (pss_one (ps_ret (pe_tup (pa_cons pe_str (pa_cons (pv 4) pa_nil))))) pss_nil)
    (pss_cons (ps_set (i := 5) sc__law_deed.nd rfl (Or.inl rfl) (pe_lst (pa_cons pe_non (pa_cons pe_non (pa_cons pe_int (pa_cons (pe_op op_sub pe_int pe_int) (pa_cons (pe_op op_sub (pe_op op_pow pe_int pe_int) pe_int) (pa_cons pe_str (pa_cons (pe_callD d_path (hr.mono (by decide)) (pa_cons (pv 0) (pa_cons (pv 2) (pa_cons pe_int pa_nil)))) (pa_cons pe_bl (pa_cons (pe_op op_pow pe_int pe_int) (pa_cons pe_str (pa_cons (pe_lst pa_nil) (pa_cons (pe_tup (pa_cons pe_int pa_nil)) pa_nil))))))))))))))
    (pss_one (ps_ret (pe_tup (pa_cons pe_str (pa_cons (pv 4) (pa_cons (pe_callD d_pick (hr.mono (by decide)) (pa_cons (pv 0) (pa_cons (pv 5) pa_nil))) pa_nil))))))))))), ?_⟩
  obtain ⟨b, f, l, es, L, rfl, hb, nfb, hf, ok, hl40, hN, nlb, hl, hL1, hL2, hL, hL3, hq⟩ := h
  have hbig := sizeLine_big
  refine ⟨_, rfl, f, _, rfl, Or.inl hf, fun q1 hq1 => ?_⟩
  rw [keys_kv]
  have s1 := same_new (o := .lst ((es.map (·.1)).map V.str)) hq1
  have h1 : (upd H q1 (.lst ((es.map (·.1)).map V.str))) q1 = some (.lst ((es.map (·.1)).map V.str)) := upd_same
  have n1 : q1 ≠ b := hb.ne hq1
  generalize (upd H q1 (.lst ((es.map (·.1)).map V.str))) = H1 at s1 h1
  refine ⟨_, rfl, _, rfl, b, l, L, 4, rfl, hb.same s1, nlb, s1 _ _ hl, hL1, hL2, hL, by decide, by decide, fun H2 ns k2 b2 hns hnl => ?_⟩
  have K2 : Keep b H H2 := (Same.keep s1).trans k2
  refine ⟨_, rfl, _, rfl, b, _, rfl, b2, Or.inl ⟨l, L.map V.str, rfl, nlb, SqL.of (K2 _ _ nlb hl), by rw [List.length_map]; exact hL1, by rw [List.length_map]; omega, fun H3 v k3 b3 hv => ?_⟩⟩
  obtain ⟨nm, hnm, rfl⟩ := List.mem_map.mp hv
  have K3 := K2.trans k3
  have hnsN : ∀ s ∈ ns, isNm s = true := fun s hs => hL s (hns s hs)
  refine ⟨by show 2 ≤ sizeLine; decide, fun q2 hq2 => ?_⟩
  have hjl := join_len_le hnsN
  have hnl8 := (isNm_len (hL nm hnm)).2
  refine ⟨q2, [jn ns, nm], rfl, SqL.of upd_same, (by show 2 ≤ 1000; decide), fun s hs => ?_, fun H4 s4 => ?_⟩
  · simp only [List.mem_cons, List.not_mem_nil, or_false] at hs
    rcases hs with rfl | rfl
    · show (PySem.Txt.join c_sl ns).length ≤ 1000
      omega
    · omega
  rw [join_bits hnsN (hL nm hnm)]
  have s34 := (same_new (o := .lst [.str (jn ns), .str nm]) hq2).trans s4
  have K4 := K3.trans (Same.keep s34)
  have b4 := b3.same s34
  have hzN : ∀ s ∈ ns ++ [nm], isNm s = true := fun s hs => (List.mem_append.mp hs).elim (hnsN s) fun q => by rw [List.mem_singleton.mp q]; exact hL nm hnm
  have hz3 : ∀ s ∈ ns ++ [nm], s.length ≠ 3 := fun s hs => (List.mem_append.mp hs).elim (fun q => hL3 s (hns s q)) fun q => by rw [List.mem_singleton.mp q]; exact hL3 nm hnm
  have hzl : (jn (ns ++ [nm])).length ≤ 1000 := by
    have := join_len_le hzN
    rw [List.length_append, List.length_singleton] at this
    show (PySem.Txt.join c_sl (ns ++ [nm])).length ≤ 1000
    omega
  have hzA : Asc (jn (ns ++ [nm])) := asc_join fun n hn => asc_nm (hzN n hn)
  have hzM : N3 (jn (ns ++ [nm])) := n3_jn hzN hz3
  generalize jn (ns ++ [nm]) = z4 at hzl hzA hzM
  refine ⟨by show 1 ≤ sizeLine; decide, fun q3 hq3 => ?_⟩
  have h14 : H4 q1 = some (.lst ((es.map (·.1)).map V.str)) := s34 _ _ (k3 _ _ n1 (k2 _ _ n1 h1))
  refine ⟨q1, q3, _, _, rfl, rfl, same_new hq3 _ _ h14, upd_same, by rw [List.length_map, List.length_map]; show es.length + 1 ≤ sizeLine; omega, fun q4 hq4 => ?_⟩
  have s45 := (same_new (o := .lst [.str z4]) hq3).trans (same_new (o := .lst ((es.map (·.1)).map V.str ++ [.str z4])) hq4)
  have h5 : (upd (upd H4 q3 (.lst [.str z4])) q4 (.lst ((es.map (·.1)).map V.str ++ [.str z4]))) q4 = some (.lst ((es.map (·.1)).map V.str ++ [.str z4])) := upd_same
  have n5 : q4 ≠ b := (b4.same (same_new (o := .lst [.str z4]) hq3)).ne hq4
  generalize (upd (upd H4 q3 (.lst [.str z4])) q4 (.lst ((es.map (·.1)).map V.str ++ [.str z4]))) = H5 at s45 h5
  have b5 := b4.same s45
  have K5' := K4.trans (Same.keep s45)
  refine ⟨_, rfl, _, rfl, b, _, rfl, b5, Or.inl ⟨q4, _, rfl, n5, SqL.of h5, by rw [List.length_append]; exact Nat.le_add_left _ _, by rw [List.length_append, List.length_map, List.length_map]; show es.length + 1 < _; omega, fun H6 x k6 b6 hx => ?_⟩⟩
  have K6 := K5'.trans k6
  have hxD : PD b H6 x := by
    rcases List.mem_append.mp hx with h | h
    · obtain ⟨z, hz, rfl⟩ := List.mem_map.mp h
      obtain ⟨e, he, rfl⟩ := List.mem_map.mp hz
      obtain ⟨ms, e1, e2, e3⟩ := isPl_jn (ok.pl e he).1
      have := (pl_short (ok.pl e he).1).2
      exact Or.inl ⟨_, rfl, by rw [e1]; exact asc_join fun n hn => asc_nm (e3.2 n hn), by omega, fun _ => hN e he⟩
    · rw [List.mem_singleton.mp h]
      exact Or.inl ⟨_, rfl, hzA, hzl, fun _ => hzM⟩
  dsimp only [gName]
  refine ifS_join (fun σ' H' => ∃ x, σ' = [some (.ref b), some (.ref f), some (.ref l), some (.ref q4), some x, none] ∧ Keep b H H' ∧ BagAt H' b ∧ PD b H' x) (fun D' hf' => ?_) ?_
  · refine ⟨_, rfl, b, 8, rfl, b6, by decide, by decide, fun H7 r k7 b7 r0 r1 => ?_⟩
    have K7 := K6.trans k7
    refine ⟨rfl, _, rfl, ?_⟩
    refine ifD (fun _ => ?_) (fun _ => hf' _ _ ⟨x, rfl, K7, b7, hxD.keep k7⟩)
    obtain ⟨l0, Lr, rfl⟩ : ∃ l0 Lr, L = l0 :: Lr := by
      cases L with
      | nil => exact absurd hL1 (by decide)
      | cons a r => exact ⟨a, r, rfl⟩
    have hl0 := hL l0 List.mem_cons_self
    have hl08 := (isNm_len hl0).2
    refine ⟨_, rfl, by show 1 ≤ sizeLine; decide, fun a1 ha1 => ?_⟩
    have na1 : a1 ≠ b := b7.ne ha1
    have s8 := same_new (o := .lst [.str "a"]) ha1
    have e8 : (upd H7 a1 (.lst [.str "a"])) a1 = some (.lst [.str "a"]) := upd_same
    generalize (upd H7 a1 (.lst [.str "a"])) = H8 at s8 e8
    have b8 := b7.same s8
    have K8 := K7.trans (Same.keep s8)
    refine ⟨⟨_, rfl⟩, _, rfl, l, _, 0, .str l0, rfl, rfl, SqL.of (K8 _ _ nlb hl), at0 _ _, by show 1 ≤ sizeLine; decide, fun q9 hq9 => ?_⟩
    refine ⟨q9, _, _, rfl, rfl, upd_same, by decide, by decide, by show 1 * _ ≤ sizeLine; decide, fun p9 hp9 => ?_⟩
    rw [rep_flat]
    refine ⟨_, p9, List.replicate 11 l0, rfl, rfl, Or.inl (SqL.of upd_same), rep_sum (by decide) (by omega), ?_⟩
    show tNil _ _ _
    have s9 := (same_new (o := .lst [.str l0]) hq9).trans (same_new (o := .lst ((List.replicate (Int.toNat 11) l0).map V.str)) hp9)
    generalize (upd (upd H8 q9 (.lst [.str l0])) p9 (.lst ((List.replicate (Int.toNat 11) l0).map V.str))) = H9 at s9
    have e9 := s9 _ _ e8
    have b9 := b8.same s9
    have K9 := K8.trans (Same.keep s9)
    generalize hj : Txt.join "/" (List.replicate 11 l0) = jz
    have hj : rj 11 l0 = jz := hj
    have hja : Asc jz := hj ▸ rj_asc (asc_nm hl0)
    have hjl : jz.length ≤ 99 := by
      have := rj_len (n := 11) hl08
      rw [hj] at this
      exact this
    have hj3 : N3 jz := by
      rw [← hj]
      exact n3_jn (fun s hs => by rw [(List.mem_replicate.mp hs).2]; exact hl0) fun s hs => by rw [(List.mem_replicate.mp hs).2]; exact hL3 l0 List.mem_cons_self
    refine ⟨by show 7 ≤ sizeLine; decide, fun p2 hp2 => ?_⟩
    have np2 : p2 ≠ b := b9.ne hp2
    have sA := same_new (o := .lst [V.str "", .non, .str "A", .str "a//b", .int 7, .ref a1, .str jz]) hp2
    have eA := sA _ _ e9
    have hpA : (upd H9 p2 (.lst [V.str "", .non, .str "A", .str "a//b", .int 7, .ref a1, .str jz])) p2 = some (.lst [V.str "", .non, .str "A", .str "a//b", .int 7, .ref a1, .str jz]) := upd_same
    generalize (upd H9 p2 (.lst [V.str "", .non, .str "A", .str "a//b", .int 7, .ref a1, .str jz])) = HA at sA eA hpA
    have bA := b9.same sA
    have KA := K9.trans (Same.keep sA)
    refine ⟨b, _, rfl, bA, Or.inl ⟨p2, _, rfl, np2, SqL.of hpA, by show 1 ≤ 7; decide, by show 7 < 1000000; decide, fun HB v kB bB hv => ?_⟩⟩
    refine hf' _ _ ⟨v, rfl, KA.trans kB, bB, ?_⟩
    have no : isPt "A" = false := by decide +kernel
    have no2 : isPt "a//b" = false := by decide +kernel
    have p0 : parts "" = [] := by decide +kernel
    simp only [List.mem_cons, List.not_mem_nil, or_false] at hv
    rcases hv with rfl | rfl | rfl | rfl | rfl | rfl | rfl
    · exact Or.inl ⟨_, rfl, asc_lit (by decide +kernel), by decide +kernel, fun _ n hn => by rw [p0] at hn; cases hn⟩
    · exact Or.inr (Or.inl rfl)
    · exact Or.inl ⟨_, rfl, asc_lit (by decide +kernel), by decide +kernel, fun h => by rw [no] at h; cases h⟩
    · exact Or.inl ⟨_, rfl, asc_lit (by decide +kernel), by decide +kernel, fun h => by rw [no2] at h; cases h⟩
    · exact Or.inr (Or.inr (Or.inl ⟨7, rfl, Or.inl rfl⟩))
    · exact Or.inr (Or.inr (Or.inr ⟨a1, rfl, na1, kB _ _ na1 eA⟩))
    · exact Or.inl ⟨_, rfl, hja, by omega, fun _ => hj3⟩
  · rintro σ' H7 ⟨x, rfl, K7, b7, hx7⟩
    refine ⟨_, rfl, b, 3, rfl, b7, by decide, by decide, fun H8 r k8 b8 r0 r1 => ?_⟩
    have K8 := K7.trans k8
    have hx8 := hx7.keep k8
    refine ⟨rfl, _, rfl, ?_⟩
    refine ifD (fun _ => ?_) (fun _ => ?_)
    · refine ⟨_, rfl, by show 2 ≤ sizeLine; decide, fun q hq9 => ?_⟩
      have s9 := same_new (o := .tup [.str "without", x]) hq9
      have hx9 := (hx8.keep (Same.keep s9)).px
      exact hq _ q x none (K8.trans (Same.keep s9)) (b8.same s9) (SqT.of upd_same) hx9.1 hx9.2 fun y e => by cases e
    have e12 : (10 : Int) ^ (12 : Int).toNat = 1000000000000 := by decide
    refine ⟨_, _, rfl, rfl, _, _, rfl, rfl, ⟨by decide, by decide, by decide⟩, _, _, rfl, rfl, ?_⟩
    set_option simprocs false in dsimp only
    rw [e12]
    refine ⟨_, rfl, _, rfl, b, l, L, 3, rfl, b8, nlb, K8 _ _ nlb hl, hL1, hL2, hL, by decide, by decide, fun H9 ms k9 b9 hms hml => ?_⟩
    have K9 := K8.trans k9
    have hx9 := hx8.keep k9
    have hmN : ∀ s ∈ ms, isNm s = true := fun s hs => hL s (hms s hs)
    have hjl := join_len_le hmN
    have hjA : Asc (jn ms) := asc_join fun n hn => asc_nm (hmN n hn)
    have hjl : (jn ms).length ≤ 1000 := by
      show (PySem.Txt.join c_sl ms).length ≤ 1000
      omega
    generalize hzj : PySem.Txt.join c_sl ms = zj
    have hzj : jn ms = zj := hzj
    rw [hzj] at hjA hjl
    refine ⟨_, _, rfl, rfl, ⟨by decide, by decide, by decide⟩, ?_⟩
    set_option simprocs false in dsimp only
    rw [e12]
    refine ⟨Nat.zero_le _, fun a1 ha1 => ⟨by show 1 ≤ sizeLine; decide, fun a2 ha2 => ⟨by show 12 ≤ sizeLine; decide, fun p hp => ?_⟩⟩⟩
    have n1' : a1 ≠ b := b9.ne ha1
    have sa1 := same_new (o := .lst []) ha1
    have n2' : a2 ≠ b := (b9.same sa1).ne ha2
    have sa2 := same_new (o := .tup [.int 1]) ha2
    have np' : p ≠ b := ((b9.same sa1).same sa2).ne hp
    have sap := same_new (o := .lst [.non, .non, .int 0, .int (5 - 9), .int (1000000000000 - 1), .str "", .str zj, .bl true, .int 1000000000000, .str "A", .ref a1, .ref a2]) hp
    have g1 := sap _ _ (sa2 a1 (.lst []) upd_same)
    have g2 := sap a2 (.tup [.int 1]) upd_same
    have gp : (upd (upd (upd H9 a1 (.lst [])) a2 (.tup [.int 1])) p (.lst [.non, .non, .int 0, .int (5 - 9), .int (1000000000000 - 1), .str "", .str zj, .bl true, .int 1000000000000, .str "A", .ref a1, .ref a2])) p = some (.lst [.non, .non, .int 0, .int (5 - 9), .int (1000000000000 - 1), .str "", .str zj, .bl true, .int 1000000000000, .str "A", .ref a1, .ref a2]) := upd_same
    have sA := (sa1.trans sa2).trans sap
    generalize (upd (upd (upd H9 a1 (.lst [])) a2 (.tup [.int 1])) p (.lst [.non, .non, .int 0, .int (5 - 9), .int (1000000000000 - 1), .str "", .str zj, .bl true, .int 1000000000000, .str "A", .ref a1, .ref a2])) = HA at sA g1 g2 gp
    have bA := b9.same sA
    have KA := K9.trans (Same.keep sA)
    refine ⟨_, rfl, _, rfl, _, rfl, b, _, rfl, bA, Or.inl ⟨p, _, rfl, np', SqL.of gp, by show 1 ≤ 12; decide, by show 12 < 1000000; decide, fun HB v kB bB hv => ?_⟩⟩
    refine ⟨by show 3 ≤ sizeLine; decide, fun q hq9 => ?_⟩
    have sC := same_new (o := .tup [.str "changed", x, v]) hq9
    have hxC := (((hx9.keep (Same.keep sA)).keep kB).keep (Same.keep sC)).px
    have gB1 := sC _ _ (kB _ _ n1' g1)
    have gB2 := sC _ _ (kB _ _ n2' g2)
    refine hq _ q x (some v) ((KA.trans kB).trans (Same.keep sC)) (bB.same sC) (SqT.of upd_same) hxC.1 hxC.2 fun y e => ?_
    obtain rfl : v = y := Option.some.inj e
    simp only [List.mem_cons, List.not_mem_nil, or_false] at hv
    rcases hv with rfl | rfl | rfl | rfl | rfl | rfl | rfl | rfl | rfl | rfl | rfl | rfl
    · exact ⟨Or.inl (Or.inl rfl), fun z e => (nomatch e)⟩
    · exact ⟨Or.inl (Or.inl rfl), fun z e => (nomatch e)⟩
    · exact ⟨Or.inl (Or.inr (Or.inl ⟨_, rfl⟩)), fun z e => (nomatch e)⟩
    · exact ⟨Or.inl (Or.inr (Or.inl ⟨_, rfl⟩)), fun z e => (nomatch e)⟩
    · exact ⟨Or.inl (Or.inr (Or.inl ⟨_, rfl⟩)), fun z e => (nomatch e)⟩
    · exact ⟨Or.inl (Or.inr (Or.inr ⟨_, rfl, by decide +kernel⟩)), fun z e => by cases e; exact ⟨asc_lit (by decide +kernel), by decide +kernel⟩⟩
    · exact ⟨Or.inl (Or.inr (Or.inr ⟨_, rfl, by omega⟩)), fun z e => by cases e; exact ⟨hjA, hjl⟩⟩
    · exact ⟨Or.inr (Or.inl ⟨_, rfl⟩), fun z e => (nomatch e)⟩
    · exact ⟨Or.inl (Or.inr (Or.inl ⟨_, rfl⟩)), fun z e => (nomatch e)⟩
    · exact ⟨Or.inl (Or.inr (Or.inr ⟨_, rfl, by decide +kernel⟩)), fun z e => by cases e; exact ⟨asc_lit (by decide +kernel), by decide +kernel⟩⟩
    · exact ⟨Or.inr (Or.inr (Or.inl ⟨_, _, rfl, gB1⟩)), fun z e => (nomatch e)⟩
    · exact ⟨Or.inr (Or.inr (Or.inr (Or.inl ⟨_, _, rfl, gB2⟩))), fun z e => (nomatch e)⟩
end
end K5

set_option Elab.async false
set_option linter.all false
set_option maxRecDepth 100000
set_option maxHeartbeats 4000000
namespace LF
open PySem PySem.Spec PyProof.Rows L2
def spLaw (K : PySem.W.Frag) : Sp := fun vs H Q _ => ∃ (a : Addr) (ns : List Int), vs = [.ref a] ∧ SqL K H a (ns.map V.int) ∧ ns.length ≤ 63 ∧ ∀ H', Q (.bl true) H'
theorem seq_keep_new {K : PySem.W.Frag} {H H' : Hp} {a b : Addr} {xs : List V} (h : SqL K H a xs) (hb : H b = none) (k : Keep b H H') : SqL K H' a xs := by
  rcases h with (h | ⟨o, h⟩) | h
  · exact Or.inl (Or.inl (k _ _ (ne_of_none h hb) h))
  · exact Or.inl (Or.inr ⟨o, k _ _ (ne_of_none h hb) h⟩)
  · exact Or.inr h
end LF
namespace K5
open PySem PySem.Spec PyProof.Rows L2 LF TL
open PySem.W (EachIs)
theorem bag_ne {H : Hp} {b a : Addr} {o : HO} (h : BagAt H b) (ha : H a = some o) (hn : ∀ xs, o ≠ .lst xs := by intro _ h; cases h) : a ≠ b := fun e => by
  obtain ⟨d, x, m, e1, _⟩ := h
  rw [← e, ha] at e1
  exact hn _ (Option.some.inj e1)
theorem PkRest.bag {H H' : Hp} {x : PkX} {es : List (Str × V)} {b : Addr} (h : PkRest H x es) (hb : BagAt H b) (k : Keep b H H') : PkRest H' x es := by
  obtain ⟨h1, rs, r1, r2⟩ := h
  obtain ⟨u, v, z, e, _⟩ := hb
  have nd : ∀ {a l}, H a = some (.dK l) → a ≠ b := fun e1 q => by subst q; rw [e] at e1; cases e1
  have nl : ∀ {a} {l : List Str}, H a = some (.lst (l.map V.str)) → a ≠ b := fun {a l} e1 q => by
    subst q
    rw [e] at e1
    have e2 := Option.some.inj e1
    injection e2 with e3
    cases l with
    | nil => cases e3
    | cons y l => injection e3 with e4; cases e4
  exact ⟨k _ _ (nd h1) h1, rs, ⟨k _ _ (nd r1.d) r1.d, fun y hy => k _ _ (nl (r1.l y hy)) (r1.l y hy)⟩, r2⟩
theorem PkAt.keep {C p b : Addr} {H H' : Hp} {es : List (Str × V)} (h : PkAt C H p es) (hb : BagAt H b) (k : Keep b H H') : PkAt C H' p es := by
  obtain ⟨dx, d, ⟨xx_h1, h1, zz_h1⟩, h2⟩ := h
  exact ⟨dx, d, ⟨xx_h1, k _ _ (bag_ne hb h1) h1, zz_h1.bag hb k⟩, k _ _ (bag_ne hb h2) h2⟩
theorem n3_begs {y s : Str} (hy : isPl y = true) (h : N3 y) (hs : s ∈ begs y) : N3 s := by
  obtain ⟨a, b, c, rfl, rfl, e3, e4, e5, e6⟩ := begs_pl hy hs
  have hb : ∀ n ∈ b, isNm n = true := fun n hn => e6 n (by rw [e3]; exact List.mem_append_left _ hn)
  refine n3_jn hb fun n hn => ?_
  refine h n ?_
  rw [parts_join e6, e3]
  exact List.mem_append_left _ hn
theorem n3_pkE {es : List (Str × V)} (ok : OkU es) (h : ∀ e ∈ es, N3 e.1) : ∀ e ∈ pkE es, N3 e.1 := fun e he => by
  have hf := (mem_pkE ok).mp he
  rcases (full_grown ok).1.new e hf with h1 | ⟨_, _, q, hq, h2⟩
  · exact h e h1
  · exact n3_begs (ok.pl q hq).1 (h q hq) h2
theorem out_new {H : Hp} {es es2 : List (Str × V)} {x : V} {oy : Option V} (h : outE es x oy = .new es2) (ok : OkE es) (hl : es.length ≤ 40) (hN : ∀ e ∈ es, N3 e.1) (hx : PX H x) (hxn : ∀ z, x = .str z → isPt z = true → N3 z) (hy : ∀ y, oy = some y → PlainX H y ∧ ItA y) :
    OkE es2 ∧ es2.length ≤ 40 ∧ ∀ e ∈ es2, N3 e.1 := by
  cases hb : isPtV x with
  | false => rw [out_bad hb] at h; cases h
  | true =>
    obtain ⟨z, rfl, hz⟩ := pt_str hb
    cases oy with
    | none =>
      have h : (if isPt z = true then (if z ∈ es.map (·.1) then Out.new (dropE es z) else .bad "NoEntry" (.str z)) else .bad "BadPath" (.str z)) = .new es2 := h
      rw [if_pos hz] at h
      by_cases hin : z ∈ es.map (·.1)
      · rw [if_pos hin] at h
        cases h
        obtain ⟨ez, hez, hez2⟩ := List.mem_map.mp hin
        have hzp : isPl z = true := by rw [← hez2]; exact (ok.pl ez hez).1
        refine ⟨okE_drop ok hzp, Nat.le_trans (List.length_filter_le _ _) hl, fun e he => hN e ((mem_dropE ok hzp).mp he).1⟩
      · rw [if_neg hin] at h; cases h
    | some y =>
      obtain ⟨hyP, _⟩ := hy y rfl
      have h : (if isPt z = true then (match firstBad (putE es z y) with
        | some q => Out.bad "BadEntry" (.str q)
        | none => if (pkE (putE es z y)).length ≤ 40 then .new (pkE (putE es z y)) else .bad "TooMany" (.int 40)) else .bad "BadPath" (.str z)) = .new es2 := h
      rw [if_pos hz] at h
      cases hf : firstBad (putE es z y) with
      | some q => rw [hf] at h; cases h
      | none =>
        rw [hf] at h
        have h : (if (pkE (putE es z y)).length ≤ 40 then Out.new (pkE (putE es z y)) else .bad "TooMany" (.int 40)) = .new es2 := h
        by_cases hl2 : (pkE (putE es z y)).length ≤ 40
        · rw [if_pos hl2] at h
          cases h
          have hzl : z.length ≤ 1000 := by
            rcases hx with ⟨z', e, h1, h2⟩ | h | ⟨i, h, _⟩ | ⟨a, h, _⟩ <;> first | (cases e; exact h2) | cases h
          have okU := okU_of (ent_putE (v := y) ok (by omega) hzl hyP) hf
          refine ⟨pkE_ok okU (by rw [← pkE_len]; omega), hl2, n3_pkE okU fun e he => ?_⟩
          rcases mem_putE he with h1 | rfl
          · exact hN e h1
          · exact hxn z rfl hz
        · rw [if_neg hl2] at h; cases h
theorem out_px {H : Hp} {es : List (Str × V)} {x v : V} {oy : Option V} {k : Str} (h : outE es x oy = .bad k v) (ok : OkE es) (hx : PX H x) : PX H v ∧ k ∈ (["BadPath", "NoEntry", "BadEntry", "TooMany"] : List Str) := by
  cases hb : isPtV x with
  | false => rw [out_bad hb] at h; cases h; exact ⟨hx, by simp⟩
  | true =>
    obtain ⟨z, rfl, hz⟩ := pt_str hb
    cases oy with
    | none =>
      have h : (if isPt z = true then (if z ∈ es.map (·.1) then Out.new (dropE es z) else .bad "NoEntry" (.str z)) else .bad "BadPath" (.str z)) = .bad k v := h
      rw [if_pos hz] at h
      by_cases hin : z ∈ es.map (·.1)
      · rw [if_pos hin] at h; cases h
      · rw [if_neg hin] at h; cases h; exact ⟨hx, by simp⟩
    | some y =>
      have h : (if isPt z = true then (match firstBad (putE es z y) with
        | some q => Out.bad "BadEntry" (.str q)
        | none => if (pkE (putE es z y)).length ≤ 40 then .new (pkE (putE es z y)) else .bad "TooMany" (.int 40)) else .bad "BadPath" (.str z)) = .bad k v := h
      rw [if_pos hz] at h
      cases hf : firstBad (putE es z y) with
      | some q =>
        rw [hf] at h
        cases h
        refine ⟨Or.inl ⟨q, rfl, ?_⟩, by simp⟩
        have hq := bad_key hf
        obtain ⟨e, he, rfl⟩ := List.mem_map.mp hq
        rcases mem_putE he with h1 | rfl
        · obtain ⟨ms, e1, e2, e3⟩ := isPl_jn (ok.pl e h1).1
          have := (pl_short (ok.pl e h1).1).2
          exact ⟨by rw [e1]; exact asc_join fun n hn => asc_nm (e3.2 n hn), by omega⟩
        · rcases hx with ⟨z', e, h1, h2⟩ | h | ⟨i, h, _⟩ | ⟨a, h, _⟩ <;> first | (cases e; exact ⟨h1, h2⟩) | cases h
      | none =>
        rw [hf] at h
        have h : (if (pkE (putE es z y)).length ≤ 40 then Out.new (pkE (putE es z y)) else .bad "TooMany" (.int 40)) = .bad k v := h
        by_cases hl2 : (pkE (putE es z y)).length ≤ 40
        · rw [if_pos hl2] at h; cases h
        · rw [if_neg hl2] at h; cases h; exact ⟨Or.inr (Or.inr (Or.inl ⟨40, rfl, Or.inr rfl⟩)), by simp⟩
/-- an error's text can be told -/
theorem bad_rep {K : PySem.W.Frag} {H : Hp} {k : Str} {v : V} (h : PX H v) (hk : k ∈ (["BadPath", "NoEntry", "BadEntry", "TooMany"] : List Str)) : ∃ d, (∀ H' q, Same H H' → SqT K H' q [.str k, v] → Dp K H' (.ref q) d) ∧ Rok d := by
  have hks : PyData.strOk k = true ∧ k.length ≤ 1000 := by
    simp only [List.mem_cons, List.not_mem_nil, or_false] at hk
    rcases hk with rfl | rfl | rfl | rfl <;> exact ⟨by decide +kernel, by decide +kernel⟩
  rcases h with ⟨z, rfl, h1, h2⟩ | rfl | ⟨i, rfl, h1⟩ | ⟨a, rfl, h1⟩
  · exact ⟨.tuple [.str k, .str z], fun H' q s hq => .tup hq (.cons (.str _) (.cons (.str _) .nil)), two_ok hks.1 (asc_ok h1) hks.2 h2⟩
  · refine ⟨.tuple [.str k, .none], fun H' q s hq => .tup hq (.cons (.str _) (.cons .non .nil)), ?_⟩
    simp only [List.mem_cons, List.not_mem_nil, or_false] at hk
    rcases hk with rfl | rfl | rfl | rfl <;> (refine Rok.of ?_ ?_ ?_ ?_ ?_ <;> decide +kernel)
  · refine ⟨.tuple [.str k, .int i], fun H' q s hq => .tup hq (.cons (.str _) (.cons (.int _) .nil)), ?_⟩
    simp only [List.mem_cons, List.not_mem_nil, or_false] at hk
    rcases hk with rfl | rfl | rfl | rfl <;> rcases h1 with rfl | rfl <;> (refine Rok.of ?_ ?_ ?_ ?_ ?_ <;> decide +kernel)
  · refine ⟨.tuple [.str k, .list [.str "a"]], fun H' q s hq => .tup hq (.cons (.str _) (.cons (.lst (SqL.of (s _ _ h1)) (.cons (.str _) .nil)) .nil)), ?_⟩
    simp only [List.mem_cons, List.not_mem_nil, or_false] at hk
    rcases hk with rfl | rfl | rfl | rfl <;> (refine Rok.of ?_ ?_ ?_ ?_ ?_ <;> decide +kernel)
abbrev s_law : Stmt := topS 60
abbrev N_law : List Str := ["_law_script", "_law_at", "_law_bag_here", "_law_letters", "_law_entries_here", "_law_package", "_law_full_here", "_law_turn", "_law_deed_here", "_law_due_here", "_law_told_here"]
theorem sc_law : FnScope ["_law_script", "_law_at", "_law_bag_here", "_law_letters", "_law_entries_here", "_law_package", "_law_full_here", "_law_turn", "_law_deed_here", "_law_due_here", "_law_told_here"] ["_law_script"] (defScope s_law) := ⟨rfl, rfl, rfl, by decide +kernel, rfl, by decide +kernel, by decide +kernel⟩
end K5

set_option Elab.async false
set_option linter.all false
set_option maxRecDepth 100000
set_option maxHeartbeats 4000000
namespace K5
open PySem PySem.Spec PyProof.Rows L2 LF TL ClX
open PySem.W (EachIs)
theorem made_same {H H' : Hp} {x dx : Addr} {o1 o2 : HO} (hx : H x = none) (hd : H dx = none) (k : Keep x (upd (upd H dx o1) x o2) H') : Same H H' := fun a o e => by
  have n1 := ne_of_none e hx
  have n2 := ne_of_none e hd
  refine k a o n1 ?_
  rw [upd_ne n1, upd_ne n2]; exact e
theorem make0_ok {K : PySem.W.Frag} {CK CE CM : Addr} {H : Hp} {x dx : Addr} {R : VK} {E : XK} (hx : H x = none) (hd : H dx = none) (hq : ∀ H', Same H H' → PkAt CK H' x [] → R .non H') :
    spInX K CK CE CM (.ref x :: ([] ++ [.non])) (upd (upd H dx (.own x)) x (.ins CK dx [])) R E := by
  have e : pkE [] = [] := pkE_id okE_nil
  refine ⟨x, dx, .non, rfl, upd_same, Or.inl ⟨[], Or.inl ⟨rfl, rfl⟩, ⟨fun _ h => (nomatch h), fun _ h => (nomatch h), .nil, Nat.zero_le _⟩, fun z hz => ?_, fun _ _ H' k pk => hq H' (made_same hx hd k) (by rw [e] at pk; exact pk), fun _ h => absurd h (by rw [e]; decide)⟩⟩
  rw [bad_nil] at hz; cases hz
theorem okE_one (i : Int) (h : contentV (.int i) = true) : OkE [("a", .int i)] := by
  have hb : begs "a" = [] := by decide +kernel
  refine ⟨fun e he => ?_, fun e he => ?_, fun e he s hs => ?_, ?_, ?_, by show 1 ≤ 1000000; decide⟩
  · rw [List.mem_singleton.mp he]; exact ⟨(by decide +kernel : isPl "a" = true), by show ("a" : Str).length ≤ 1000000; decide +kernel⟩
  · rw [List.mem_singleton.mp he]
    refine ⟨Or.inr (Or.inl ⟨i, rfl⟩), ?_⟩
    show (contentV (.int i) || false) = true
    rw [h]; rfl
  · rw [List.mem_singleton.mp he] at hs
    have hs : s ∈ begs "a" := hs
    rw [hb] at hs; cases hs
  · exact List.pairwise_singleton _ _
  · show (["a"] : List Str).Nodup
    simp
section
variable {P : Program} {w : World} {K : PySem.W.Frag} {mg : Str → Option Value} {base : Heap} {tk1 tk2 : Tok}
theorem ok_law {f f1 f2 f3 f4 f5 f6 f7 f8 C CE CM p1 p2 p3 g1 g2 g3 fG fL fE fR fN fI : Addr} {fd fda fdb fdc fdd fde fdf fdg fdh fd1 fd2 fd3 fdG fdL fdE fdR fdN fdI : FuncData} {ds : List Value} {tkL : Tok} (F : Fun K "law" "law" s_law f fd) (T : Txt K mg tk1 tk2)
    (d_bag : DefAt P w K mg base "_law_bag" 1 f1 fda ["_law_script", "_law_at"] (spBag K)) (d_words : DefAt P w K mg base "_law_words" 3 f2 fdb ["_law_bag_here", "_law_many"] spWords)
    (d_entries : DefAt P w K mg base "_law_entries" 4 f3 fdc ["_law_bag_here", "_law_letters", "_law_many"] spEntries) (d_full : DefAt P w K mg base "_law_full" 2 f4 fdd ["_law_entries_here"] spFull)
    (d_deed : DefAt P w K mg base "_law_deed" 4 f5 fde ["_law_bag_here", "_law_full_here", "_law_letters"] (spDeed K)) (d_due : DefAt P w K mg base "_law_due" 3 f6 fdf ["_law_full_here", "_law_deed_here"] (spDue K))
    (d_told : DefAt P w K mg base "_law_told" 12 f7 fdg ["_law_package", "_law_deed_here"] (spTold K C))
    (FS : FnG P w K mg base CX0 10 f8 fdh ["_law_package", "_law_full_here"] (spSame C)) (mS : mg "_law_same" = some (.ref f8)) (kS : PySem.W.keepIn K (.ref f8) = true) (bS : Binds K fdh ["_law_package", "_law_full_here"] [])
    (G : PkAll P w K mg base C CE CM p1 p2 p3 g1 g2 g3 fG fL fE fR fN fI fd1 fd2 fd3 fdG fdL fdE fdR fdN fdI) (b0 : Binds K fdI ["self", "entries"] ds) (dv0 : Vals [.non] ds)
    (rdC : CRead K C (.type "type")) (vL : CVal K C (.type "type") "LIMIT" (.int 40) (.int 40 tkL)) (nL : PySem.W.subIn K (.type "list") (.ref C) = some false) :
    FnG P w K mg base CX0 14 f fd ["_law_script"] (spLaw K) := by
  refine fnG_of F sc_law (fun vs H Q E h => ?_) (fun cdv A outer s H vs Q E gd hr h => ?_)
  · obtain ⟨a, ns, rfl, _⟩ := h
    rfl
  have hu := hr.units
  have hu1 := hu_of hr
  refine ⟨_, (pss_cons (ps_for (passes_of rfl) rfl (pi_range1 (by rfl) T.n_range (pa_cons (pe_callB (call_max2 rfl) (by rfl) T.n_max (by decide +kernel) (pa_cons pe_int (pa_cons (pe_callB (call_min2 rfl) (by rfl) T.n_min (by decide +kernel) (pa_cons pe_int (pa_cons (pe_callB call_len_seq (by rfl) T.n_len (by decide +kernel) (pa_cons (pv 0) pa_nil)) pa_nil))) pa_nil))) pa_nil)) (pg_name (i := 1) sc_law.nd rfl (Or.inl rfl)) (pss_cons (ps_set (i := 2) sc_law.nd rfl (Or.inl rfl) (pe_callD d_bag (hr.mono (by decide)) (pa_cons (pv 0) (pa_cons (pv 1) pa_nil))))
    (pss_cons (ps_set (i := 3) sc_law.nd rfl (Or.inl rfl) (pe_callD d_words (hr.mono (by decide)) (pa_cons (pv 2) (pa_cons pe_int pa_nil))))
    (pss_cons (ps_set (i := 4) sc_law.nd rfl (Or.inl rfl) (pe_callD d_entries (hr.mono (by decide)) (pa_cons (pv 2) (pa_cons (pv 3) (pa_cons pe_int pa_nil)))))
    (pss_cons (ps_par (i := 5) (j := 6) (by rfl) sc_law.nd rfl rfl (by decide) rfl rfl (pa_cons (pe_make G.mkr G.FI (hr.mono (by decide)) rfl G.gC G.bI .nil passL (pa_cons (pv 4) pa_nil)) (pa_cons (pe_callTy (call_dictP rfl) (by rfl) T.n_dict (by decide +kernel) (pa_cons (pe_callD d_full (hr.mono (by decide)) (pa_cons (pv 4) pa_nil)) pa_nil)) pa_nil)) (by rfl))
    (pss_one (ps_for (passes_of rfl) rfl (pi_range1 (by rfl) T.n_range (pa_cons pe_int pa_nil)) (pg_name (i := 7) sc_law.nd rfl (Or.inl rfl)) (pss_cons (ps_set (i := 8) sc_law.nd rfl (Or.inl rfl) (pe_callD d_deed (hr.mono (by decide)) (pa_cons (pv 2) (pa_cons (pv 6) (pa_cons (pv 3) pa_nil)))))
    (pss_cons (ps_par (i := 9) (j := 10) (by rfl) sc_law.nd rfl rfl (by decide) rfl rfl (pa_cons (pe_callD d_due (hr.mono (by decide)) (pa_cons (pv 6) (pa_cons (pv 8) pa_nil))) (pa_cons (pe_callD d_told (hr.mono (by decide)) (pa_cons (pv 5) (pa_cons (pv 8) pa_nil))) pa_nil)) (by rfl))
    (pss_cons (ps_if (pt_not (pt_val (pe_callG FS gd (hr.mono (by decide)) rfl mS kS bS pass0 (pa_cons (pv 5) (pa_cons (pv 6) pa_nil))))) (pss_one (ps_ret pe_bl)) pss_nil)
    (pss_one (ps_if (pt_val (pe_callB call_isi (by rfl) T.n_isinstance (by decide +kernel) (pa_cons (pv 9) (pa_cons (pe_bltn (v := .ty "tuple") (by rfl) T.n_tuple (by decide +kernel) rfl) pa_nil)))) (pss_one (ps_if (pt_cmpR op_ne (pe_callB (call_reprX gd hu) (by rfl) T.n_repr (by decide +kernel) (pa_cons (pv 10) pa_nil)) (pe_callB (call_reprX gd hu) (by rfl) T.n_repr (by decide +kernel) (pa_cons (pv 9) pa_nil)) (nomark _)) (pss_one (ps_ret pe_bl)) pss_nil)) (pss_one (ps_if (PW.pt (pw_or (pt_not (pt_val (pe_callG FS gd (hr.mono (by decide)) rfl mS kS bS pass0 (pa_cons (pv 10) (pa_cons (pv 9) pa_nil))))) (pw_or1 (pt_cmpR op_ne (pe_cmpR (op_eqO G.FE (hr.mono (by decide)) G.bE G.sE G.iE) (pv 10) (pv 5) (nomark _)) (pe_cmpR (op_eqG (Nat.lt_of_succ_lt hu1)) (pv 9) (pv 6) (nomark _)) (nomark _))))) (pss_one (ps_ret pe_bl)) (pss_one (ps_par (i := 5) (j := 6) (by rfl) sc_law.nd rfl rfl (by decide) rfl rfl (pa_cons (pv 10) (pa_cons (pv 9) pa_nil)) (by rfl)))))))))))))))))
    (pss_one (ps_ret (pe_and (pe_cmpR op_eq (pe_cval (pe_glob (v := .ref C) rfl G.gC rfl)) pe_int (nomark _)) (pe_and (pe_not (pe_cmpR (op_eqL G.FE (hr.mono (by decide)) G.bE G.sE G.iE nL) (pe_make0 G.mkr G.FI (hr.mono (by decide)) rfl G.gC b0 dv0 passL) (pe_lst pa_nil) (nomark _))) (pe_one (pe_not (pe_cmpR (op_eqO G.FE (hr.mono (by decide)) G.bE G.sE G.iE) (pe_make G.mkr G.FI (hr.mono (by decide)) rfl G.gC G.bI .nil passL (pa_cons (pe_disp (pps_cons pe_str pe_int pps_nil) rfl rfl (by simp) (by decide)) pa_nil)) (pe_make G.mkr G.FI (hr.mono (by decide)) rfl G.gC G.bI .nil passL (pa_cons (pe_disp (pps_cons pe_str pe_int pps_nil) rfl rfl (by simp) (by decide)) pa_nil)) (nomark _))))))))), ?_⟩
  obtain ⟨a, ns, rfl, hS, hlen, hq⟩ := h
  refine ⟨_, rfl, a, _, rfl, Or.inl hS, _, _, rfl, _, _, rfl, ?_⟩
  rw [List.length_map]
  have hm : ∃ m : Int, (if (if (ns.length : Int) < 5 then (ns.length : Int) else 5) > 2 then (if (ns.length : Int) < 5 then (ns.length : Int) else 5) else 2) = m ∧ 0 ≤ m ∧ m ≤ 5 := by
    refine ⟨_, rfl, ?_⟩
    split <;> split <;> omega
  obtain ⟨m, em, m0, m5⟩ := hm
  refine ⟨m, by rw [← em], by omega, by omega, for_range (lo := 0) (fun i σ H' => ∃ v1 v2 v3 v4 v5 v6 v7 v8 v9 v10, σ = [some (.ref a), v1, v2, v3, v4, v5, v6, v7, v8, v9, v10] ∧ SqL K H' a (ns.map V.int)) ⟨_, _, _, _, _, _, _, _, _, _, rfl, hS⟩ ?_ ?_⟩
  · rintro i σ H1 hi ⟨v1, v2, v3, v4, v5, v6, v7, v8, v9, v10, rfl, hS1⟩
    refine ⟨_, rfl, _, rfl, a, _, ns, rfl, hS1, by omega, fun H2 b s2 hbn hb => ?_⟩
    refine ⟨_, rfl, b, 4, rfl, hb, by decide, by decide, fun H3 l ws k3 b3 hln hl hwl hws hw3 => ?_⟩
    have nlb : l ≠ b := hb.ne hln
    refine ⟨_, rfl, _, rfl, b, l, ws, 12, rfl, b3, nlb, hl, by omega, by omega, hws, by decide, fun H4 e es0 k4 b4 hen he tr => ?_⟩
    have neb : e ≠ b := b3.ne hen
    have okU := tr.okU
    have hpl := tr.len
    have hpkl := pkE_len es0
    have hfull : fullU es0 = es0 := full_id fun q hq s hs => List.mem_map.mpr ⟨_, tr.up q hq s hs, rfl⟩
    rw [hfull] at hpkl
    have ok0 := pkE_ok okU (by rw [hfull]; omega)
    have hn0 : ∀ q ∈ pkE es0, N3 q.1 := n3_pkE okU fun q hq => by
      obtain ⟨ms, h1, h2⟩ := tr.nm q hq
      rw [h1.1]
      exact n3_jn h1.2.2.2 fun s hs => hw3 s (h2 s hs)
    refine ⟨_, rfl, ?_⟩
    intro x dx hx hd hn
    refine makeU_ok hx hd he okU (by omega) (by omega) fun H5 s5 pk5 => ⟨rfl, ?_⟩
    refine ⟨_, rfl, e, es0, rfl, s5 _ _ he, okU, by omega, fun H6 q acc s6 nq hq6 ea => ?_⟩
    obtain ⟨ps, rfl, hps⟩ := pair_list (K := K) ea
    refine ⟨q, ps, kv (pkE es0), rfl, SqL.of hq6, hps, fun f0 hf0 => ?_⟩
    rw [show mergeK [] (kv (pkE es0)) = kv (pkE es0) from merge_new _ [] ok0.nd]
    have s67 := same_new (o := .dK (kv (pkE es0))) hf0
    have hf7 : (upd H6 f0 (.dK (kv (pkE es0)))) f0 = some (.dK (kv (pkE es0))) := upd_same
    generalize (upd H6 f0 (.dK (kv (pkE es0)))) = H7 at s67 hf7
    have S7 := (s5.trans s6).trans s67
    have pk7 := pk5.same (s6.trans s67)
    have b7 := b4.same S7
    have K7 : Keep b H3 H7 := k4.trans (Same.keep S7)
    refine ⟨_, _, rfl, 6, rfl, by decide, by decide, for_range (lo := 0) (fun j σ H' => ∃ p f es v7 v8 v9 v10, σ = [some (.ref a), some (.int (0 + (i : Int))), some (.ref b), some (.ref l), some (.ref e), some (.ref p), some (.ref f), v7, v8, v9, v10] ∧ Keep b H3 H' ∧ BagAt H' b ∧ PkAt C H' p es ∧ H' f = some (.dK (kv es)) ∧ OkE es ∧ es.length ≤ 40 ∧ ∀ q ∈ es, N3 q.1) ⟨x, f0, pkE es0, _, _, _, _, rfl, K7, b7, pk7, hf7, ok0, by omega, hn0⟩ ?_ ?_⟩
    · rintro j σ H8 hj ⟨p, f, es, w7, w8, w9, w10, rfl, k8, b8, pk8, hf8, ok, hl40, hN⟩
      have l8 := k8 _ _ nlb hl
      have nfb : f ≠ b := bag_ne b8 hf8
      refine ⟨_, rfl, _, rfl, _, rfl, b, f, l, es, ws, rfl, b8, nfb, hf8, ok, hl40, hN, nlb, l8, by omega, by omega, hws, hw3, fun H9 dd xx oy k9 b9 hdd hpx hpn hyy => ?_⟩
      have pk9 := pk8.keep b8 k9
      have hf9 := k9 _ _ nfb hf8
      have K9 := k8.trans k9
      have hzz : ("zzz" : Str) ∉ es.map (·.1) := fun h => by
        obtain ⟨q, hq, h2⟩ := List.mem_map.mp h
        have h3 := hN q hq
        rw [h2] at h3
        exact h3 "zzz" (by decide +kernel) (by decide +kernel)
      have dsame : ∀ {H'}, Same H9 H' → DeedAt K H' dd xx oy := fun s => by
        cases oy with
        | none => exact sqT_same s hdd
        | some y => exact sqT_same s hdd
      have ysame : ∀ {H'}, Same H9 H' → ∀ y, oy = some y → PlainX H' y ∧ ItA y := fun s y e => ⟨(hyy y e).1.same s, (hyy y e).2⟩
      refine ⟨_, rfl, _, rfl, f, dd, es, xx, oy, rfl, hf9, ok, hl40, hdd, hpx, hyy, fun k v hbad H10 u s10 hu10 => ?_, fun es2 hnew H10 u s10 hu10 => ?_⟩
      · refine ⟨_, rfl, _, rfl, p, dd, es, xx, oy, rfl, pk9.same s10, ok, hl40, dsame s10, hpx.same s10, ysame s10, fun k' v' hb' H11 u2 s11 hu11 => ?_, fun es2 hn2 => by rw [hbad] at hn2; cases hn2⟩
        rw [hbad] at hb'
        cases hb'
        have S11 := s10.trans s11
        have hu10' := s11 _ _ hu10
        have hout := out_px hbad ok hpx
        obtain ⟨d, hdp, hrok⟩ := bad_rep (K := K) hout.1 hout.2
        refine ⟨_, _, rfl, _, rfl, _, rfl, p, f, es, rfl, pk9.same S11, S11 _ _ hf9, ok, hl40, hzz, fun H12 s12 => ⟨_, rfl, iteF ?_⟩⟩
        have S12 := S11.trans s12
        refine ⟨_, rfl, _, .ty "tuple", _, _, true, rfl, .ty _, .base (.tup (s12 _ _ hu10')), kit_ty (by decide +kernel), _, rfl, iteT ?_⟩
        refine ⟨_, rfl, repr_of (hdp _ _ S12 (SqT.of (s12 _ _ hu11))) hrok ?_⟩
        refine ⟨_, rfl, repr_of (hdp _ _ S12 (SqT.of (s12 _ _ hu10'))) hrok ?_⟩
        refine ⟨rfl, _, rfl, ?_⟩
        refine ifN (fun _ => ?_) (fun h => absurd rfl h)
        exact ⟨p, f, es, _, _, _, _, rfl, K9.trans (Same.keep S12), b9.same S12, pk9.same S12, S12 _ _ hf9, ok, hl40, hN⟩
      · obtain ⟨ok2, hl2, hN2⟩ := out_new hnew ok hl40 hN hpx hpn hyy
        have hzz2 : ("zzz" : Str) ∉ es2.map (·.1) := fun h => by
          obtain ⟨q, hq, h2⟩ := List.mem_map.mp h
          have h3 := hN2 q hq
          rw [h2] at h3
          exact h3 "zzz" (by decide +kernel) (by decide +kernel)
        refine ⟨_, rfl, _, rfl, p, dd, es, xx, oy, rfl, pk9.same s10, ok, hl40, dsame s10, hpx.same s10, ysame s10, fun k' v' hb' => by (rw [hnew] at hb'; cases hb'), fun es3 hn3 H11 u2 s11 pk11 => ?_⟩
        rw [hnew] at hn3
        cases hn3
        have S11 := s10.trans s11
        have hu11 := s11 _ _ hu10
        refine ⟨_, _, rfl, _, rfl, _, rfl, p, f, es, rfl, pk9.same S11, S11 _ _ hf9, ok, hl40, hzz, fun H12 s12 => ⟨_, rfl, iteF ?_⟩⟩
        have S12 := S11.trans s12
        have hu12 := s12 _ _ hu11
        refine ⟨_, rfl, _, .ty "tuple", _, _, false, rfl, .ty _, .base (.dK hu12), kit_ty (by decide +kernel), _, rfl, iteF ?_⟩
        have pk12 := pk11.same s12
        refine ⟨_, rfl, _, rfl, u2, u, es2, rfl, pk12, hu12, ok2, hl2, hzz2, fun H13 s13 => ⟨_, rfl, iteF ?_⟩⟩
        have S13 := S12.trans s13
        have pk13 := pk12.same s13
        have pkp := pk9.same S13
        have hu13 := s13 _ _ hu12
        have hf13 := S13 _ _ hf9
        obtain ⟨dxa, da, ⟨xx_y1, y1, zz_y1⟩, y2⟩ := id pk13
        obtain ⟨dxb, db, ⟨xx_y3, y3, zz_y3⟩, y4⟩ := id pkp
        refine ⟨_, rfl, _, rfl, u2, p, dxa, dxb, _, _, rfl, rfl, y1, y3, u2, es2, _, rfl, pk13, ok2, Or.inl ⟨p, es, rfl, pkp, ok, ⟨_, rfl, ?_⟩⟩⟩
        refine ⟨_, rfl, _, rfl, u, f, kv es2, kv es, rfl, rfl, hu13, hf13, flat_kv ok2, flat_kv ok, ?_⟩
        refine ⟨rfl, _, rfl, ?_⟩
        refine ifN (fun _ => ?_) (fun h => absurd rfl h)
        refine ⟨_, rfl, _, rfl, _, _, rfl, ?_⟩
        exact ⟨u2, u, es2, _, _, _, _, rfl, K9.trans (Same.keep S13), b9.same S13, pk13, hu13, ok2, hl2, hN2⟩
    · rintro σ H8 ⟨p, f, es, w7, w8, w9, w10, rfl, k8, _⟩
      exact ⟨_, _, _, _, _, _, _, _, _, _, rfl, seq_keep_new hS1 hbn (((Same.keep s2).trans k3).trans k8)⟩
  · rintro σ H1 ⟨v1, v2, v3, v4, v5, v6, v7, v8, v9, v10, rfl, _⟩
    refine ⟨C, _, _, _, rfl, rdC, vL, rfl, _, rfl, iteT ?_⟩
    intro x dx hx hd hn
    refine make0_ok hx hd fun H2 s2 pk2 => ⟨rfl, ?_⟩
    obtain ⟨dxa, da, ⟨xx_y1, y1, zz_y1⟩, y2⟩ := id pk2
    refine ⟨Nat.zero_le _, fun l0 hl0 => ?_⟩
    have sl := same_new (o := .lst []) hl0
    refine ⟨x, l0, dxa, _, _, rfl, rfl, sl _ _ y1, upd_same, x, [], _, rfl, pk2.same sl, okE_nil, Or.inr ⟨l0, [], rfl, upd_same, ⟨_, rfl, ?_⟩⟩⟩
    generalize (upd H2 l0 (.lst [])) = H3
    refine ⟨false, rfl, true, rfl, ?_⟩
    refine iteT ?_
    intro p1 hp1
    refine ⟨upd_same, [(.inr "a", .int 0)], rfl, by decide, ?_⟩
    intro x1 dx1 hx1 hdx1 hn1
    refine makeE_ok (es := [("a", .int 0)]) hx1 hdx1 upd_same (okE_one 0 rfl) (by show 1 ≤ 40; decide) fun H4 s4 pk4 => ⟨rfl, ?_⟩
    intro p2 hp2
    refine ⟨upd_same, [(.inr "a", .int 1)], rfl, by decide, ?_⟩
    intro x2 dx2 hx2 hdx2 hn2
    have s5 : Same H4 (upd (upd H4 p2 (.dK [])) p2 (.dK (mergeK [] [(.inr "a", .int 1)]))) := fun c o ec => by rw [upd_ne (ne_of_none ec hp2), upd_ne (ne_of_none ec hp2)]; exact ec
    refine makeE_ok (es := [("a", .int 1)]) hx2 hdx2 upd_same (okE_one 1 rfl) (by show 1 ≤ 40; decide) fun H5 s6 pk5 => ⟨rfl, ?_⟩
    have pk4' := (pk4.same s5).same s6
    obtain ⟨dxc, dc, ⟨xx_y5, y5, zz_y5⟩, y6⟩ := id pk4'
    obtain ⟨dxe, de, ⟨xx_y7, y7, zz_y7⟩, y8⟩ := id pk5
    refine ⟨x1, x2, dxc, dxe, _, _, rfl, rfl, y5, y7, x1, _, _, rfl, pk4', okE_one 0 rfl, Or.inl ⟨x2, _, rfl, pk5, okE_one 1 rfl, ⟨_, rfl, ?_⟩⟩⟩
    have hne : dEq (kv [(("a" : Str), V.int 0)]) (kv [(("a" : Str), V.int 1)]) = false := by decide +kernel
    rw [hne]
    exact ⟨_, rfl, hq H5⟩
end
end K5

set_option Elab.async false
set_option linter.all false
set_option maxRecDepth 100000
set_option maxHeartbeats 4000000
namespace LF
open PySem PySem.Spec PyProof.Rows L2
/-- the heap at the law's entry: what a promise that is asked where no repr is under way gives -/
theorem lawG_call {P : Program} {w : World} {K : PySem.W.Frag} {mg mb : Str → Option Value} {k : Nat} {fa a : Addr} {fd : FuncData} {x : Str} {sp : Sp} {s1 : Shared} {us : List Value} {ns : List Int}
    (KX : K.In s1.heap) (hns : s1.heap.Ns mainGlobals mg) (hbn : s1.heap.Ns builtinsNs mb) (hbb : ∀ y : Str, y ≠ "__name__" → mb y = bootBuiltins y) (hlim : s1.heap.NoLimit) (hgens : s1.gens = #[])
    (ha : s1.heap.get? a = some { cls := .type "list", data := .seq us.toArray }) (hi : IntsAre us ns) (hl : ns.length ≤ sizeLine) (hr : Room k callerA)
    (F : ∀ base : Heap, K.In base → base.Ns mainGlobals mg → FnG P w K mg base CX0 k fa fd [x] sp)
    (hbind : ∀ (s : Shared) (u : Value), BindsTo s fd ⟨[u], []⟩ [(x, u)])
    (hsp : ∀ H : Hp, SqL K H a (ns.map V.int) → sp [.ref a] H (fun v _ => v = .bl true) (fun _ _ _ => False)) :
    codeAny (model P w) callerA (.call (.ref fa) ⟨[.ref a], []⟩)
      (fun r s' => r = .ok (.ret (.bool true)) ∧ OldK s1.heap s'.heap ∧ s'.os = s1.os ∧ AllBare s'.gens) s1 := by
  have hlv := hi.length
  -- from any abstract heap that tracks at most the script
  have main : ∀ H : Hp, (∀ b, H b = none ∨ ∃ o xs, H b = some (.frz o (.lst xs))) → SqL K H a (ns.map V.int) → HOk P w H s1.heap → (∀ b, H b ≠ none → b = a) → (H a ≠ none → K.lookup a = none) →
      codeAny (model P w) callerA (.call (.ref fa) ⟨[.ref a], []⟩)
        (fun r s' => r = .ok (.ret (.bool true)) ∧ OldK s1.heap s'.heap ∧ s'.os = s1.os ∧ AllBare s'.gens) s1 := by
    intro H only hS hok onlyA notK
    have dictFree : ∀ {b : Addr} {o : Obj} {es : Array DictEntry} {ep : Nat}, s1.heap.get? b = some o → o.data = .dict es ep → H b = none := by
      intro b o es ep e d
      cases q : H b with
      | none => rfl
      | some u =>
        have hb := onlyA b (by rw [q]; simp)
        rw [hb, ha] at e
        have e' := Option.some.inj e
        rw [← e'] at d
        cases d
    have nsH : ∀ {b : Addr} {m : Str → Option Value}, s1.heap.Ns b m → (hidT s1.heap H).Ns b m := by
      rintro b m ⟨o, es, ep, e, d, rest⟩
      exact ⟨o, es, ep, hidT_get e (dictFree e d), d, rest⟩
    have KH : K.In (hidT s1.heap H) := by
      intro b o e
      refine hidT_get (KX b o e) ?_
      cases q : H b with
      | none => rfl
      | some u =>
        have hb := onlyA b (by rw [q]; simp)
        subst hb
        have := notK (by rw [q]; simp)
        rw [this] at e
        cases e
    have lim2 : (hidT s1.heap H).NoLimit := by
      obtain ⟨mc, h1, h2⟩ := hlim
      exact ⟨mc, nsH h1, h2⟩
    have hM : Mod K mg (hidT s1.heap H) := ⟨KH, nsH hns, ⟨mb, nsH hbn, hbb⟩, lim2⟩
    have nof : ∀ b : Addr, b ∈ frs ([] : List Env) → False := fun b hb => nomatch (show b ∈ ([] : List Addr) from hb)
    have e0 : Env0 P w K mg (hidT s1.heap H) callerA [] s1 H :=
      ⟨rfl, hM, fun b o e => of_hidT e, Nat.le_of_eq (hidT_size _ _), trivial, fun b hb => (nof b hb).elim, hok, .of_eq hgens⟩
    have run := (F _ KH (nsH hns)).go callerA [] s1 H ⟨[.ref a], []⟩ [.ref a] [.ref a] _ _ rfl hr e0 (hbind s1 (.ref a)) (.cons rfl .nil) (hsp H hS)
    refine codeAny_mono run ?_
    intro r s' h
    cases r with
    | error e => exact h.elim
    | ok fl =>
      cases fl with
      | next => exact h.elim
      | brk => exact h.elim
      | cont => exact h.elim
      | ret u =>
        obtain ⟨v, H', hos, hbare, un, hok', hv, hq⟩ := h
        have hq' : v = V.bl true := hq
        subst hq'
        have hu : u = Value.bool true := hv
        subst hu
        refine ⟨rfl, OldK.of_keep ?_, hos, hbare⟩
        intro b o e
        rcases only b with q | ⟨ob, xs, q⟩
        · exact un.keep b o e q (fun z => nof b z) (fun z => nomatch z)
        · have g1 := (hok b _ q).1
          have g2 := (hok' b _ (un.frzs b ob _ q)).1
          rw [e] at g1
          rw [Option.some.inj g1]
          exact g2
  have rv := vals_ints hi
  cases hk : K.lookup a with
  | some o =>
    have e := KX a o hk
    rw [ha] at e
    have e' := Option.some.inj e
    subst e'
    refine main (fun _ => none) (fun _ => Or.inl rfl) (Or.inr ⟨_, us.toArray, _, hk, rfl, rfl, rfl, ?_, ?_⟩) (fun b u z => nomatch (show (none : Option HO) = some u from z)) (fun b z => absurd rfl z) (fun z => absurd rfl z)
    · rw [List.size_toArray, hlv]; exact hl
    · simpa using rv
  | none =>
    let O : Obj := { cls := .type "list", data := .seq us.toArray }
    have at1 : ∀ b : Addr, b = a → (fun c : Addr => if c = a then some (HO.frz O (.lst (ns.map V.int))) else none) b = some (HO.frz O (.lst (ns.map V.int))) := fun b hb => if_pos hb
    have at0 : ∀ b : Addr, b ≠ a → (fun c : Addr => if c = a then some (HO.frz O (.lst (ns.map V.int))) else none) b = none := fun b hb => if_neg hb
    refine main (fun c => if c = a then some (HO.frz O (.lst (ns.map V.int))) else none) ?_ (Or.inl (Or.inr ⟨O, at1 a rfl⟩)) ?_ ?_ (fun _ => hk)
    · intro b
      by_cases hb : b = a
      · exact Or.inr ⟨O, _, at1 b hb⟩
      · exact Or.inl (at0 b hb)
    · intro b u z
      by_cases hb : b = a
      · have z' := (at1 b hb).symm.trans z
        have z2 := Option.some.inj z'
        subst z2
        subst hb
        exact ⟨ha, by rw [List.length_map]; exact hl, us, _, rv, ha⟩
      · have z' := (at0 b hb).symm.trans z
        cases z'
    · intro b z
      by_cases hb : b = a
      · exact hb
      · exact absurd (at0 b hb) z
theorem walkG {l : PySem.W.OpenLaw} {n k : Nat} {q : Program} {loose : List Str} {XP : (Str → Option Value) → Heap → Prop} {YP : World → Heap → Prop} {d : DefRec} {K : Params → PySem.W.Frag} {sp : PySem.W.Frag → Sp} {x : Str}
    (hn : l.most = some n) (hn2 : n ≤ sizeLine) (hdf : d.params.defaults = []) (hr : Room k callerA) (hY : ∀ (w : World) (h : Heap), YP w h → (K w.params).In h)
    (F : ∀ (w : World) (mg : Str → Option Value) (fa : Addr) (h : Heap), (K w.params).In h → h.Ns mainGlobals mg → mg d.name = some (.ref fa) →
      ∃ fd : FuncData, (∀ (s : Shared) (u : Value), BindsTo s fd ⟨[u], []⟩ [(x, u)]) ∧
        ∀ base : Heap, (K w.params).In base → base.Ns mainGlobals mg → FnG l.prog w (K w.params) mg base CX0 k fa fd [x] (sp (K w.params)))
    (hsp : ∀ (K : PySem.W.Frag) (H : Hp) (a : Addr) (ns : List Int), ns.length ≤ n → SqL K H a (ns.map V.int) → sp K [.ref a] H (fun v _ => v = .bl true) (fun _ _ _ => False)) :
    PySem.W.WalkO q loose XP YP l.row.toRowW d [] (fun f vs => PySem.call f vs) := by
  refine Att.attach_call hn hdf ?_
  intro w s₀ s₁ mg mb fa o pm cd doc a us ns G Y ho hd hcd hmg hobj hints hlen hgens
  have KX := hY w _ Y
  obtain ⟨fd, hb, hF⟩ := F w mg fa _ KX G.T.g hmg
  exact lawG_call KX G.T.g G.T.b G.T.builtins G.T.nolimit hgens hobj hints (Nat.le_trans hlen hn2) hr hF hb (fun H hS => hsp _ H a ns hlen hS)
end LF

set_option Elab.async false
set_option linter.all false
set_option maxRecDepth 100000
set_option maxHeartbeats 4000000
namespace K5
open PySem PySem.Spec PyProof.Rows L2 LF
theorem exm_of {K : PySem.W.Frag} {S T : Addr} {b : Bool} (h1 : PySem.W.subIn K (.ref T) (.type "BaseException") = some true) (h2 : PySem.W.isClsIn K T = true) (h3 : PySem.W.typeIn K (.ref T) = some (.type "type")) (h4 : PySem.W.subIn K (.ref S) (.ref T) = some b) :
    PySem.W.exmOne K (.ref S) (.ref T) = some b := by
  have e1 : (PySem.W.subIn K (.ref T) (.type "BaseException") == some true) = true := by rw [h1] <;> rfl
  have e2 : ((PySem.W.clsIn K T).isSome && PySem.W.typeIn K (.ref T) == some (.type "type")) = true := by
    have h2' : (PySem.W.clsIn K T).isSome = true := h2
    rw [h2', h3] <;> rfl
  show (if (PySem.W.subIn K (.ref T) (.type "BaseException") == some true) = true then (if ((PySem.W.clsIn K T).isSome && PySem.W.typeIn K (.ref T) == some (.type "type")) = true then PySem.W.subIn K (.ref S) (.ref T) else none) else none) = some b
  rw [if_pos e1, if_pos e2]
  exact h4
theorem all_mk {P : Program} {w : World} {K : PySem.W.Frag} {h : Heap} {mg : Str → Option Value} {fa CK fI TD f1 f2 f3 f4 f5 f6 f7 f8 f9 f10 f11 f12 f13 f14 f15 f16 f17 f18 f19 f20 f21 f22 f23 f24 f25 f26 f27 f28 f29 f30 f31 f32 f33 e0f e0N e1f e1N e2f e2N e3f e3N CP CE CN CM CQ g1 g2 g3 g4 g5 g6 g7 g8 g9 g10 g11 p1 p2 p3 : Addr} (X : K.In h) (G : h.Ns mainGlobals mg) (hfa : mg "law" = some (.ref fa))
    {e0nm e0q : Str} {e0bs e0sub : List Value} {e0sn : List Str} {e0ab : Bool} {e0col : Option Bool} {e0m0 e0m1 e0m2 e0m3 e0m5 : Option Value} {e1nm e1q : Str} {e1bs e1sub : List Value} {e1sn : List Str} {e1ab : Bool} {e1col : Option Bool} {e1m0 e1m1 e1m2 e1m3 e1m5 : Option Value} {e2nm e2q : Str} {e2bs e2sub : List Value} {e2sn : List Str} {e2ab : Bool} {e2col : Option Bool} {e2m0 e2m1 e2m2 e2m3 e2m5 : Option Value} {e3nm e3q : Str} {e3bs e3sub : List Value} {e3sn : List Str} {e3ab : Bool} {e3col : Option Bool} {e3m0 e3m1 e3m2 e3m3 e3m5 : Option Value} {tk2 tk3 tk4 tk5 tkL : Tok} {nT : Nat} {r1 : List Value} {r2 : List Value} {r3 : List Value}
    {e0od e0an e0dd e1od e1an e1dd e2od e2an e2dd e3od e3an e3dd od1 an1 od2 an2 od3 an3 od4 an4 od5 an5 od6 an6 od7 an7 od8 an8 od9 an9 od10 an10 od11 an11 od12 an12 od13 an13 od14 an14 od15 an15 od16 an16 od17 an17 od18 an18 od19 an19 od20 an20 od21 an21 od22 an22 od23 an23 od24 an24 od25 an25 od26 an26 od27 an27 od28 an28 od29 an29 od30 an30 od31 an31 od32 an32 od33 an33 odp1 anp1 odp2 anp2 odp3 anp3 odp4 anp4 odp5 anp5 odp6 anp6 odp7 anp7 odp8 anp8 odp9 anp9 odp10 anp10 odp11 anp11 odI anI odT : Option Addr} {e0sl e1sl e2sl e3sl sl1 sl2 sl3 sl4 sl5 sl6 sl7 sl8 sl9 sl10 sl11 sl12 sl13 sl14 sl15 sl16 sl17 sl18 sl19 sl20 sl21 sl22 sl23 sl24 sl25 sl26 sl27 sl28 sl29 sl30 sl31 sl32 sl33 slp1 slp2 slp3 slp4 slp5 slp6 slp7 slp8 slp9 slp10 slp11 slI slT : Array (Option Value)} {e0oc e0dc e0pm e0cd e0ct e1oc e1dc e1pm e1cd e1ct e2oc e2dc e2pm e2cd e2ct e3oc e3dc e3pm e3cd e3ct oc1 kV1 dc1 pm1 cd1 ct1 oc2 kV2 dc2 pm2 cd2 ct2 oc3 kV3 dc3 pm3 cd3 ct3 oc4 kV4 dc4 pm4 cd4 ct4 oc5 kV5 dc5 pm5 cd5 ct5 oc6 kV6 dc6 pm6 cd6 ct6 oc7 kV7 dc7 pm7 cd7 ct7 oc8 kV8 dc8 pm8 cd8 ct8 oc9 kV9 dc9 pm9 cd9 ct9 oc10 kV10 dc10 pm10 cd10 ct10 oc11 kV11 dc11 pm11 cd11 ct11 oc12 kV12 dc12 pm12 cd12 ct12 oc13 kV13 dc13 pm13 cd13 ct13 oc14 kV14 dc14 pm14 cd14 ct14 oc15 kV15 dc15 pm15 cd15 ct15 oc16 kV16 dc16 pm16 cd16 ct16 oc17 kV17 dc17 pm17 cd17 ct17 oc18 kV18 dc18 pm18 cd18 ct18 oc19 kV19 dc19 pm19 cd19 ct19 oc20 kV20 dc20 pm20 cd20 ct20 oc21 kV21 dc21 pm21 cd21 ct21 oc22 kV22 dc22 pm22 cd22 ct22 oc23 kV23 dc23 pm23 cd23 ct23 oc24 kV24 dc24 pm24 cd24 ct24 oc25 kV25 dc25 pm25 cd25 ct25 oc26 kV26 dc26 pm26 cd26 ct26 oc27 kV27 dc27 pm27 cd27 ct27 oc28 kV28 dc28 pm28 cd28 ct28 oc29 kV29 dc29 pm29 cd29 ct29 oc30 kV30 dc30 pm30 cd30 ct30 oc31 kV31 dc31 pm31 cd31 ct31 oc32 kV32 dc32 pm32 cd32 ct32 oc33 kV33 dc33 pm33 cd33 ct33 ocp1 kVp1 dcp1 pmp1 cdp1 ctp1 ocp2 kVp2 dcp2 pmp2 cdp2 ctp2 ocp3 kVp3 dcp3 pmp3 cdp3 ctp3 ocp4 kVp4 dcp4 pmp4 cdp4 ctp4 ocp5 kVp5 dcp5 pmp5 cdp5 ctp5 ocp6 kVp6 dcp6 pmp6 cdp6 ctp6 ocp7 kVp7 dcp7 pmp7 cdp7 ctp7 ocp8 kVp8 dcp8 pmp8 cdp8 ctp8 ocp9 kVp9 dcp9 pmp9 cdp9 ctp9 ocp10 kVp10 dcp10 pmp10 cdp10 ctp10 ocp11 kVp11 dcp11 pmp11 cdp11 ctp11 ocI kVI dcI pmI cdI ctI ocT : Value}
    {x0f x1f x2f CTk CNb fNb : Addr} {x0oc x0kV x0dc x0pm x0cd x0ct x1oc x1kV x1dc x1pm x1cd x1ct x2oc x2kV x2dc x2pm x2cd x2ct ocNb kVNb dcNb pmNb cdNb ctNb : Value} {x0od x0an x1od x1an x2od x2an odNb anNb : Option Addr} {x0sl x1sl x2sl slNb : Array (Option Value)}
    (e0a : PySem.W.nsIn K mainGlobals "BadPath" = some (some (.ref CP)))
    (e0x : K.lookup CP = some (excClassObj e0nm e0q CP e0N e0bs [.type "ValueError", .type "Exception", .type "BaseException", .type "object"] true e0sn e0sub e0ab e0col e0dd e0m0 e0m1 e0m2 e0m3 e0m5 "ValueError.__new__"))
    (e0sa : PySem.W.findIn K (.ref CP) "__setattr__" = some (some (.builtin "object.__setattr__")))
    (e0ga : PySem.W.findIn K (.ref CP) "__getattribute__" = some (some (.builtin "BaseException.__getattribute__")))
    (e0gg : PySem.W.findIn K (.ref CP) "__getattr__" = some none)
    (e0nb : PySem.W.findIn K (.ref CP) "path" = some none)
    (e0i : PySem.W.findIn K (.ref CP) "__init__" = some (some (.ref e0f)))
    (e0t : PySem.W.typeIn K (.ref e0f) = some (.type "function"))
    (e0l : K.lookup e0f = some ⟨e0oc, e0od, .func (PySem.W.fnOf "__init__" "BadPath.__init__" (PySem.BadPathX.iA ⟨7, 17, 7, 21⟩ ⟨7, 23, 7, 27⟩) (PySem.BadPathX.iB ⟨8, 8, 8, 12⟩ ⟨8, 8, 8, 17⟩ ⟨8, 20, 8, 24⟩ ⟨8, 8, 8, 24⟩) PySem.BadPathX.iS .none .none e0dc e0pm e0an e0cd e0ct), e0sl⟩)
    (e0c : PySem.W.codeIn K e0cd "BadPath.__init__" = true)
    (e0k : PySem.W.keepIn K (.ref CP) = true)
    (e0e : PySem.W.subIn K (.ref CP) (.type "BaseException") = some true)
    (e0ty : PySem.W.typeIn K (.ref CP) = some (.type "type"))
    (e0hd : PySem.W.hasDictIn K CP = true)
    (e0ic : PySem.W.isClsIn K CP = true)
    (e0ss : PySem.W.subIn K (.ref CP) (.ref CP) = some true)
    (e0ha : PySem.W.findIn K (.ref CP) "__class__" = some (some (.builtin "object.__class__")))
    (e0hm : PySem.W.mroIn K CP (.type "object") = some true)
    (e1a : PySem.W.nsIn K mainGlobals "BadEntry" = some (some (.ref CE)))
    (e1x : K.lookup CE = some (excClassObj e1nm e1q CE e1N e1bs [.type "ValueError", .type "Exception", .type "BaseException", .type "object"] true e1sn e1sub e1ab e1col e1dd e1m0 e1m1 e1m2 e1m3 e1m5 "ValueError.__new__"))
    (e1sa : PySem.W.findIn K (.ref CE) "__setattr__" = some (some (.builtin "object.__setattr__")))
    (e1ga : PySem.W.findIn K (.ref CE) "__getattribute__" = some (some (.builtin "BaseException.__getattribute__")))
    (e1gg : PySem.W.findIn K (.ref CE) "__getattr__" = some none)
    (e1nb : PySem.W.findIn K (.ref CE) "path" = some none)
    (e1i : PySem.W.findIn K (.ref CE) "__init__" = some (some (.ref e1f)))
    (e1t : PySem.W.typeIn K (.ref e1f) = some (.type "function"))
    (e1l : K.lookup e1f = some ⟨e1oc, e1od, .func (PySem.W.fnOf "__init__" "BadEntry.__init__" (PySem.BadEntryX.iA ⟨11, 17, 11, 21⟩ ⟨11, 23, 11, 27⟩) (PySem.BadEntryX.iB ⟨12, 8, 12, 12⟩ ⟨12, 8, 12, 17⟩ ⟨12, 20, 12, 24⟩ ⟨12, 8, 12, 24⟩) PySem.BadEntryX.iS .none .none e1dc e1pm e1an e1cd e1ct), e1sl⟩)
    (e1c : PySem.W.codeIn K e1cd "BadEntry.__init__" = true)
    (e1k : PySem.W.keepIn K (.ref CE) = true)
    (e1e : PySem.W.subIn K (.ref CE) (.type "BaseException") = some true)
    (e1ty : PySem.W.typeIn K (.ref CE) = some (.type "type"))
    (e1hd : PySem.W.hasDictIn K CE = true)
    (e1ic : PySem.W.isClsIn K CE = true)
    (e1ss : PySem.W.subIn K (.ref CE) (.ref CE) = some true)
    (e1ha : PySem.W.findIn K (.ref CE) "__class__" = some (some (.builtin "object.__class__")))
    (e1hm : PySem.W.mroIn K CE (.type "object") = some true)
    (e2a : PySem.W.nsIn K mainGlobals "NoEntry" = some (some (.ref CN)))
    (e2x : K.lookup CN = some (excClassObj e2nm e2q CN e2N e2bs [.type "KeyError", .type "LookupError", .type "Exception", .type "BaseException", .type "object"] true e2sn e2sub e2ab e2col e2dd e2m0 e2m1 e2m2 e2m3 e2m5 "LookupError.__new__"))
    (e2sa : PySem.W.findIn K (.ref CN) "__setattr__" = some (some (.builtin "object.__setattr__")))
    (e2ga : PySem.W.findIn K (.ref CN) "__getattribute__" = some (some (.builtin "BaseException.__getattribute__")))
    (e2gg : PySem.W.findIn K (.ref CN) "__getattr__" = some none)
    (e2nb : PySem.W.findIn K (.ref CN) "path" = some none)
    (e2i : PySem.W.findIn K (.ref CN) "__init__" = some (some (.ref e2f)))
    (e2t : PySem.W.typeIn K (.ref e2f) = some (.type "function"))
    (e2l : K.lookup e2f = some ⟨e2oc, e2od, .func (PySem.W.fnOf "__init__" "NoEntry.__init__" (PySem.NoEntryX.iA ⟨15, 17, 15, 21⟩ ⟨15, 23, 15, 27⟩) (PySem.NoEntryX.iB ⟨16, 8, 16, 12⟩ ⟨16, 8, 16, 17⟩ ⟨16, 20, 16, 24⟩ ⟨16, 8, 16, 24⟩) PySem.NoEntryX.iS .none .none e2dc e2pm e2an e2cd e2ct), e2sl⟩)
    (e2c : PySem.W.codeIn K e2cd "NoEntry.__init__" = true)
    (e2k : PySem.W.keepIn K (.ref CN) = true)
    (e2e : PySem.W.subIn K (.ref CN) (.type "BaseException") = some true)
    (e2ty : PySem.W.typeIn K (.ref CN) = some (.type "type"))
    (e2hd : PySem.W.hasDictIn K CN = true)
    (e2ic : PySem.W.isClsIn K CN = true)
    (e2ss : PySem.W.subIn K (.ref CN) (.ref CN) = some true)
    (e2ha : PySem.W.findIn K (.ref CN) "__class__" = some (some (.builtin "object.__class__")))
    (e2hm : PySem.W.mroIn K CN (.type "object") = some true)
    (e3a : PySem.W.nsIn K mainGlobals "TooMany" = some (some (.ref CM)))
    (e3x : K.lookup CM = some (excClassObj e3nm e3q CM e3N e3bs [.type "OverflowError", .type "ArithmeticError", .type "Exception", .type "BaseException", .type "object"] true e3sn e3sub e3ab e3col e3dd e3m0 e3m1 e3m2 e3m3 e3m5 "OverflowError.__new__"))
    (e3sa : PySem.W.findIn K (.ref CM) "__setattr__" = some (some (.builtin "object.__setattr__")))
    (e3ga : PySem.W.findIn K (.ref CM) "__getattribute__" = some (some (.builtin "BaseException.__getattribute__")))
    (e3gg : PySem.W.findIn K (.ref CM) "__getattr__" = some none)
    (e3nb : PySem.W.findIn K (.ref CM) "limit" = some none)
    (e3i : PySem.W.findIn K (.ref CM) "__init__" = some (some (.ref e3f)))
    (e3t : PySem.W.typeIn K (.ref e3f) = some (.type "function"))
    (e3l : K.lookup e3f = some ⟨e3oc, e3od, .func (PySem.W.fnOf "__init__" "TooMany.__init__" (PySem.TooManyX.iA ⟨35, 17, 35, 21⟩ ⟨35, 23, 35, 28⟩) (PySem.TooManyX.iB ⟨36, 8, 36, 12⟩ ⟨36, 8, 36, 18⟩ ⟨36, 21, 36, 26⟩ ⟨36, 8, 36, 26⟩) PySem.TooManyX.iS .none .none e3dc e3pm e3an e3cd e3ct), e3sl⟩)
    (e3c : PySem.W.codeIn K e3cd "TooMany.__init__" = true)
    (e3k : PySem.W.keepIn K (.ref CM) = true)
    (e3e : PySem.W.subIn K (.ref CM) (.type "BaseException") = some true)
    (e3ty : PySem.W.typeIn K (.ref CM) = some (.type "type"))
    (e3hd : PySem.W.hasDictIn K CM = true)
    (e3ic : PySem.W.isClsIn K CM = true)
    (e3ss : PySem.W.subIn K (.ref CM) (.ref CM) = some true)
    (e3ha : PySem.W.findIn K (.ref CM) "__class__" = some (some (.builtin "object.__class__")))
    (e3hm : PySem.W.mroIn K CM (.type "object") = some true)
    (oCQ : PySem.W.nsIn K mainGlobals "NoPackage" = some (some (.ref CQ)))
    (zI2 : PySem.W.nsIn K mainGlobals "LONGEST_NAME" = some (some (.int 8 tk2)))
    (zI3 : PySem.W.nsIn K mainGlobals "MOST_NAMES" = some (some (.int 10 tk3)))
    (zI4 : PySem.W.nsIn K mainGlobals "MOST_TARGET_NAMES" = some (some (.int 8 tk4)))
    (zI5 : PySem.W.nsIn K mainGlobals "GREATEST_CONTENT" = some (some (.int 999999999999 tk5)))
    (z_isinstance : PySem.W.nsIn K mainGlobals "isinstance" = some none)
    (z_str : PySem.W.nsIn K mainGlobals "str" = some none)
    (z_len : PySem.W.nsIn K mainGlobals "len" = some none)
    (z_all : PySem.W.nsIn K mainGlobals "all" = some none)
    (z_any : PySem.W.nsIn K mainGlobals "any" = some none)
    (z_tuple : PySem.W.nsIn K mainGlobals "tuple" = some none)
    (z_list : PySem.W.nsIn K mainGlobals "list" = some none)
    (z_dict : PySem.W.nsIn K mainGlobals "dict" = some none)
    (z_sorted : PySem.W.nsIn K mainGlobals "sorted" = some none)
    (z_range : PySem.W.nsIn K mainGlobals "range" = some none)
    (z_abs : PySem.W.nsIn K mainGlobals "abs" = some none)
    (z_int : PySem.W.nsIn K mainGlobals "int" = some none)
    (z_bool : PySem.W.nsIn K mainGlobals "bool" = some none)
    (z_repr : PySem.W.nsIn K mainGlobals "repr" = some none)
    (z_max : PySem.W.nsIn K mainGlobals "max" = some none)
    (z_set : PySem.W.nsIn K mainGlobals "set" = some none)
    (z_min : PySem.W.nsIn K mainGlobals "min" = some none)
    (z_ValueError : PySem.W.nsIn K mainGlobals "ValueError" = some none)
    (z_OverflowError : PySem.W.nsIn K mainGlobals "OverflowError" = some none)
    (z_KeyError : PySem.W.nsIn K mainGlobals "KeyError" = some none)
    (a1 : PySem.W.nsIn K mainGlobals "is_name" = some (some (.ref f1)))
    (l1 : K.lookup f1 = some ⟨oc1, od1, .func (PySem.W.fnOf "is_name" "is_name" (defArgs s_is_name) (defBody s_is_name) (defScope s_is_name) .none kV1 dc1 pm1 an1 cd1 ct1), sl1⟩)
    (c1 : PySem.W.codeIn K cd1 "is_name" = true)
    (k1 : PySem.W.keepIn K (.ref f1) = true)
    (a2 : PySem.W.nsIn K mainGlobals "is_path" = some (some (.ref f2)))
    (l2 : K.lookup f2 = some ⟨oc2, od2, .func (PySem.W.fnOf "is_path" "is_path" (defArgs s_is_path) (defBody s_is_path) (defScope s_is_path) .none kV2 dc2 pm2 an2 cd2 ct2), sl2⟩)
    (c2 : PySem.W.codeIn K cd2 "is_path" = true)
    (k2 : PySem.W.keepIn K (.ref f2) = true)
    (a3 : PySem.W.nsIn K mainGlobals "check_path" = some (some (.ref f3)))
    (l3 : K.lookup f3 = some ⟨oc3, od3, .func (PySem.W.fnOf "check_path" "check_path" (defArgs s_check_path) (defBody s_check_path) (defScope s_check_path) .none kV3 dc3 pm3 an3 cd3 ct3), sl3⟩)
    (c3 : PySem.W.codeIn K cd3 "check_path" = true)
    (k3 : PySem.W.keepIn K (.ref f3) = true)
    (a4 : PySem.W.nsIn K mainGlobals "in_order" = some (some (.ref f4)))
    (l4 : K.lookup f4 = some ⟨oc4, od4, .func (PySem.W.fnOf "in_order" "in_order" (defArgs s_in_order) (defBody s_in_order) (defScope s_in_order) .none kV4 dc4 pm4 an4 cd4 ct4), sl4⟩)
    (c4 : PySem.W.codeIn K cd4 "in_order" = true)
    (k4 : PySem.W.keepIn K (.ref f4) = true)
    (a5 : PySem.W.nsIn K mainGlobals "split_path" = some (some (.ref f5)))
    (l5 : K.lookup f5 = some ⟨oc5, od5, .func (PySem.W.fnOf "split_path" "split_path" (defArgs s_split_path) (defBody s_split_path) (defScope s_split_path) .none kV5 dc5 pm5 an5 cd5 ct5), sl5⟩)
    (c5 : PySem.W.codeIn K cd5 "split_path" = true)
    (k5 : PySem.W.keepIn K (.ref f5) = true)
    (a6 : PySem.W.nsIn K mainGlobals "order_key" = some (some (.ref f6)))
    (l6 : K.lookup f6 = some ⟨oc6, od6, .func (PySem.W.fnOf "order_key" "order_key" (defArgs s_order_key) (defBody s_order_key) (defScope s_order_key) .none kV6 dc6 pm6 an6 cd6 ct6), sl6⟩)
    (c6 : PySem.W.codeIn K cd6 "order_key" = true)
    (k6 : PySem.W.keepIn K (.ref f6) = true)
    (a7 : PySem.W.nsIn K mainGlobals "beginnings" = some (some (.ref f7)))
    (l7 : K.lookup f7 = some ⟨oc7, od7, .func (PySem.W.fnOf "beginnings" "beginnings" (defArgs s_beginnings) (defBody s_beginnings) (defScope s_beginnings) .none kV7 dc7 pm7 an7 cd7 ct7), sl7⟩)
    (c7 : PySem.W.codeIn K cd7 "beginnings" = true)
    (k7 : PySem.W.keepIn K (.ref f7) = true)
    (a8 : PySem.W.nsIn K mainGlobals "is_below" = some (some (.ref f8)))
    (l8 : K.lookup f8 = some ⟨oc8, od8, .func (PySem.W.fnOf "is_below" "is_below" (defArgs s_is_below) (defBody s_is_below) (defScope s_is_below) .none kV8 dc8 pm8 an8 cd8 ct8), sl8⟩)
    (c8 : PySem.W.codeIn K cd8 "is_below" = true)
    (k8 : PySem.W.keepIn K (.ref f8) = true)
    (a9 : PySem.W.nsIn K mainGlobals "is_content" = some (some (.ref f9)))
    (l9 : K.lookup f9 = some ⟨oc9, od9, .func (PySem.W.fnOf "is_content" "is_content" (defArgs s_is_content) (defBody s_is_content) (defScope s_is_content) .none kV9 dc9 pm9 an9 cd9 ct9), sl9⟩)
    (c9 : PySem.W.codeIn K cd9 "is_content" = true)
    (k9 : PySem.W.keepIn K (.ref f9) = true)
    (a10 : PySem.W.nsIn K mainGlobals "is_target" = some (some (.ref f10)))
    (l10 : K.lookup f10 = some ⟨oc10, od10, .func (PySem.W.fnOf "is_target" "is_target" (defArgs s_is_target) (defBody s_is_target) (defScope s_is_target) .none kV10 dc10 pm10 an10 cd10 ct10), sl10⟩)
    (c10 : PySem.W.codeIn K cd10 "is_target" = true)
    (k10 : PySem.W.keepIn K (.ref f10) = true)
    (a11 : PySem.W.nsIn K mainGlobals "is_place" = some (some (.ref f11)))
    (l11 : K.lookup f11 = some ⟨oc11, od11, .func (PySem.W.fnOf "is_place" "is_place" (defArgs s_is_place) (defBody s_is_place) (defScope s_is_place) .none kV11 dc11 pm11 an11 cd11 ct11), sl11⟩)
    (c11 : PySem.W.codeIn K cd11 "is_place" = true)
    (k11 : PySem.W.keepIn K (.ref f11) = true)
    (a12 : PySem.W.nsIn K mainGlobals "is_item" = some (some (.ref f12)))
    (l12 : K.lookup f12 = some ⟨oc12, od12, .func (PySem.W.fnOf "is_item" "is_item" (defArgs s_is_item) (defBody s_is_item) (defScope s_is_item) .none kV12 dc12 pm12 an12 cd12 ct12), sl12⟩)
    (c12 : PySem.W.codeIn K cd12 "is_item" = true)
    (k12 : PySem.W.keepIn K (.ref f12) = true)
    (a13 : PySem.W.nsIn K mainGlobals "kind_of" = some (some (.ref f13)))
    (l13 : K.lookup f13 = some ⟨oc13, od13, .func (PySem.W.fnOf "kind_of" "kind_of" (defArgs s_kind_of) (defBody s_kind_of) (defScope s_kind_of) .none kV13 dc13 pm13 an13 cd13 ct13), sl13⟩)
    (c13 : PySem.W.codeIn K cd13 "kind_of" = true)
    (k13 : PySem.W.keepIn K (.ref f13) = true)
    (a14 : PySem.W.nsIn K mainGlobals "check_entries" = some (some (.ref f14)))
    (l14 : K.lookup f14 = some ⟨oc14, od14, .func (PySem.W.fnOf "check_entries" "check_entries" (defArgs s_check_entries) (defBody s_check_entries) (defScope s_check_entries) .none kV14 dc14 pm14 an14 cd14 ct14), sl14⟩)
    (c14 : PySem.W.codeIn K cd14 "check_entries" = true)
    (k14 : PySem.W.keepIn K (.ref f14) = true)
    (a15 : PySem.W.nsIn K mainGlobals "lies_below_leaf" = some (some (.ref f15)))
    (l15 : K.lookup f15 = some ⟨oc15, od15, .func (PySem.W.fnOf "lies_below_leaf" "lies_below_leaf" (defArgs s_lies_below_leaf) (defBody s_lies_below_leaf) (defScope s_lies_below_leaf) .none kV15 dc15 pm15 an15 cd15 ct15), sl15⟩)
    (c15 : PySem.W.codeIn K cd15 "lies_below_leaf" = true)
    (k15 : PySem.W.keepIn K (.ref f15) = true)
    (a16 : PySem.W.nsIn K mainGlobals "with_parents" = some (some (.ref f16)))
    (l16 : K.lookup f16 = some ⟨oc16, od16, .func (PySem.W.fnOf "with_parents" "with_parents" (defArgs s_with_parents) (defBody s_with_parents) (defScope s_with_parents) .none kV16 dc16 pm16 an16 cd16 ct16), sl16⟩)
    (c16 : PySem.W.codeIn K cd16 "with_parents" = true)
    (k16 : PySem.W.keepIn K (.ref f16) = true)
    (a17 : PySem.W.nsIn K mainGlobals "_law_bag" = some (some (.ref f17)))
    (l17 : K.lookup f17 = some ⟨oc17, od17, .func (PySem.W.fnOf "_law_bag" "_law_bag" (defArgs s_bag) (defBody s_bag) (defScope s_bag) .none kV17 dc17 pm17 an17 cd17 ct17), sl17⟩)
    (c17 : PySem.W.codeIn K cd17 "_law_bag" = true)
    (k17 : PySem.W.keepIn K (.ref f17) = true)
    (a18 : PySem.W.nsIn K mainGlobals "_law_take" = some (some (.ref f18)))
    (l18 : K.lookup f18 = some ⟨oc18, od18, .func (PySem.W.fnOf "_law_take" "_law_take" (defArgs s_take) (defBody s_take) (defScope s_take) .none kV18 dc18 pm18 an18 cd18 ct18), sl18⟩)
    (c18 : PySem.W.codeIn K cd18 "_law_take" = true)
    (k18 : PySem.W.keepIn K (.ref f18) = true)
    (a19 : PySem.W.nsIn K mainGlobals "_law_pick" = some (some (.ref f19)))
    (l19 : K.lookup f19 = some ⟨oc19, od19, .func (PySem.W.fnOf "_law_pick" "_law_pick" (defArgs s_pick) (defBody s_pick) (defScope s_pick) .none kV19 dc19 pm19 an19 cd19 ct19), sl19⟩)
    (c19 : PySem.W.codeIn K cd19 "_law_pick" = true)
    (k19 : PySem.W.keepIn K (.ref f19) = true)
    (a20 : PySem.W.nsIn K mainGlobals "_law_words" = some (some (.ref f20)))
    (l20 : K.lookup f20 = some ⟨oc20, od20, .func (PySem.W.fnOf "_law_words" "_law_words" (defArgs s__law_words) (defBody s__law_words) (defScope s__law_words) .none kV20 dc20 pm20 an20 cd20 ct20), sl20⟩)
    (c20 : PySem.W.codeIn K cd20 "_law_words" = true)
    (k20 : PySem.W.keepIn K (.ref f20) = true)
    (a21 : PySem.W.nsIn K mainGlobals "_law_joined" = some (some (.ref f21)))
    (l21 : K.lookup f21 = some ⟨oc21, od21, .func (PySem.W.fnOf "_law_joined" "_law_joined" (defArgs s__law_joined) (defBody s__law_joined) (defScope s__law_joined) .none kV21 dc21 pm21 an21 cd21 ct21), sl21⟩)
    (c21 : PySem.W.codeIn K cd21 "_law_joined" = true)
    (k21 : PySem.W.keepIn K (.ref f21) = true)
    (a22 : PySem.W.nsIn K mainGlobals "_law_path" = some (some (.ref f22)))
    (l22 : K.lookup f22 = some ⟨oc22, od22, .func (PySem.W.fnOf "_law_path" "_law_path" (defArgs s_lpath) (defBody s_lpath) (defScope s_lpath) .none kV22 dc22 pm22 an22 cd22 ct22), sl22⟩)
    (c22 : PySem.W.codeIn K cd22 "_law_path" = true)
    (k22 : PySem.W.keepIn K (.ref f22) = true)
    (a23 : PySem.W.nsIn K mainGlobals "_law_entries" = some (some (.ref f23)))
    (l23 : K.lookup f23 = some ⟨oc23, od23, .func (PySem.W.fnOf "_law_entries" "_law_entries" (defArgs s__law_entries) (defBody s__law_entries) (defScope s__law_entries) .none kV23 dc23 pm23 an23 cd23 ct23), sl23⟩)
    (c23 : PySem.W.codeIn K cd23 "_law_entries" = true)
    (k23 : PySem.W.keepIn K (.ref f23) = true)
    (a24 : PySem.W.nsIn K mainGlobals "_law_is_path" = some (some (.ref f24)))
    (l24 : K.lookup f24 = some ⟨oc24, od24, .func (PySem.W.fnOf "_law_is_path" "_law_is_path" (defArgs s__law_is_path) (defBody s__law_is_path) (defScope s__law_is_path) .none kV24 dc24 pm24 an24 cd24 ct24), sl24⟩)
    (c24 : PySem.W.codeIn K cd24 "_law_is_path" = true)
    (k24 : PySem.W.keepIn K (.ref f24) = true)
    (a25 : PySem.W.nsIn K mainGlobals "_law_ordered" = some (some (.ref f25)))
    (l25 : K.lookup f25 = some ⟨oc25, od25, .func (PySem.W.fnOf "_law_ordered" "_law_ordered" (defArgs s__law_ordered) (defBody s__law_ordered) (defScope s__law_ordered) .none kV25 dc25 pm25 an25 cd25 ct25), sl25⟩)
    (c25 : PySem.W.codeIn K cd25 "_law_ordered" = true)
    (k25 : PySem.W.keepIn K (.ref f25) = true)
    (a26 : PySem.W.nsIn K mainGlobals "_law_starts" = some (some (.ref f26)))
    (l26 : K.lookup f26 = some ⟨oc26, od26, .func (PySem.W.fnOf "_law_starts" "_law_starts" (defArgs s__law_starts) (defBody s__law_starts) (defScope s__law_starts) .none kV26 dc26 pm26 an26 cd26 ct26), sl26⟩)
    (c26 : PySem.W.codeIn K cd26 "_law_starts" = true)
    (k26 : PySem.W.keepIn K (.ref f26) = true)
    (a27 : PySem.W.nsIn K mainGlobals "_law_full" = some (some (.ref f27)))
    (l27 : K.lookup f27 = some ⟨oc27, od27, .func (PySem.W.fnOf "_law_full" "_law_full" (defArgs s__law_full) (defBody s__law_full) (defScope s__law_full) .none kV27 dc27 pm27 an27 cd27 ct27), sl27⟩)
    (c27 : PySem.W.codeIn K cd27 "_law_full" = true)
    (k27 : PySem.W.keepIn K (.ref f27) = true)
    (a28 : PySem.W.nsIn K mainGlobals "_law_is_item" = some (some (.ref f28)))
    (l28 : K.lookup f28 = some ⟨oc28, od28, .func (PySem.W.fnOf "_law_is_item" "_law_is_item" (defArgs s__law_is_item) (defBody s__law_is_item) (defScope s__law_is_item) .none kV28 dc28 pm28 an28 cd28 ct28), sl28⟩)
    (c28 : PySem.W.codeIn K cd28 "_law_is_item" = true)
    (k28 : PySem.W.keepIn K (.ref f28) = true)
    (a29 : PySem.W.nsIn K mainGlobals "_law_due" = some (some (.ref f29)))
    (l29 : K.lookup f29 = some ⟨oc29, od29, .func (PySem.W.fnOf "_law_due" "_law_due" (defArgs s__law_due) (defBody s__law_due) (defScope s__law_due) .none kV29 dc29 pm29 an29 cd29 ct29), sl29⟩)
    (c29 : PySem.W.codeIn K cd29 "_law_due" = true)
    (k29 : PySem.W.keepIn K (.ref f29) = true)
    (a30 : PySem.W.nsIn K mainGlobals "_law_told" = some (some (.ref f30)))
    (l30 : K.lookup f30 = some ⟨oc30, od30, .func (PySem.W.fnOf "_law_told" "_law_told" (defArgs s__law_told) (defBody s__law_told) (defScope s__law_told) .none kV30 dc30 pm30 an30 cd30 ct30), sl30⟩)
    (c30 : PySem.W.codeIn K cd30 "_law_told" = true)
    (k30 : PySem.W.keepIn K (.ref f30) = true)
    (a31 : PySem.W.nsIn K mainGlobals "_law_same" = some (some (.ref f31)))
    (l31 : K.lookup f31 = some ⟨oc31, od31, .func (PySem.W.fnOf "_law_same" "_law_same" (defArgs s__law_same) (defBody s__law_same) (defScope s__law_same) .none kV31 dc31 pm31 an31 cd31 ct31), sl31⟩)
    (c31 : PySem.W.codeIn K cd31 "_law_same" = true)
    (k31 : PySem.W.keepIn K (.ref f31) = true)
    (a32 : PySem.W.nsIn K mainGlobals "_law_deed" = some (some (.ref f32)))
    (l32 : K.lookup f32 = some ⟨oc32, od32, .func (PySem.W.fnOf "_law_deed" "_law_deed" (defArgs s__law_deed) (defBody s__law_deed) (defScope s__law_deed) .none kV32 dc32 pm32 an32 cd32 ct32), sl32⟩)
    (c32 : PySem.W.codeIn K cd32 "_law_deed" = true)
    (k32 : PySem.W.keepIn K (.ref f32) = true)
    (a33 : PySem.W.nsIn K mainGlobals "law" = some (some (.ref f33)))
    (l33 : K.lookup f33 = some ⟨oc33, od33, .func (PySem.W.fnOf "law" "law" (defArgs s_law) (defBody s_law) (defScope s_law) .none kV33 dc33 pm33 an33 cd33 ct33), sl33⟩)
    (c33 : PySem.W.codeIn K cd33 "law" = true)
    (k33 : PySem.W.keepIn K (.ref f33) = true)
    (aK : PySem.W.nsIn K mainGlobals "Package" = some (some (.ref CK)))
    (pg : PySem.W.plainGet K CK Str.empty = true)
    (hd : PySem.W.hasDictIn K CK = true)
    (po : PySem.W.plainOver K CK = true)
    (saK : PySem.W.findIn K (.ref CK) "__setattr__" = some (some (.builtin "object.__setattr__")))
    (mkK : PySem.W.makesIn K CK = true)
    (kcK : PySem.W.keepIn K (.ref CK) = true)
    (nE : PySem.W.findIn K (.ref CK) "entries" = some none)
    (aL : PySem.W.findIn K (.ref CK) "LIMIT" = some (some (.int 40 tkL)))
    (gL : PySem.W.specialIn K (.int 40 tkL) "__get__" = some none)
    (aI : PySem.W.findIn K (.ref CK) "__init__" = some (some (.ref fI)))
    (iI : PySem.W.isFn K (.ref fI) = true)
    (lI : K.lookup fI = some ⟨ocI, odI, .func (PySem.W.fnOf "__init__" "Package.__init__" (defArgs s_init) (defBody s_init) (defScope s_init) (.ref TD) kVI dcI pmI anI cdI ctI), slI⟩)
    (cI : PySem.W.codeIn K cdI "Package.__init__" = true)
    (kI : PySem.W.keepIn K (.ref fI) = true)
    (lT : K.lookup TD = some ⟨ocT, odT, .seq #[.none] nT, slT⟩)
    (ap1 : PySem.W.findIn K (.ref CK) "files" = some (some (.ref p1)))
    (gp1 : PySem.W.specialIn K (.ref p1) "__get__" = some (some (.builtin "property.__get__")))
    (tp1 : PySem.W.takesIn K (.ref p1) = some true)
    (rp1 : PySem.W.recIn K p1 "property" = some (.ref g1 :: r1))
    (lp1 : K.lookup g1 = some ⟨ocp1, odp1, .func (PySem.W.fnOf "files" "Package.files" (defArgs s_files) (defBody s_files) (defScope s_files) .none kVp1 dcp1 pmp1 anp1 cdp1 ctp1), slp1⟩)
    (cp1 : PySem.W.codeIn K cdp1 "Package.files" = true)
    (kp1 : PySem.W.keepIn K (.ref g1) = true)
    (ap2 : PySem.W.findIn K (.ref CK) "folders" = some (some (.ref p2)))
    (gp2 : PySem.W.specialIn K (.ref p2) "__get__" = some (some (.builtin "property.__get__")))
    (tp2 : PySem.W.takesIn K (.ref p2) = some true)
    (rp2 : PySem.W.recIn K p2 "property" = some (.ref g2 :: r2))
    (lp2 : K.lookup g2 = some ⟨ocp2, odp2, .func (PySem.W.fnOf "folders" "Package.folders" (defArgs s_folders) (defBody s_folders) (defScope s_folders) .none kVp2 dcp2 pmp2 anp2 cdp2 ctp2), slp2⟩)
    (cp2 : PySem.W.codeIn K cdp2 "Package.folders" = true)
    (kp2 : PySem.W.keepIn K (.ref g2) = true)
    (ap3 : PySem.W.findIn K (.ref CK) "references" = some (some (.ref p3)))
    (gp3 : PySem.W.specialIn K (.ref p3) "__get__" = some (some (.builtin "property.__get__")))
    (tp3 : PySem.W.takesIn K (.ref p3) = some true)
    (rp3 : PySem.W.recIn K p3 "property" = some (.ref g3 :: r3))
    (lp3 : K.lookup g3 = some ⟨ocp3, odp3, .func (PySem.W.fnOf "references" "Package.references" (defArgs s_references) (defBody s_references) (defScope s_references) .none kVp3 dcp3 pmp3 anp3 cdp3 ctp3), slp3⟩)
    (cp3 : PySem.W.codeIn K cdp3 "Package.references" = true)
    (kp3 : PySem.W.keepIn K (.ref g3) = true)
    (ap4 : PySem.W.findIn K (.ref CK) "paths_of" = some (some (.ref g4)))
    (ip4 : PySem.W.isFn K (.ref g4) = true)
    (lp4 : K.lookup g4 = some ⟨ocp4, odp4, .func (PySem.W.fnOf "paths_of" "Package.paths_of" (defArgs s_paths_of) (defBody s_paths_of) (defScope s_paths_of) .none kVp4 dcp4 pmp4 anp4 cdp4 ctp4), slp4⟩)
    (cp4 : PySem.W.codeIn K cdp4 "Package.paths_of" = true)
    (kp4 : PySem.W.keepIn K (.ref g4) = true)
    (ap5 : PySem.W.findIn K (.ref CK) "items" = some (some (.ref g5)))
    (ip5 : PySem.W.isFn K (.ref g5) = true)
    (lp5 : K.lookup g5 = some ⟨ocp5, odp5, .func (PySem.W.fnOf "items" "Package.items" (defArgs s_items) (defBody s_items) (defScope s_items) .none kVp5 dcp5 pmp5 anp5 cdp5 ctp5), slp5⟩)
    (cp5 : PySem.W.codeIn K cdp5 "Package.items" = true)
    (kp5 : PySem.W.keepIn K (.ref g5) = true)
    (ap6 : PySem.W.findIn K (.ref CK) "changed" = some (some (.ref g6)))
    (ip6 : PySem.W.isFn K (.ref g6) = true)
    (lp6 : K.lookup g6 = some ⟨ocp6, odp6, .func (PySem.W.fnOf "changed" "Package.changed" (defArgs s_changed) (defBody s_changed) (defScope s_changed) .none kVp6 dcp6 pmp6 anp6 cdp6 ctp6), slp6⟩)
    (cp6 : PySem.W.codeIn K cdp6 "Package.changed" = true)
    (kp6 : PySem.W.keepIn K (.ref g6) = true)
    (ap7 : PySem.W.findIn K (.ref CK) "without" = some (some (.ref g7)))
    (ip7 : PySem.W.isFn K (.ref g7) = true)
    (lp7 : K.lookup g7 = some ⟨ocp7, odp7, .func (PySem.W.fnOf "without" "Package.without" (defArgs s_without) (defBody s_without) (defScope s_without) .none kVp7 dcp7 pmp7 anp7 cdp7 ctp7), slp7⟩)
    (cp7 : PySem.W.codeIn K cdp7 "Package.without" = true)
    (kp7 : PySem.W.keepIn K (.ref g7) = true)
    (ap8 : PySem.W.findIn K (.ref CK) "__contains__" = some (some (.ref g8)))
    (ip8 : PySem.W.isFn K (.ref g8) = true)
    (lp8 : K.lookup g8 = some ⟨ocp8, odp8, .func (PySem.W.fnOf "__contains__" "Package.__contains__" (defArgs s_contains) (defBody s_contains) (defScope s_contains) .none kVp8 dcp8 pmp8 anp8 cdp8 ctp8), slp8⟩)
    (cp8 : PySem.W.codeIn K cdp8 "Package.__contains__" = true)
    (kp8 : PySem.W.keepIn K (.ref g8) = true)
    (ap9 : PySem.W.findIn K (.ref CK) "__len__" = some (some (.ref g9)))
    (ip9 : PySem.W.isFn K (.ref g9) = true)
    (lp9 : K.lookup g9 = some ⟨ocp9, odp9, .func (PySem.W.fnOf "__len__" "Package.__len__" (defArgs s_len) (defBody s_len) (defScope s_len) .none kVp9 dcp9 pmp9 anp9 cdp9 ctp9), slp9⟩)
    (cp9 : PySem.W.codeIn K cdp9 "Package.__len__" = true)
    (kp9 : PySem.W.keepIn K (.ref g9) = true)
    (ap10 : PySem.W.findIn K (.ref CK) "__eq__" = some (some (.ref g10)))
    (ip10 : PySem.W.isFn K (.ref g10) = true)
    (lp10 : K.lookup g10 = some ⟨ocp10, odp10, .func (PySem.W.fnOf "__eq__" "Package.__eq__" (defArgs s_eq) (defBody s_eq) (defScope s_eq) .none kVp10 dcp10 pmp10 anp10 cdp10 ctp10), slp10⟩)
    (cp10 : PySem.W.codeIn K cdp10 "Package.__eq__" = true)
    (kp10 : PySem.W.keepIn K (.ref g10) = true)
    (ap11 : PySem.W.findIn K (.ref CK) "__repr__" = some (some (.ref g11)))
    (ip11 : PySem.W.isFn K (.ref g11) = true)
    (lp11 : K.lookup g11 = some ⟨ocp11, odp11, .func (PySem.W.fnOf "__repr__" "Package.__repr__" (defArgs s_repr) (defBody s_repr) (defScope s_repr) .none kVp11 dcp11 pmp11 anp11 cdp11 ctp11), slp11⟩)
    (cp11 : PySem.W.codeIn K cdp11 "Package.__repr__" = true)
    (kp11 : PySem.W.keepIn K (.ref g11) = true)
    (hnN : PySem.W.specialIn K (.builtin "object.__class__") "__get__" = some (some (.builtin "getset_descriptor.__get__")))
    (htN : PySem.W.takesIn K (.builtin "object.__class__") = some true)
    (haK : PySem.W.findIn K (.ref CK) "__class__" = some (some (.builtin "object.__class__")))
    (hmK : PySem.W.mroIn K CK (.type "object") = some true)
    (kP : PySem.W.kitOne K (.ref CP) (.type "ValueError") = some true)
    (kN : PySem.W.kitOne K (.ref CN) (.type "KeyError") = some true)
    (kQ : PySem.W.kitOne K (.ref CN) (.ref CQ) = some false)
    (sEP : PySem.W.subIn K (.ref CE) (.ref CP) = some false)
    (sNP : PySem.W.subIn K (.ref CN) (.ref CP) = some false)
    (sNE : PySem.W.subIn K (.ref CN) (.ref CE) = some false)
    (sMP : PySem.W.subIn K (.ref CM) (.ref CP) = some false)
    (sME : PySem.W.subIn K (.ref CM) (.ref CE) = some false)
    (sMN : PySem.W.subIn K (.ref CM) (.ref CN) = some false)
    (kKK : PySem.W.kitOne K (.ref CK) (.ref CK) = some true)
    (kLK : PySem.W.kitOne K (.type "list") (.ref CK) = some false)
    (sLK : PySem.W.subIn K (.type "list") (.ref CK) = some false)
    (rdK : PySem.W.readsIn K CK (.type "type") = true)
    (gaK : PySem.W.specialIn K (.ref CK) "__getattribute__" = some (some (.builtin "type.__getattribute__")))
    (vLK : PySem.W.findCls K (.ref CK) (.type "type") "LIMIT" = some (.val (.int 40 tkL)))
    (x0a : PySem.W.nsIn K mainGlobals "is_integer" = some (some (.ref x0f)))
    (x0l : K.lookup x0f = some ⟨x0oc, x0od, .func (PySem.W.fnOf "is_integer" "is_integer" (defArgs s_is_integer) (defBody s_is_integer) (defScope s_is_integer) .none x0kV x0dc x0pm x0an x0cd x0ct), x0sl⟩)
    (x0c : PySem.W.codeIn K x0cd "is_integer" = true)
    (x0k : PySem.W.keepIn K (.ref x0f) = true)
    (x1a : PySem.W.nsIn K mainGlobals "solid_entries" = some (some (.ref x1f)))
    (x1l : K.lookup x1f = some ⟨x1oc, x1od, .func (PySem.W.fnOf "solid_entries" "solid_entries" (defArgs s_solid_entries) (defBody s_solid_entries) (defScope s_solid_entries) .none x1kV x1dc x1pm x1an x1cd x1ct), x1sl⟩)
    (x1c : PySem.W.codeIn K x1cd "solid_entries" = true)
    (x1k : PySem.W.keepIn K (.ref x1f) = true)
    (x2a : PySem.W.nsIn K mainGlobals "names_within" = some (some (.ref x2f)))
    (x2l : K.lookup x2f = some ⟨x2oc, x2od, .func (PySem.W.fnOf "names_within" "names_within" (defArgs s_names_within) (defBody s_names_within) (defScope s_names_within) .none x2kV x2dc x2pm x2an x2cd x2ct), x2sl⟩)
    (x2c : PySem.W.codeIn K x2cd "names_within" = true)
    (x2k : PySem.W.keepIn K (.ref x2f) = true)
    (naS : PySem.W.findIn K (.ref CK) "solid" = some none)
    (naR : PySem.W.findIn K (.ref CK) "rooms" = some none)
    (naT : PySem.W.findIn K (.ref CK) "token" = some none)
    (naN : PySem.W.findIn K (.ref CK) "notes" = some none)
    (ta : PySem.W.nsIn K mainGlobals "Token" = some (some (.ref CTk)))
    (tm : PySem.W.makesIn K CTk = true)
    (ti : PySem.W.findIn K (.ref CTk) "__init__" = some (some (.builtin "object.__init__")))
    (tk : PySem.W.keepIn K (.ref CTk) = true)
    (na : PySem.W.nsIn K mainGlobals "Notebook" = some (some (.ref CNb)))
    (nm : PySem.W.makesIn K CNb = true)
    (ni : PySem.W.findIn K (.ref CNb) "__init__" = some (some (.ref fNb)))
    (nf : PySem.W.isFn K (.ref fNb) = true)
    (nk : PySem.W.keepIn K (.ref CNb) = true)
    (nl : K.lookup fNb = some ⟨ocNb, odNb, .func (PySem.W.fnOf "__init__" "Notebook.__init__" (defArgs s_ninit) (defBody s_ninit) (defScope s_ninit) .none kVNb dcNb pmNb anNb cdNb ctNb), slNb⟩)
    (nc : PySem.W.codeIn K cdNb "Notebook.__init__" = true)
    (nkf : PySem.W.keepIn K (.ref fNb) = true)
    (npg : PySem.W.plainGet K CNb Str.empty = true)
    (nhd : PySem.W.hasDictIn K CNb = true)
    (npo : PySem.W.plainOver K CNb = true)
    (nsa : PySem.W.findIn K (.ref CNb) "__setattr__" = some (some (.builtin "object.__setattr__")))
    (nrw : PySem.W.findIn K (.ref CNb) "rows" = some none) :
    ∃ fd : FuncData, (∀ (s : Shared) (u : Value), BindsTo s fd ⟨[u], []⟩ [("_law_script", u)]) ∧ ∀ base : Heap, K.In base → base.Ns mainGlobals mg → FnG P w K mg base CX0 14 fa fd ["_law_script"] (spLaw K) := by
  have e := hfa.symm.trans (PySem.W.mg_of X G a33)
  cases e
  have low0 : PySem.BadPathX.PathTxt K mg CP e0f :=
    { gC := PySem.W.mg_of X G e0a, cls := ⟨_, _, _, _, _, _, _, _, _, _, _, _, _, _, _, e0x, by decide +kernel⟩, sa := e0sa, ga := e0ga, gg := e0gg, noN := e0nb, iC := e0i, tC := e0t, kC := e0k, exC := e0e, tyC := e0ty, hdC := e0hd, te := exm_of e0e e0ic e0ty e0ss,
      fn := ⟨_, _, _, _, _, _, _, _, _, _, _, _, _, _, e0l, e0c⟩ }
  have exc0 : ExcC K CP := ⟨e0ga, e0gg, e0e, e0hd, e0ha, hnN, htN, e0hm⟩
  have low1 : PySem.BadEntryX.EntryTxt K mg CE e1f :=
    { gC := PySem.W.mg_of X G e1a, cls := ⟨_, _, _, _, _, _, _, _, _, _, _, _, _, _, _, e1x, by decide +kernel⟩, sa := e1sa, ga := e1ga, gg := e1gg, noN := e1nb, iC := e1i, tC := e1t, kC := e1k, exC := e1e, tyC := e1ty, hdC := e1hd, te := exm_of e1e e1ic e1ty e1ss,
      fn := ⟨_, _, _, _, _, _, _, _, _, _, _, _, _, _, e1l, e1c⟩ }
  have exc1 : ExcC K CE := ⟨e1ga, e1gg, e1e, e1hd, e1ha, hnN, htN, e1hm⟩
  have low2 : PySem.NoEntryX.NoEntryTxt K mg CN e2f :=
    { gC := PySem.W.mg_of X G e2a, cls := ⟨_, _, _, _, _, _, _, _, _, _, _, _, _, _, _, e2x, rfl⟩, sa := e2sa, ga := e2ga, gg := e2gg, noN := e2nb, iC := e2i, tC := e2t, kC := e2k, exC := e2e, tyC := e2ty, hdC := e2hd, te := exm_of e2e e2ic e2ty e2ss,
      fn := ⟨_, _, _, _, _, _, _, _, _, _, _, _, _, _, e2l, e2c⟩ }
  have exc2 : ExcC K CN := ⟨e2ga, e2gg, e2e, e2hd, e2ha, hnN, htN, e2hm⟩
  have low3 : PySem.TooManyX.ManyTxt K mg CM e3f :=
    { gC := PySem.W.mg_of X G e3a, cls := ⟨_, _, _, _, _, _, _, _, _, _, _, _, _, _, _, e3x, rfl⟩, sa := e3sa, ga := e3ga, gg := e3gg, noN := e3nb, iC := e3i, tC := e3t, kC := e3k, exC := e3e, tyC := e3ty, hdC := e3hd, te := exm_of e3e e3ic e3ty e3ss,
      fn := ⟨_, _, _, _, _, _, _, _, _, _, _, _, _, _, e3l, e3c⟩ }
  have exc3 : ExcC K CM := ⟨e3ga, e3gg, e3e, e3hd, e3ha, hnN, htN, e3hm⟩
  have T : Txt K mg tk2 tk2 := ⟨PySem.W.mg_of X G zI2, PySem.W.mg_none_of X G z_isinstance, PySem.W.mg_none_of X G z_str, PySem.W.mg_none_of X G z_len, PySem.W.mg_none_of X G z_all, PySem.W.mg_none_of X G z_any, PySem.W.mg_none_of X G z_tuple, PySem.W.mg_none_of X G z_list, PySem.W.mg_none_of X G z_dict, PySem.W.mg_none_of X G z_sorted, PySem.W.mg_none_of X G z_range, PySem.W.mg_none_of X G z_abs, PySem.W.mg_none_of X G z_int, PySem.W.mg_none_of X G z_bool, PySem.W.mg_none_of X G z_repr, PySem.W.mg_none_of X G z_max, PySem.W.mg_none_of X G z_set, PySem.W.mg_none_of X G z_min, PySem.W.mg_none_of X G z_ValueError, PySem.W.mg_none_of X G z_OverflowError⟩
  have NU : Nums K mg := ⟨⟨tk3, PySem.W.mg_of X G zI3⟩, ⟨tk4, PySem.W.mg_of X G zI4⟩, ⟨tk5, PySem.W.mg_of X G zI5⟩⟩
  have cl : Cls K CK := ⟨pg, hd, po, saK⟩
  have PT : PkTxt K mg CK := ⟨cl, nE, PySem.W.mg_of X G aK, ⟨tkL, aL, ⟨_, rfl⟩, gL, by decide +kernel⟩, naS, naR, naT, naN⟩
  have x0F := fun_mk (st := s_is_integer) x0l x0c x0k
  have x0b := x0F.binds (ps := ["thing"]) fun _ _ _ _ _ _ us hl => match us, hl with | [_], _ => rfl
  have x1F := fun_mk (st := s_solid_entries) x1l x1c x1k
  have x1b := x1F.binds (ps := ["entries"]) fun _ _ _ _ _ _ us hl => match us, hl with | [_], _ => rfl
  have x2F := fun_mk (st := s_names_within) x2l x2c x2k
  have x2b := x2F.binds (ps := ["entries"]) fun _ _ _ _ _ _ us hl => match us, hl with | [_], _ => rfl
  have FNb := fun_mk (st := s_ninit) nl nc nkf
  have bNb := FNb.binds (ps := ["self"]) fun _ _ _ _ _ _ us hl => match us, hl with | [_], _ => rfl
  have F1 := fun_mk (st := s_is_name) l1 c1 k1
  have b1 := F1.binds (ps := ["thing"]) fun _ _ _ _ _ _ us hl => match us, hl with | [_], _ => rfl
  have F2 := fun_mk (st := s_is_path) l2 c2 k2
  have b2 := F2.binds (ps := ["thing"]) fun _ _ _ _ _ _ us hl => match us, hl with | [_], _ => rfl
  have F3 := fun_mk (st := s_check_path) l3 c3 k3
  have b3 := F3.binds (ps := ["path"]) fun _ _ _ _ _ _ us hl => match us, hl with | [_], _ => rfl
  have F4 := fun_mk (st := s_in_order) l4 c4 k4
  have b4 := F4.binds (ps := ["paths"]) fun _ _ _ _ _ _ us hl => match us, hl with | [_], _ => rfl
  have F5 := fun_mk (st := s_split_path) l5 c5 k5
  have b5 := F5.binds (ps := ["path"]) fun _ _ _ _ _ _ us hl => match us, hl with | [_], _ => rfl
  have F6 := fun_mk (st := s_order_key) l6 c6 k6
  have b6 := F6.binds (ps := ["path"]) fun _ _ _ _ _ _ us hl => match us, hl with | [_], _ => rfl
  have F7 := fun_mk (st := s_beginnings) l7 c7 k7
  have b7 := F7.binds (ps := ["path"]) fun _ _ _ _ _ _ us hl => match us, hl with | [_], _ => rfl
  have F8 := fun_mk (st := s_is_below) l8 c8 k8
  have b8 := F8.binds (ps := ["path", "folder"]) fun _ _ _ _ _ _ us hl => match us, hl with | [_, _], _ => rfl
  have F9 := fun_mk (st := s_is_content) l9 c9 k9
  have b9 := F9.binds (ps := ["thing"]) fun _ _ _ _ _ _ us hl => match us, hl with | [_], _ => rfl
  have F10 := fun_mk (st := s_is_target) l10 c10 k10
  have b10 := F10.binds (ps := ["thing"]) fun _ _ _ _ _ _ us hl => match us, hl with | [_], _ => rfl
  have F11 := fun_mk (st := s_is_place) l11 c11 k11
  have b11 := F11.binds (ps := ["thing"]) fun _ _ _ _ _ _ us hl => match us, hl with | [_], _ => rfl
  have F12 := fun_mk (st := s_is_item) l12 c12 k12
  have b12 := F12.binds (ps := ["thing"]) fun _ _ _ _ _ _ us hl => match us, hl with | [_], _ => rfl
  have F13 := fun_mk (st := s_kind_of) l13 c13 k13
  have b13 := F13.binds (ps := ["item"]) fun _ _ _ _ _ _ us hl => match us, hl with | [_], _ => rfl
  have F14 := fun_mk (st := s_check_entries) l14 c14 k14
  have b14 := F14.binds (ps := ["entries"]) fun _ _ _ _ _ _ us hl => match us, hl with | [_], _ => rfl
  have F15 := fun_mk (st := s_lies_below_leaf) l15 c15 k15
  have b15 := F15.binds (ps := ["entries", "path"]) fun _ _ _ _ _ _ us hl => match us, hl with | [_, _], _ => rfl
  have F16 := fun_mk (st := s_with_parents) l16 c16 k16
  have b16 := F16.binds (ps := ["entries"]) fun _ _ _ _ _ _ us hl => match us, hl with | [_], _ => rfl
  have F17 := fun_mk (st := s_bag) l17 c17 k17
  have b17 := F17.binds (ps := ["_law_script", "_law_at"]) fun _ _ _ _ _ _ us hl => match us, hl with | [_, _], _ => rfl
  have F18 := fun_mk (st := s_take) l18 c18 k18
  have b18 := F18.binds (ps := ["_law_bag_here", "_law_many"]) fun _ _ _ _ _ _ us hl => match us, hl with | [_, _], _ => rfl
  have F19 := fun_mk (st := s_pick) l19 c19 k19
  have b19 := F19.binds (ps := ["_law_bag_here", "_law_some"]) fun _ _ _ _ _ _ us hl => match us, hl with | [_, _], _ => rfl
  have F20 := fun_mk (st := s__law_words) l20 c20 k20
  have b20 := F20.binds (ps := ["_law_bag_here", "_law_many"]) fun _ _ _ _ _ _ us hl => match us, hl with | [_, _], _ => rfl
  have F21 := fun_mk (st := s__law_joined) l21 c21 k21
  have b21 := F21.binds (ps := ["_law_bits"]) fun _ _ _ _ _ _ us hl => match us, hl with | [_], _ => rfl
  have F22 := fun_mk (st := s_lpath) l22 c22 k22
  have b22 := F22.binds (ps := ["_law_bag_here", "_law_letters", "_law_most"]) fun _ _ _ _ _ _ us hl => match us, hl with | [_, _, _], _ => rfl
  have F23 := fun_mk (st := s__law_entries) l23 c23 k23
  have b23 := F23.binds (ps := ["_law_bag_here", "_law_letters", "_law_many"]) fun _ _ _ _ _ _ us hl => match us, hl with | [_, _, _], _ => rfl
  have F24 := fun_mk (st := s__law_is_path) l24 c24 k24
  have b24 := F24.binds (ps := ["_law_thing"]) fun _ _ _ _ _ _ us hl => match us, hl with | [_], _ => rfl
  have F25 := fun_mk (st := s__law_ordered) l25 c25 k25
  have b25 := F25.binds (ps := ["_law_paths"]) fun _ _ _ _ _ _ us hl => match us, hl with | [_], _ => rfl
  have F26 := fun_mk (st := s__law_starts) l26 c26 k26
  have b26 := F26.binds (ps := ["_law_path_here"]) fun _ _ _ _ _ _ us hl => match us, hl with | [_], _ => rfl
  have F27 := fun_mk (st := s__law_full) l27 c27 k27
  have b27 := F27.binds (ps := ["_law_entries_here"]) fun _ _ _ _ _ _ us hl => match us, hl with | [_], _ => rfl
  have F28 := fun_mk (st := s__law_is_item) l28 c28 k28
  have b28 := F28.binds (ps := ["_law_item"]) fun _ _ _ _ _ _ us hl => match us, hl with | [_], _ => rfl
  have F29 := fun_mk (st := s__law_due) l29 c29 k29
  have b29 := F29.binds (ps := ["_law_full_here", "_law_deed_here"]) fun _ _ _ _ _ _ us hl => match us, hl with | [_, _], _ => rfl
  have F30 := fun_mk (st := s__law_told) l30 c30 k30
  have b30 := F30.binds (ps := ["_law_package", "_law_deed_here"]) fun _ _ _ _ _ _ us hl => match us, hl with | [_, _], _ => rfl
  have F31 := fun_mk (st := s__law_same) l31 c31 k31
  have b31 := F31.binds (ps := ["_law_package", "_law_full_here"]) fun _ _ _ _ _ _ us hl => match us, hl with | [_, _], _ => rfl
  have F32 := fun_mk (st := s__law_deed) l32 c32 k32
  have b32 := F32.binds (ps := ["_law_bag_here", "_law_full_here", "_law_letters"]) fun _ _ _ _ _ _ us hl => match us, hl with | [_, _, _], _ => rfl
  have F33 := fun_mk (st := s_law) l33 c33 k33
  have b33 := F33.binds (ps := ["_law_script"]) fun _ _ _ _ _ _ us hl => match us, hl with | [_], _ => rfl
  have Fp1 := fun_mk (st := s_files) lp1 cp1 kp1
  have bp1 := Fp1.binds (ps := ["self"]) fun _ _ _ _ _ _ us hl => match us, hl with | [_], _ => rfl
  have pp1 : PropOf K CK "files" p1 g1 := ⟨ap1, gp1, tp1, ⟨_, rp1⟩⟩
  have Fp2 := fun_mk (st := s_folders) lp2 cp2 kp2
  have bp2 := Fp2.binds (ps := ["self"]) fun _ _ _ _ _ _ us hl => match us, hl with | [_], _ => rfl
  have pp2 : PropOf K CK "folders" p2 g2 := ⟨ap2, gp2, tp2, ⟨_, rp2⟩⟩
  have Fp3 := fun_mk (st := s_references) lp3 cp3 kp3
  have bp3 := Fp3.binds (ps := ["self"]) fun _ _ _ _ _ _ us hl => match us, hl with | [_], _ => rfl
  have pp3 : PropOf K CK "references" p3 g3 := ⟨ap3, gp3, tp3, ⟨_, rp3⟩⟩
  have Fp4 := fun_mk (st := s_paths_of) lp4 cp4 kp4
  have bp4 := Fp4.binds (ps := ["self", "kind"]) fun _ _ _ _ _ _ us hl => match us, hl with | [_, _], _ => rfl
  have mp4 : Meth K CK "paths_of" g4 := ⟨ap4, ip4, kp4⟩
  have Fp5 := fun_mk (st := s_items) lp5 cp5 kp5
  have bp5 := Fp5.binds (ps := ["self"]) fun _ _ _ _ _ _ us hl => match us, hl with | [_], _ => rfl
  have mp5 : Meth K CK "items" g5 := ⟨ap5, ip5, kp5⟩
  have Fp6 := fun_mk (st := s_changed) lp6 cp6 kp6
  have bp6 := Fp6.binds (ps := ["self", "path", "item"]) fun _ _ _ _ _ _ us hl => match us, hl with | [_, _, _], _ => rfl
  have mp6 : Meth K CK "changed" g6 := ⟨ap6, ip6, kp6⟩
  have Fp7 := fun_mk (st := s_without) lp7 cp7 kp7
  have bp7 := Fp7.binds (ps := ["self", "path"]) fun _ _ _ _ _ _ us hl => match us, hl with | [_, _], _ => rfl
  have mp7 : Meth K CK "without" g7 := ⟨ap7, ip7, kp7⟩
  have Fp8 := fun_mk (st := s_contains) lp8 cp8 kp8
  have bp8 := Fp8.binds (ps := ["self", "thing"]) fun _ _ _ _ _ _ us hl => match us, hl with | [_, _], _ => rfl
  have mp8 : Meth K CK "__contains__" g8 := ⟨ap8, ip8, kp8⟩
  have Fp9 := fun_mk (st := s_len) lp9 cp9 kp9
  have bp9 := Fp9.binds (ps := ["self"]) fun _ _ _ _ _ _ us hl => match us, hl with | [_], _ => rfl
  have mp9 : Meth K CK "__len__" g9 := ⟨ap9, ip9, kp9⟩
  have Fp10 := fun_mk (st := s_eq) lp10 cp10 kp10
  have bp10 := Fp10.binds (ps := ["self", "other"]) fun _ _ _ _ _ _ us hl => match us, hl with | [_, _], _ => rfl
  have mp10 : Meth K CK "__eq__" g10 := ⟨ap10, ip10, kp10⟩
  have Fp11 := fun_mk (st := s_repr) lp11 cp11 kp11
  have bp11 := Fp11.binds (ps := ["self"]) fun _ _ _ _ _ _ us hl => match us, hl with | [_], _ => rfl
  have mp11 : Meth K CK "__repr__" g11 := ⟨ap11, ip11, kp11⟩
  have FI : FunD K "__init__" "Package.__init__" (defArgs s_init) (defBody s_init) (defScope s_init) [.non] [] fI _ :=
    ⟨⟨_, _, _, _, _, _, _, _, _, _, rfl, lI, cI, Or.inr ⟨by simp, TD, _, [.none], nT, rfl, lT, rfl, .cons rfl .nil⟩, Or.inl rfl⟩, kI⟩
  obtain ⟨ds2, hds2, bI2⟩ := FI.binds1 (ps := ["self", "entries"]) 2 1 (by simp) rfl (fun T kV doc pm an cdv ct us its h1 h2 => match us, its, h1, h2 with | [_, _], [_], _, _ => ⟨_, rfl, rfl⟩)
  cases hds2
  obtain ⟨ds, hds, bI⟩ := FI.binds1 (ps := ["self", "entries"]) 1 0 (by simp) rfl (fun T kV doc pm an cdv ct us its h1 h2 => match us, its, h1, h2 with | [_], [_], _, _ => ⟨_, rfl, rfl⟩)
  refine ⟨_, fun s u => .of_eq (fd := PySem.W.fnOf "law" "law" (defArgs s_law) (defBody s_law) (defScope s_law) .none kV33 dc33 pm33 an33 cd33 ct33) rfl, fun base _ _ => ?_⟩
  have d1 : DefAt P w K mg base "is_name" _ f1 _ _ _ := ⟨ok_is_name F1 T, PySem.W.mg_of X G a1, k1, b1⟩
  have d2 : DefAt P w K mg base "is_path" _ f2 _ _ _ := ⟨ok_is_path F2 T d1, PySem.W.mg_of X G a2, k2, b2⟩
  have d5 : DefAt P w K mg base "split_path" _ f5 _ _ _ := ⟨ok_split_path F5, PySem.W.mg_of X G a5, k5, b5⟩
  have d6 : DefAt P w K mg base "order_key" _ f6 _ _ _ := ⟨ok_order_key F6 T d5, PySem.W.mg_of X G a6, k6, b6⟩
  have d4 : DefAt P w K mg base "in_order" _ f4 _ _ _ := ⟨ok_in_order F4 T d6, PySem.W.mg_of X G a4, k4, b4⟩
  have d7 : DefAt P w K mg base "beginnings" _ f7 _ _ _ := ⟨ok_beginnings F7 T d5, PySem.W.mg_of X G a7, k7, b7⟩
  have d8 : DefAt P w K mg base "is_below" _ f8 _ _ _ := ⟨ok_below F8, PySem.W.mg_of X G a8, k8, b8⟩
  have dx0 : DefAt P w K mg base "is_integer" _ x0f _ _ _ := ⟨ok_is_integerX x0F T, PySem.W.mg_of X G x0a, x0k, x0b⟩
  have d9 : DefAt P w K mg base "is_content" _ f9 _ _ _ := ⟨ok_is_contentX F9 T NU dx0, PySem.W.mg_of X G a9, k9, b9⟩
  have d10 : DefAt P w K mg base "is_target" _ f10 _ _ _ := ⟨ok_is_targetX F10 T NU d2 d5, PySem.W.mg_of X G a10, k10, b10⟩
  have d11 : DefAt P w K mg base "is_place" _ f11 _ _ _ := ⟨ok_is_place F11 T NU d2 d5, PySem.W.mg_of X G a11, k11, b11⟩
  have d12 : DefAt P w K mg base "is_item" _ f12 _ _ _ := ⟨ok_is_itemX F12 d9 d10, PySem.W.mg_of X G a12, k12, b12⟩
  have d13 : DefAt P w K mg base "kind_of" _ f13 _ _ _ := ⟨ok_kind_of F13 T, PySem.W.mg_of X G a13, k13, b13⟩
  have d15 : DefAt P w K mg base "lies_below_leaf" _ f15 _ _ _ := ⟨ok_liesX F15 T.n_any d7, PySem.W.mg_of X G a15, k15, b15⟩
  have d16 : DefAt P w K mg base "with_parents" _ f16 _ _ _ := ⟨ok_with_parents F16 T d4 d7, PySem.W.mg_of X G a16, k16, b16⟩
  have CX := ok_check_pathX (P := P) (w := w) (mg := mg) (base := base) F3 low0 d2
  have FC := ok_check_entriesX (P := P) (w := w) (mg := mg) (base := base) F14 T low1 d4 d11 d12 d15
  have MI : Mk K CK fI := ⟨mkK, aI, iI, kcK⟩
  have dx1 : DefAt P w K mg base "solid_entries" _ x1f _ _ _ := ⟨ok_solid x1F T d7, PySem.W.mg_of X G x1a, x1k, x1b⟩
  have dx2 : DefAt P w K mg base "names_within" _ x2f _ _ _ := ⟨ok_within x2F T, PySem.W.mg_of X G x2a, x2k, x2b⟩
  have TTk : TokTxt K mg CTk := ⟨⟨tm, ti, tk⟩, PySem.W.mg_of X G ta⟩
  have NTb : NoteTxt P w K mg base CNb fNb _ := ⟨⟨nm, ni, nf, nk⟩, PySem.W.mg_of X G na, ok_ninit FNb ⟨npg, nhd, npo, nsa⟩ nrw, bNb⟩
  have OI := ok_initX (P := P) (w := w) (mg := mg) (base := base) FI T PT low3 FC (PySem.W.mg_of X G a14) k14 b14 d16 dx1 dx2 TTk NTb
  have PI : PkIs K CK := ⟨cl, haK, hnN, htN, hmK, kKK, kLK⟩
  have O7 := ok_paths_of (P := P) (w := w) (mg := mg) (base := base) Fp4 PT d13
  have O_files := ok_files (P := P) (w := w) (mg := mg) (base := base) Fp1 PT mp4 O7 bp4
  have O_folders := ok_folders (P := P) (w := w) (mg := mg) (base := base) Fp2 PT mp4 O7 bp4
  have O_references := ok_references (P := P) (w := w) (mg := mg) (base := base) Fp3 PT mp4 O7 bp4
  have PR : Props P w K mg base CK p1 p2 p3 g1 g2 g3 _ _ _ := ⟨pp1, O_files, bp1, pp2, O_folders, bp2, pp3, O_references, bp3⟩
  have OG := ok_items (P := P) (w := w) (mg := mg) (base := base) Fp5 PT
  have OL := ok_len (P := P) (w := w) (mg := mg) (base := base) Fp9 T PT
  have OE := ok_eq (P := P) (w := w) (mg := mg) (base := base) Fp10 T PT PI
  have OR := ok_repr (P := P) (w := w) (mg := mg) (base := base) Fp11 T PT PR
  have OC2 := ok_contains (P := P) (w := w) (mg := mg) (base := base) Fp8 T PT
  have OC3 := ok_contains3 (P := P) (w := w) (mg := mg) (base := base) Fp8 T PT
  have OCh := ok_changed (P := P) (w := w) (mg := mg) (base := base) Fp6 T PT CX (PySem.W.mg_of X G a3) k3 b3 MI OI bI2
  have OW := ok_without (P := P) (w := w) (mg := mg) (base := base) Fp7 T PT CX (PySem.W.mg_of X G a3) k3 b3 low2 OC2 bp8 ap8 ip8 d8 MI OI bI2
  have GC : Chg P w K mg base CK CP CE CM CN g6 g7 _ _ := ⟨cl, mp6, OCh, bp6, mp7, OW, bp7⟩
  have RE : Errs K mg CP e0f CE e1f CN e2f CM e3f CQ := ⟨low0, low1, low2, low3, exc0, exc2, PySem.W.mg_of X G oCQ, PySem.W.mg_none_of X G z_ValueError, PySem.W.mg_none_of X G z_KeyError, kP, kN, kQ, exm_of e0e e0ic e0ty sEP, exm_of e0e e0ic e0ty sNP, exm_of e1e e1ic e1ty sNE, exm_of e0e e0ic e0ty sMP, exm_of e1e e1ic e1ty sME, exm_of e2e e2ic e2ty sMN⟩
  have GA : PkAll P w K mg base CK CE CM p1 p2 p3 g1 g2 g3 g5 g9 g10 g11 g8 fI _ _ _ _ _ _ _ _ _ := ⟨PySem.W.mg_of X G aK, cl, PR, mp5, OG, bp5, OL, bp9, ap9, ip9, OE, bp10, ap10, ip10, OR, bp11, ap11, ip11, OC3, bp8, ap8, ip8, MI, OI, bI2⟩
  have d17 : DefAt P w K mg base "_law_bag" _ f17 _ _ _ := ⟨ok_bag F17 T, PySem.W.mg_of X G a17, k17, b17⟩
  have d18 : DefAt P w K mg base "_law_take" _ f18 _ _ _ := ⟨ok_take F18 T, PySem.W.mg_of X G a18, k18, b18⟩
  have d19 : DefAt P w K mg base "_law_pick" _ f19 _ _ _ := ⟨ok_pick F19 T d18, PySem.W.mg_of X G a19, k19, b19⟩
  have d20 : DefAt P w K mg base "_law_words" _ f20 _ _ _ := ⟨ok_words F20 T d18 d19, PySem.W.mg_of X G a20, k20, b20⟩
  have d21 : DefAt P w K mg base "_law_joined" _ f21 _ _ _ := ⟨ok_joined F21, PySem.W.mg_of X G a21, k21, b21⟩
  have d22 : DefAt P w K mg base "_law_path" _ f22 _ _ _ := ⟨ok_lpath F22 T d18 d19, PySem.W.mg_of X G a22, k22, b22⟩
  have d23 : DefAt P w K mg base "_law_entries" _ f23 _ _ _ := ⟨ok_entries F23 T d18 d19 d22 d21, PySem.W.mg_of X G a23, k23, b23⟩
  have d24 : DefAt P w K mg base "_law_is_path" _ f24 _ _ _ := ⟨ok_ask F24 T, PySem.W.mg_of X G a24, k24, b24⟩
  have d25 : DefAt P w K mg base "_law_ordered" _ f25 _ _ _ := ⟨ok_ordered F25 T, PySem.W.mg_of X G a25, k25, b25⟩
  have d26 : DefAt P w K mg base "_law_starts" _ f26 _ _ _ := ⟨ok_starts F26 T, PySem.W.mg_of X G a26, k26, b26⟩
  have d27 : DefAt P w K mg base "_law_full" _ f27 _ _ _ := ⟨ok_full F27 T d26 d25, PySem.W.mg_of X G a27, k27, b27⟩
  have d28 : DefAt P w K mg base "_law_is_item" _ f28 _ _ _ := ⟨ok_litem F28 T d24, PySem.W.mg_of X G a28, k28, b28⟩
  have d29 : DefAt P w K mg base "_law_due" _ f29 _ _ _ := ⟨ok_due F29 T d24 d25 d26 d27 d28, PySem.W.mg_of X G a29, k29, b29⟩
  have d30 : DefAt P w K mg base "_law_told" _ f30 _ _ _ := ⟨ok_told F30 T RE GC, PySem.W.mg_of X G a30, k30, b30⟩
  have dPL : DefAt P w K mg base "_law_path" _ f22 _ _ _ := ⟨ok_lpathL F22 T d18 d19, PySem.W.mg_of X G a22, k22, b22⟩
  have d32 : DefAt P w K mg base "_law_deed" _ f32 _ _ _ := ⟨ok_deed F32 T d18 d19 dPL d21, PySem.W.mg_of X G a32, k32, b32⟩
  have FS := ok_same (P := P) (w := w) (mg := mg) (base := base) F31 T d25 GA
  exact ok_law F33 T d17 d20 d23 d27 d32 d29 d30 FS (PySem.W.mg_of X G a31) k31 b31 GA bI hds ⟨rdK, gaK⟩ ⟨vLK, ⟨_, rfl⟩⟩ sLK
theorem walk {l : PySem.W.OpenLaw} {q : Program} {loose : List Str} {XP : (Str → Option Value) → Heap → Prop} {YP : World → Heap → Prop} {d : DefRec} {K : Params → PySem.W.Frag} (hn : l.most = some 63) (hdf : d.params.defaults = [])
    (hY : ∀ (w : World) (h : Heap), YP w h → (K w.params).In h)
    (F : ∀ (w : World) (mg : Str → Option Value) (fa : Addr) (h : Heap), (K w.params).In h → h.Ns mainGlobals mg → mg d.name = some (.ref fa) →
      ∃ fd : FuncData, (∀ (s : Shared) (u : Value), BindsTo s fd ⟨[u], []⟩ [("_law_script", u)]) ∧ ∀ base : Heap, (K w.params).In base → base.Ns mainGlobals mg → FnG l.prog w (K w.params) mg base CX0 14 fa fd ["_law_script"] (spLaw (K w.params))) :
    PySem.W.WalkO q loose XP YP l.row.toRowW d [] (fun f vs => PySem.call f vs) :=
  walkG (n := 63) (k := 14) (x := "_law_script") (sp := spLaw) hn (by decide) hdf ⟨rfl, by decide, by decide⟩ hY F (fun K H a ns hl hS => ⟨a, ns, rfl, hS, hl, fun _ => rfl⟩)
end K5

open PySem PySem.W PyProof.Rows in
set_option maxRecDepth 100000 in
set_option maxHeartbeats 0 in
theorem PySem.Challenge.cw_linkfarms_k05_packages_changed_holds : PySem.Challenge.rw_linkfarms_k05_packages_changed.Holds := by
  w_on; o_law; k_head; (case hw => w_witness2)
  k_fill
  refine K5.walk (l := PySem.Challenge.rw_linkfarms_k05_packages_changed) rfl rfl (fun w h Y => PySem.W.kIn_of Y) ?F
  case F =>
    intro w mg fa h KX G hmg
    refine' K5.all_mk KX G hmg ?e0a ?e0x ?e0sa ?e0ga ?e0gg ?e0nb ?e0i ?e0t ?e0l ?e0c ?e0k ?e0e ?e0ty ?e0hd ?e0ic ?e0ss ?e0ha ?e0hm ?e1a ?e1x ?e1sa ?e1ga ?e1gg ?e1nb ?e1i ?e1t ?e1l ?e1c ?e1k ?e1e ?e1ty ?e1hd ?e1ic ?e1ss ?e1ha ?e1hm ?e2a ?e2x ?e2sa ?e2ga ?e2gg ?e2nb ?e2i ?e2t ?e2l ?e2c ?e2k ?e2e ?e2ty ?e2hd ?e2ic ?e2ss ?e2ha ?e2hm ?e3a ?e3x ?e3sa ?e3ga ?e3gg ?e3nb ?e3i ?e3t ?e3l ?e3c ?e3k ?e3e ?e3ty ?e3hd ?e3ic ?e3ss ?e3ha ?e3hm ?oCQ ?zI2 ?zI3 ?zI4 ?zI5 ?z_isinstance ?z_str ?z_len ?z_all ?z_any ?z_tuple ?z_list ?z_dict ?z_sorted ?z_range ?z_abs ?z_int ?z_bool ?z_repr ?z_max ?z_set ?z_min ?z_ValueError ?z_OverflowError ?z_KeyError ?a1 ?l1 ?c1 ?k1 ?a2 ?l2 ?c2 ?k2 ?a3 ?l3 ?c3 ?k3 ?a4 ?l4 ?c4 ?k4 ?a5 ?l5 ?c5 ?k5 ?a6 ?l6 ?c6 ?k6 ?a7 ?l7 ?c7 ?k7 ?a8 ?l8 ?c8 ?k8 ?a9 ?l9 ?c9 ?k9 ?a10 ?l10 ?c10 ?k10 ?a11 ?l11 ?c11 ?k11 ?a12 ?l12 ?c12 ?k12 ?a13 ?l13 ?c13 ?k13 ?a14 ?l14 ?c14 ?k14 ?a15 ?l15 ?c15 ?k15 ?a16 ?l16 ?c16 ?k16 ?a17 ?l17 ?c17 ?k17 ?a18 ?l18 ?c18 ?k18 ?a19 ?l19 ?c19 ?k19 ?a20 ?l20 ?c20 ?k20 ?a21 ?l21 ?c21 ?k21 ?a22 ?l22 ?c22 ?k22 ?a23 ?l23 ?c23 ?k23 ?a24 ?l24 ?c24 ?k24 ?a25 ?l25 ?c25 ?k25 ?a26 ?l26 ?c26 ?k26 ?a27 ?l27 ?c27 ?k27 ?a28 ?l28 ?c28 ?k28 ?a29 ?l29 ?c29 ?k29 ?a30 ?l30 ?c30 ?k30 ?a31 ?l31 ?c31 ?k31 ?a32 ?l32 ?c32 ?k32 ?a33 ?l33 ?c33 ?k33 ?aK ?pg ?hd ?po ?saK ?mkK ?kcK ?nE ?aL ?gL ?aI ?iI ?lI ?cI ?kI ?lT ?ap1 ?gp1 ?tp1 ?rp1 ?lp1 ?cp1 ?kp1 ?ap2 ?gp2 ?tp2 ?rp2 ?lp2 ?cp2 ?kp2 ?ap3 ?gp3 ?tp3 ?rp3 ?lp3 ?cp3 ?kp3 ?ap4 ?ip4 ?lp4 ?cp4 ?kp4 ?ap5 ?ip5 ?lp5 ?cp5 ?kp5 ?ap6 ?ip6 ?lp6 ?cp6 ?kp6 ?ap7 ?ip7 ?lp7 ?cp7 ?kp7 ?ap8 ?ip8 ?lp8 ?cp8 ?kp8 ?ap9 ?ip9 ?lp9 ?cp9 ?kp9 ?ap10 ?ip10 ?lp10 ?cp10 ?kp10 ?ap11 ?ip11 ?lp11 ?cp11 ?kp11 ?hnN ?htN ?haK ?hmK ?kP ?kN ?kQ ?sEP ?sNP ?sNE ?sMP ?sME ?sMN ?kKK ?kLK ?sLK ?rdK ?gaK ?vLK ?x0a ?x0l ?x0c ?x0k ?x1a ?x1l ?x1c ?x1k ?x2a ?x2l ?x2c ?x2k ?naS ?naR ?naT ?naN ?ta ?tm ?ti ?tk ?na ?nm ?ni ?nf ?nk ?nl ?nc ?nkf ?npg ?nhd ?npo ?nsa ?nrw
    (case e0a => k_is)
    (case e0x => k_is)
    (case e0sa => k_is)
    (case e0ga => k_is)
    (case e0gg => k_is)
    (case e0nb => k_is)
    (case e0i => k_is)
    (case e0t => k_is)
    (case e0l => k_is)
    (case e0c => k_is)
    (case e0k => k_is)
    (case e0e => k_is)
    (case e0ty => k_is)
    (case e0hd => k_is)
    (case e0ic => k_is)
    (case e0ss => first | rfl | k_is)
    (case e0ha => k_is)
    (case e0hm => k_is)
    (case e1a => k_is)
    (case e1x => k_is)
    (case e1sa => k_is)
    (case e1ga => k_is)
    (case e1gg => k_is)
    (case e1nb => k_is)
    (case e1i => k_is)
    (case e1t => k_is)
    (case e1l => k_is)
    (case e1c => k_is)
    (case e1k => k_is)
    (case e1e => k_is)
    (case e1ty => k_is)
    (case e1hd => k_is)
    (case e1ic => k_is)
    (case e1ss => first | rfl | k_is)
    (case e1ha => k_is)
    (case e1hm => k_is)
    (case e2a => k_is)
    (case e2x => k_is)
    (case e2sa => k_is)
    (case e2ga => k_is)
    (case e2gg => k_is)
    (case e2nb => k_is)
    (case e2i => k_is)
    (case e2t => k_is)
    (case e2l => k_is)
    (case e2c => k_is)
    (case e2k => k_is)
    (case e2e => k_is)
    (case e2ty => k_is)
    (case e2hd => k_is)
    (case e2ic => k_is)
    (case e2ss => first | rfl | k_is)
    (case e2ha => k_is)
    (case e2hm => k_is)
    (case e3a => k_is)
    (case e3x => k_is)
    (case e3sa => k_is)
    (case e3ga => k_is)
    (case e3gg => k_is)
    (case e3nb => k_is)
    (case e3i => k_is)
    (case e3t => k_is)
    (case e3l => k_is)
    (case e3c => k_is)
    (case e3k => k_is)
    (case e3e => k_is)
    (case e3ty => k_is)
    (case e3hd => k_is)
    (case e3ic => k_is)
    (case e3ss => first | rfl | k_is)
    (case e3ha => k_is)
    (case e3hm => k_is)
    (case oCQ => k_is)
    (case zI2 => k_is)
    (case zI3 => k_is)
    (case zI4 => k_is)
    (case zI5 => k_is)
    (case z_isinstance => k_is)
    (case z_str => k_is)
    (case z_len => k_is)
    (case z_all => k_is)
    (case z_any => k_is)
    (case z_tuple => k_is)
    (case z_list => k_is)
    (case z_dict => k_is)
    (case z_sorted => k_is)
    (case z_range => k_is)
    (case z_abs => k_is)
    (case z_int => k_is)
    (case z_bool => k_is)
    (case z_repr => k_is)
    (case z_max => k_is)
    (case z_set => k_is)
    (case z_min => k_is)
    (case z_ValueError => k_is)
    (case z_OverflowError => k_is)
    (case z_KeyError => k_is)
    (case a1 => k_is)
    (case l1 => k_is)
    (case c1 => k_is)
    (case k1 => k_is)
    (case a2 => k_is)
    (case l2 => k_is)
    (case c2 => k_is)
    (case k2 => k_is)
    (case a3 => k_is)
    (case l3 => k_is)
    (case c3 => k_is)
    (case k3 => k_is)
    (case a4 => k_is)
    (case l4 => k_is)
    (case c4 => k_is)
    (case k4 => k_is)
    (case a5 => k_is)
    (case l5 => k_is)
    (case c5 => k_is)
    (case k5 => k_is)
    (case a6 => k_is)
    (case l6 => k_is)
    (case c6 => k_is)
    (case k6 => k_is)
    (case a7 => k_is)
    (case l7 => k_is)
    (case c7 => k_is)
    (case k7 => k_is)
    (case a8 => k_is)
    (case l8 => k_is)
    (case c8 => k_is)
    (case k8 => k_is)
    (case a9 => k_is)
    (case l9 => k_is)
    (case c9 => k_is)
    (case k9 => k_is)
    (case a10 => k_is)
    (case l10 => k_is)
    (case c10 => k_is)
    (case k10 => k_is)
    (case a11 => k_is)
    (case l11 => k_is)
    (case c11 => k_is)
    (case k11 => k_is)
    (case a12 => k_is)
    (case l12 => k_is)
    (case c12 => k_is)
    (case k12 => k_is)
    (case a13 => k_is)
    (case l13 => k_is)
    (case c13 => k_is)
    (case k13 => k_is)
    (case a14 => k_is)
    (case l14 => k_is)
    (case c14 => k_is)
    (case k14 => k_is)
    (case a15 => k_is)
    (case l15 => k_is)
    (case c15 => k_is)
    (case k15 => k_is)
    (case a16 => k_is)
    (case l16 => k_is)
    (case c16 => k_is)
    (case k16 => k_is)
    (case a17 => k_is)
    (case l17 => k_is)
    (case c17 => k_is)
    (case k17 => k_is)
    (case a18 => k_is)
    (case l18 => k_is)
    (case c18 => k_is)
    (case k18 => k_is)
    (case a19 => k_is)
    (case l19 => k_is)
    (case c19 => k_is)
    (case k19 => k_is)
    (case a20 => k_is)
    (case l20 => k_is)
    (case c20 => k_is)
    (case k20 => k_is)
    (case a21 => k_is)
    (case l21 => k_is)
    (case c21 => k_is)
    (case k21 => k_is)
    (case a22 => k_is)
    (case l22 => k_is)
    (case c22 => k_is)
    (case k22 => k_is)
    (case a23 => k_is)
    (case l23 => k_is)
    (case c23 => k_is)
    (case k23 => k_is)
    (case a24 => k_is)
    (case l24 => k_is)
    (case c24 => k_is)
    (case k24 => k_is)
    (case a25 => k_is)
    (case l25 => k_is)
    (case c25 => k_is)
    (case k25 => k_is)
    (case a26 => k_is)
    (case l26 => k_is)
    (case c26 => k_is)
    (case k26 => k_is)
    (case a27 => k_is)
    (case l27 => k_is)
    (case c27 => k_is)
    (case k27 => k_is)
    (case a28 => k_is)
    (case l28 => k_is)
    (case c28 => k_is)
    (case k28 => k_is)
    (case a29 => k_is)
    (case l29 => k_is)
    (case c29 => k_is)
    (case k29 => k_is)
    (case a30 => k_is)
    (case l30 => k_is)
    (case c30 => k_is)
    (case k30 => k_is)
    (case a31 => k_is)
    (case l31 => k_is)
    (case c31 => k_is)
    (case k31 => k_is)
    (case a32 => k_is)
    (case l32 => k_is)
    (case c32 => k_is)
    (case k32 => k_is)
    (case a33 => k_is)
    (case l33 => k_is)
    (case c33 => k_is)
    (case k33 => k_is)
    (case aK => k_is)
    (case pg => k_is)
    (case hd => k_is)
    (case po => k_is)
    (case saK => k_is)
    (case mkK => k_is)
    (case kcK => k_is)
    (case nE => k_is)
    (case aL => k_is)
    (case gL => first | k_is | rfl)
    (case aI => k_is)
    (case iI => k_is)
    (case lI => k_is)
    (case cI => k_is)
    (case kI => k_is)
    (case lT => k_is)
    (case ap1 => k_is)
    (case gp1 => k_is)
    (case tp1 => k_is)
    (case rp1 => k_is)
    (case lp1 => k_is)
    (case cp1 => k_is)
    (case kp1 => k_is)
    (case ap2 => k_is)
    (case gp2 => k_is)
    (case tp2 => k_is)
    (case rp2 => k_is)
    (case lp2 => k_is)
    (case cp2 => k_is)
    (case kp2 => k_is)
    (case ap3 => k_is)
    (case gp3 => k_is)
    (case tp3 => k_is)
    (case rp3 => k_is)
    (case lp3 => k_is)
    (case cp3 => k_is)
    (case kp3 => k_is)
    (case ap4 => k_is)
    (case ip4 => k_is)
    (case lp4 => k_is)
    (case cp4 => k_is)
    (case kp4 => k_is)
    (case ap5 => k_is)
    (case ip5 => k_is)
    (case lp5 => k_is)
    (case cp5 => k_is)
    (case kp5 => k_is)
    (case ap6 => k_is)
    (case ip6 => k_is)
    (case lp6 => k_is)
    (case cp6 => k_is)
    (case kp6 => k_is)
    (case ap7 => k_is)
    (case ip7 => k_is)
    (case lp7 => k_is)
    (case cp7 => k_is)
    (case kp7 => k_is)
    (case ap8 => k_is)
    (case ip8 => k_is)
    (case lp8 => k_is)
    (case cp8 => k_is)
    (case kp8 => k_is)
    (case ap9 => k_is)
    (case ip9 => k_is)
    (case lp9 => k_is)
    (case cp9 => k_is)
    (case kp9 => k_is)
    (case ap10 => k_is)
    (case ip10 => k_is)
    (case lp10 => k_is)
    (case cp10 => k_is)
    (case kp10 => k_is)
    (case ap11 => k_is)
    (case ip11 => k_is)
    (case lp11 => k_is)
    (case cp11 => k_is)
    (case kp11 => k_is)
    (case hnN => k_is)
    (case htN => k_is)
    (case haK => k_is)
    (case hmK => k_is)
    (case kP => first | rfl | k_is)
    (case kN => first | rfl | k_is)
    (case kQ => first | rfl | k_is)
    (case sEP => first | rfl | k_is)
    (case sNP => first | rfl | k_is)
    (case sNE => first | rfl | k_is)
    (case sMP => first | rfl | k_is)
    (case sME => first | rfl | k_is)
    (case sMN => first | rfl | k_is)
    (case kKK => first | rfl | k_is)
    (case kLK => first | rfl | k_is)
    (case sLK => first | rfl | k_is)
    (case rdK => first | rfl | k_is)
    (case gaK => first | rfl | k_is)
    (case vLK => first | rfl | k_is)
    (case x0a => k_is)
    (case x0l => k_is)
    (case x0c => k_is)
    (case x0k => k_is)
    (case x1a => k_is)
    (case x1l => k_is)
    (case x1c => k_is)
    (case x1k => k_is)
    (case x2a => k_is)
    (case x2l => k_is)
    (case x2c => k_is)
    (case x2k => k_is)
    (case naS => k_is)
    (case naR => k_is)
    (case naT => k_is)
    (case naN => k_is)
    (case ta => k_is)
    (case tm => k_is)
    (case ti => k_is)
    (case tk => k_is)
    (case na => k_is)
    (case nm => k_is)
    (case ni => k_is)
    (case nf => k_is)
    (case nk => k_is)
    (case nl => k_is)
    (case nc => k_is)
    (case nkf => k_is)
    (case npg => k_is)
    (case nhd => k_is)
    (case npo => k_is)
    (case nsa => k_is)
    (case nrw => k_is)
#print axioms PySem.Challenge.cw_linkfarms_k05_packages_changed_holds

