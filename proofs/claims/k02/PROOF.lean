import PyProof.Rows.All
import Wide.All
import OpenK.AllK
import Wide.FinOn
import HandS.ForMost
import HandS.CallLocal
import HandS.IsInst
import HandS.Lambda
import HandS.Nested
import HandS.EndTab
import HandS.Rev
import HandS.RevTup
import HandS.Conv
import HandS.More
import KE.KRevIter
import PyProof.ListNew
import PyProof.ListStr
import HandS.SetKeys
import HandS.Small
import HandS.SortInts
import HandS.Evl
import HandS.TupLe
import PySem.Challenge.RW_unsewn_k02_whole_gates_and_pieces
set_option Elab.async false
set_option linter.all false
set_option maxRecDepth 100000
set_option maxHeartbeats 4000000
/-! A lambda with parameters that is handed to a def of the text and called there: its object and its cells stand in a larger base. -/
namespace Clo
open PySem PySem.Spec PyProof.Rows L2 LamX NdefX

/-- what nobody tracks and no running frame owns -/
def still (h : Heap) (H : Hp) (fs : List Addr) : Heap := PySem.W.hideAll h (trk h H ++ fs)
theorem still_of {h : Heap} {H : Hp} {fs : List Addr} {b : Addr} {o : Obj} (e : (still h H fs).get? b = some o) : h.get? b = some o ∧ H b = none := by
  have e' : h.get? b = some o := PySem.W.of_hideAll _ e
  refine ⟨e', ?_⟩
  cases q : H b with
  | none => rfl
  | some x =>
    exfalso
    have hm : b ∈ trk h H ++ fs := by
      refine List.mem_append_left _ (List.mem_filter.mpr ⟨List.mem_range.mpr (Heap.lt_size e'), ?_⟩)
      rw [q]
      rfl
    have z : (still h H fs).get? b = none := PySem.W.hideAll_none _ hm
    rw [z] at e
    cases e
theorem still_get {h : Heap} {H : Hp} {fs : List Addr} {b : Addr} {o : Obj} (e : h.get? b = some o) (n : H b = none) (nf : b ∉ fs) : (still h H fs).get? b = some o := by
  refine PySem.W.hideAll_get _ e fun hm => ?_
  rcases List.mem_append.mp hm with z | z
  · have q : (H b).isSome = true := (List.mem_filter.mp z).2
    rw [n] at q
    cases q
  · exact nf z
section
variable {X : Cx} {pins : List (Addr × Obj)} {σ : L2.St} {H : Hp} {s : Shared}
theorem base_still (I : Inv X pins σ H s) : ∀ b o, X.base.get? b = some o → (still s.heap H (frs X.stack)).get? b = some o := fun b o e => by
  obtain ⟨h1, h2⟩ := I.bs b o e
  refine still_get h1 h2 fun hm => ?_
  obtain ⟨hn, _⟩ := I.stack.mem hm
  rw [e] at hn
  cases hn
theorem mem_frs {l : List Env} {env : Env} {a : Addr} (h : env ∈ l) (e : env.frame = some a) : a ∈ frs l := List.mem_filterMap.mpr ⟨env, h, e⟩
theorem env_still (I : Inv X pins σ H s) : Env0 X.prog X.w X.K X.mg (still s.heap H (frs X.stack)) X.A X.stack s H := by
  have b0 := base_still I
  have e0 := I.env0
  refine ⟨e0.frames, ⟨I.ok.mod.kin.keeps b0, I.ok.mod.glob.keeps b0, ?_, I.ok.mod.nolimit.keeps b0⟩, fun b o e => still_of e, Nat.le_of_eq (PySem.W.hideAll_size _ _), ?_, e0.frf, e0.hok, e0.bare⟩
  · obtain ⟨mb, h1, h2⟩ := I.ok.mod.blt
    exact ⟨mb, h1.keeps b0, h2⟩
  · exact PySem.W.funFrames_hide e0.funs fun env he a ea => List.mem_append_right _ (mem_frs he ea)
end
/-- a lambda and what its cells hold, in the base -/
structure IsClo (base : Heap) (f c' : Addr) (q : Str) (params : Arguments) (body : Expr) (scope : Scope) (cl : List (Str × Addr)) (fr : List Str) (ws : List V) : Prop where
  obj : ∃ pm ctv, base.get? f = some (PySem.W.kla_obj "<lambda>" q params body scope cl pm c' ctv)
  len : ws.length = fr.length
  inj : ∀ x y c, cl.lookup x = some c → cl.lookup y = some c → x = y
  all : ∀ y c, cl.lookup y = some c → ∃ v, base.IsCell c v
  has : ∀ (i : Nat) (y : Str) (v : V), fr[i]? = some y → ws[i]? = some v → ∃ c u, cl.lookup y = some c ∧ RelV v u ∧ base.IsCell c (some u)
section
variable {Z : Cx} {pins : List (Addr × Obj)} {σ : L2.St} {H : Hp} {s : Shared} {f c' : Addr} {q : Str} {params : Arguments} {body : Expr} {scope : Scope} {cl : List (Str × Addr)} {fr : List Str} {ws : List V}
theorem IsClo.cells (B : IsClo Z.base f c' q params body scope cl fr ws) (I : Inv Z pins σ H s) : CellsAt cl fr (ws.map some) s.heap H := by
  have up : ∀ {c : Addr} {v : Option Value}, Z.base.IsCell c v → s.heap.IsCell c v ∧ H c = none := fun {c v} ⟨o, ho, hd⟩ => by
    obtain ⟨h1, h2⟩ := I.bs _ _ ho
    exact ⟨⟨o, h1, hd⟩, h2⟩
  refine ⟨by rw [List.length_map]; exact B.len, fun y c e => ?_, B.inj, fun i y e => ?_⟩
  · obtain ⟨v, z⟩ := B.all y c e
    exact ⟨(up z).2, v, (up z).1⟩
  · have hi : i < ws.length := by
      rw [B.len]
      exact (List.getElem?_eq_some_iff.mp e).1
    obtain ⟨c, u, h1, h2, h3⟩ := B.has i y ws[i] e (List.getElem?_eq_getElem hi)
    refine ⟨c, h1, fun v ev => ⟨u, ?_, (up h3).1⟩⟩
    rw [List.getElem?_map, List.getElem?_eq_getElem hi] at ev
    have ev' : ws[i] = v := Option.some.inj (Option.some.inj ev)
    rw [← ev']
    exact h2
end
abbrev nf (q : Str) (params : Arguments) (scope : Scope) (cl : List (Str × Addr)) (c' : Addr) : NF := ⟨"<lambda>", q, params, [], scope, cl, c'⟩
section
variable {Z : Cx} {f c' : Addr} {q : Str} {params : Arguments} {body : Expr} {scope : Scope} {cl : List (Str × Addr)} {N ps fr : List Str} {ws : List V} {i k : Nat} {x : Str} {t : TA} {tb : TE} {e : Expr} {es : List Expr} {p pos : Pos}
/-- x(e, ..), the slot i holding the lambda -/
def tClo (i : Nat) (f c' : Addr) (q : Str) (N ps : List Str) (ws : List V) (t : TA) (tb : TE) : TE := fun σ H Q =>
  σ[i]? = some (some (.ref f)) ∧ t σ H fun vs H1 => vs.length = ps.length ∧ H1 c' = some (CodeO c' q) ∧ tb (startF N vs (ws.map some)) H1 Q
theorem pe_clo (B : IsClo Z.base f c' q params body scope cl fr ws) (S : NScope N ps fr scope)
    (hb : ∀ (pm ctv : Value) (us : List Value), us.length = ps.length → bindArgs (PySem.W.kla_fn "<lambda>" q params body scope cl pm (.ref c') ctv) ⟨us, []⟩ = pure (ps.zip us)) (hr : Room (k + 1) Z.A)
    (hbody : ∀ (A : Around) (outer : List Env) (s : Shared) (H : Hp) (E : XK), Room k (A.deeper (envF (nf q params scope cl c') f s.heap.objs.size)) → PE (ncx L2.CX0 Z.prog Z.w Z.K Z.mg Z.base N (nf q params scope cl c') f A outer s H E) body tb)
    (hN : Z.N[i]? = some x) (hv : Vis Z.env.scope x) (ha : PA Z (e :: es) t)
    (hd : (x == ("__debug__" : Str)) = false := by decide) (hcd : (x == ("__classdict__" : Str)) = false := by decide)
    (he : starEach (e :: es) Z.env = (false, eval e Z.env) :: starEach es Z.env := by rfl) (hpl : (backTo pos (starEach es Z.env)).any (·.1) = false := by rfl) :
    PE Z (.Call (.Name x p) (e :: es) [] pos) (tClo i f c' q N ps ws t tb) := by
  refine ⟨fun pins s σ H Q I h => ?_⟩
  obtain ⟨hs, ht⟩ := h
  obtain ⟨pm, ctv, ho⟩ := B.obj
  refine wpAny_Call_Name_kw (thn ((pe_var (pos := p) (i := i) hN hv hd hcd).run pins s σ H (fun v H1 => v = .ref f ∧ H1 = H) I ⟨.ref f, hs, rfl, rfl⟩) fun u s1 ⟨v, H1, I1, r1, q1⟩ => ?_)
  obtain ⟨ev, eH⟩ := q1
  subst ev
  rw [eH] at I1
  obtain rfl : u = Value.ref f := r1
  have fa : ∀ {σ' : L2.St} {H' : Hp} {s' : Shared}, Inv Z pins σ' H' s' → PySem.W.FnAt f s'.heap := fun I' => ⟨_, _, _, _, I'.bk _ _ ho⟩
  refine PySem.W.callWith_F (first := []) (fa I1) (thn (ha.run pos pins s1 σ H _ I1 ht) fun us s2 ⟨vs, H2, I2, r, hl, hc, hq⟩ => ⟨fa I2, ?_⟩) he hpl
  show wpAny _ _ (call (.ref f) us) _ _ _
  have hul : us.length = ps.length := by rw [← r.length]; exact hl
  obtain ⟨⟨oc, vc, tc, hoc, hdc, hvc⟩, _, _⟩ := I2.hok c' _ hc
  have e0 := I2.env0
  have lim : s2.heap.NoLimit := I2.nolimit
  have rc : codeAny (model Z.prog Z.w) Z.A (.call (.ref f) ⟨us, []⟩) (CR L2.CX0 Z.stack Z.prog Z.w H2 s2 Q L2.E0) s2 := by
    refine PySem.W.kla_callFunE hr.depth (I2.bk _ _ ho) rfl S.co S.gen rfl ⟨c', oc, vc, tc, rfl, hoc, hdc, hvc⟩ ?_
    rw [hb pm ctv us hul]
    refine wpAny_pure (wpAny_newFunctionEnv S.nocell (fun ⟨n, _⟩ hy => S.par n (List.of_mem_zip hy).1) (fun h₁ hns hsb => ⟨lim.fresh _ hsb, ?_⟩) S.kind)
    have kp : ∀ b o, s2.heap.get? b = some o → h₁.get? b = some o := fun b o e => hsb.extBut b o (Nat.ne_of_lt (Heap.lt_size e)) (Heap.get?_push_of_some _ e)
    have J : Inv (ncx L2.CX0 Z.prog Z.w Z.K Z.mg Z.base N (nf q params scope cl c') f Z.A Z.stack s2 H2 L2.E0) [] (startF N vs (ws.map some)) H2 { s2 with heap := h₁, toks := s2.toks + (ps.zip us).length } :=
      inv_startN S hr.hd e0 hl r (B.cells I2) hns kp
    refine PySem.W.kla_codeExpr (wpAny_mono ((hbody Z.A Z.stack s2 H2 L2.E0 (hr.deeper _)).run [] _ _ H2 Q J hq) (fun v s' hq => ?_) fun e s' hq => hq)
    obtain ⟨w', H', J', rv, q⟩ := hq
    exact ⟨w', H', J'.os, J'.bare, J'.base, J'.hok, rv, q⟩
  refine wpAny_call (codeAny_mono rc fun r s' hq => ?_)
  cases r with
  | error e => exact (show False from hq).elim
  | ok fl =>
    cases fl with
    | ret u => exact I2.after hq
    | next => exact False.elim hq
    | brk => exact False.elim hq
    | cont => exact False.elim hq
end
end Clo
/-! Worlds that grow, data that stays, and what a reading comes to. -/
namespace U
open PySem PySem.Spec PyProof.Rows L2 LamX

abbrev TL := List (Addr × Str)
/-- what can't change once it is there -/
def fixed : HO → Bool
  | .tup _ => true
  | .frz _ _ => true
  | _ => false
/-- from H to H': all that was tracked is as it was, but for the lists at ms and the tables, and these are good -/
structure G (T : TL) (ms : List Addr) (H H' : Hp) : Prop where
  keep : ∀ a o, H a = some o → a ∉ ms → (∀ ps, o ≠ .tbl ps) → H' a = some o
  fix : ∀ a o, H a = some o → fixed o = true → H' a = some o
  tabs : Tabs T H'
section
variable {T : TL} {ms : List Addr} {H H1 H2 : Hp} {a p : Addr} {xs ys : List V}
theorem fixed_tbl {o : HO} (h : fixed o = true) : ∀ ps, o ≠ .tbl ps := fun ps z => by
  rw [z] at h
  cases h
theorem G.refl (t : Tabs T H) : G T ms H H := ⟨fun _ _ h _ _ => h, fun _ _ h _ => h, t⟩
theorem G.trans (x : G T ms H H1) (y : G T ms H1 H2) : G T ms H H2 := ⟨fun a o h n z => y.keep a o (x.keep a o h n z) n z, fun a o h z => y.fix a o (x.fix a o h z) z, y.tabs⟩
theorem G.wide (x : G T [] H H1) : G T ms H H1 := ⟨fun a o h _ z => x.keep a o h (by simp) z, x.fix, x.tabs⟩
theorem G.lst (x : G T ms H H1) (h : H a = some (.lst xs)) (n : a ∉ ms) : H1 a = some (.lst xs) := x.keep a _ h n fun _ z => by cases z
theorem G.lst0 (x : G T [] H H1) (h : H a = some (.lst xs)) : H1 a = some (.lst xs) := x.lst h (by simp)
theorem G.tup (x : G T ms H H1) (h : H a = some (.tup xs)) : H1 a = some (.tup xs) := x.fix a _ h rfl
theorem G.seqT {K : PySem.W.Frag} (x : G T ms H H1) (h : SqT K H a xs) : SqT K H1 a xs := by
  rcases h with (h | ⟨o, h⟩) | h
  · exact .inl (.inl (x.fix _ _ h rfl))
  · exact .inl (.inr ⟨o, x.fix _ _ h rfl⟩)
  · exact .inr h
/-- a list that is fresh, or may change -/
theorem G.seqL {K : PySem.W.Frag} (x : G T [] H H1) (h : SqL K H a xs) : SqL K H1 a xs := by
  rcases h with (h | ⟨o, h⟩) | h
  · exact .inl (.inl (x.lst0 h))
  · exact .inl (.inr ⟨o, x.fix _ _ h rfl⟩)
  · exact .inr h
/-- p is not tracked, but as a table -/
def Nw (H : Hp) (p : Addr) : Prop := ∀ o, H p = some o → ∃ ps, o = .tbl ps
theorem Nw.of (h : H p = none) : Nw H p := fun o e => by
  rw [h] at e
  cases e
theorem Nw.back (x : G T ms H H1) (n : p ∉ ms) (h : Nw H1 p) : Nw H p := fun o e => by
  by_cases ht : ∃ ps, o = .tbl ps
  · exact ht
  · exact h o (x.keep p o e n fun ps z => ht ⟨ps, z⟩)
theorem Nw.back0 (x : G T [] H H1) (h : Nw H1 p) : Nw H p := h.back x (by simp)
theorem Nw.ne (h : Nw H p) (e : H a = some (.lst xs)) : a ≠ p := by
  rintro rfl
  obtain ⟨ps, z⟩ := h _ e
  cases z
theorem tabs_new {o : HO} (t : Tabs T H) (h : H p = none) : Tabs T (upd H p o) := fun q hq => (t q hq).ext fun b u e => by
  rw [upd_ne (ne_of_none e h)]
  exact e
theorem G.new {o : HO} (t : Tabs T H) (h : H p = none) : G T ms H (upd H p o) :=
  ⟨fun a u e _ _ => by rw [upd_ne (ne_of_none e h)]; exact e, fun a u e _ => by rw [upd_ne (ne_of_none e h)]; exact e, tabs_new t h⟩
theorem tabs_put {o : HO} (t : Tabs T H) (h : H p = some (.lst xs)) : Tabs T (upd H p o) := fun q hq => by
  obtain ⟨ps, e1, e2, e3⟩ := t q hq
  refine ⟨ps, ?_, e2, fun pos cv hc => ?_⟩
  · rw [upd_ne (ne_of e1 h (by intro z; cases z))]
    exact e1
  · obtain ⟨c, z1, z2⟩ := e3 pos cv hc
    refine ⟨c, z1, ?_⟩
    rw [upd_ne (ne_of z2 h (by intro z; unfold CodeO at z; cases z))]
    exact z2
theorem upd_fix {o u : HO} (h : H p = some (.lst xs)) (e : H a = some u) (z : fixed u = true) : upd H p o a = some u := by
  rw [upd_ne (ne_of e h (by intro q; subst q; cases z))]
  exact e
/-- a list changes that was not there, or may change -/
theorem G.put (x : G T ms H H1) (hp : p ∈ ms ∨ Nw H p) (h : H1 p = some (.lst xs)) : G T ms H (upd H1 p (.lst ys)) := by
  refine ⟨fun a o e n z => ?_, fun a o e z => upd_fix h (x.fix a o e z) z, tabs_put x.tabs h⟩
  have ne : a ≠ p := by
    rcases hp with hp | hp
    · rintro rfl
      exact n hp
    · rintro rfl
      obtain ⟨ps, q⟩ := hp _ e
      exact z ps q
  rw [upd_ne ne]
  exact x.keep a o e n z
/-- a list made on the way falls away from what may change -/
theorem G.less (x : G T (p :: ms) H H1) (hp : Nw H p) : G T ms H H1 :=
  ⟨fun a o e n z => x.keep a o e (by
    intro q
    rcases List.mem_cons.mp q with q | q
    · rw [q] at e
      obtain ⟨ps, w⟩ := hp _ e
      exact z ps w
    · exact n q) z, x.fix, x.tabs⟩
end

/-! ### data -/
/-- what a value is: scalars, tuples of such, and where a list stands -/
inductive D where
  | non
  | bl (b : Bool)
  | int (i : Int)
  | str (s : Str)
  | tup (ds : List D)
  | ptr (a : Addr)
mutual
inductive Im (K : PySem.W.Frag) (H : Hp) : V → D → Prop
  | non : Im K H .non .non
  | bl (b : Bool) : Im K H (.bl b) (.bl b)
  | int (i : Int) : Im K H (.int i) (.int i)
  | str (s : Str) : Im K H (.str s) (.str s)
  | tup {a : Addr} {xs : List V} {ds : List D} : SqT K H a xs → ImA K H xs ds → Im K H (.ref a) (.tup ds)
  | ptr (a : Addr) : Im K H (.ref a) (.ptr a)
inductive ImA (K : PySem.W.Frag) (H : Hp) : List V → List D → Prop
  | nil : ImA K H [] []
  | cons {v : V} {d : D} {vs : List V} {ds : List D} : Im K H v d → ImA K H vs ds → ImA K H (v :: vs) (d :: ds)
end
section
variable {K : PySem.W.Frag} {H H' : Hp} {v : V} {d : D} {vs : List V} {ds : List D} {T : TL} {ms : List Addr}
mutual
theorem Im.fix (k : ∀ a xs, SqT K H a xs → SqT K H' a xs) : ∀ {v : V} {d : D}, Im K H v d → Im K H' v d
  | _, _, .non => .non
  | _, _, .bl b => .bl b
  | _, _, .int i => .int i
  | _, _, .str s => .str s
  | _, _, .ptr a => .ptr a
  | _, _, .tup h r => .tup (k _ _ h) (ImA.fix k r)
theorem ImA.fix (k : ∀ a xs, SqT K H a xs → SqT K H' a xs) : ∀ {vs : List V} {ds : List D}, ImA K H vs ds → ImA K H' vs ds
  | _, _, .nil => .nil
  | _, _, .cons h r => .cons (Im.fix k h) (ImA.fix k r)
end
theorem Im.up (x : G T ms H H') (h : Im K H v d) : Im K H' v d := h.fix fun _ _ q => x.seqT q
theorem ImA.up (x : G T ms H H') (h : ImA K H vs ds) : ImA K H' vs ds := h.fix fun _ _ q => x.seqT q
theorem ImA.length : ∀ {vs : List V} {ds : List D}, ImA K H vs ds → vs.length = ds.length
  | _, _, .nil => rfl
  | _, _, .cons _ r => by rw [List.length_cons, List.length_cons, r.length]
theorem ImA.get : ∀ {vs : List V} {ds : List D} {i : Nat} {d : D}, ImA K H vs ds → ds[i]? = some d → ∃ v, vs[i]? = some v ∧ Im K H v d
  | _, _, _, _, .nil, e => by simp at e
  | _, _, 0, _, .cons h _, e => by
    have e' := Option.some.inj e
    subst e'
    exact ⟨_, rfl, h⟩
  | _, _, i + 1, _, .cons _ r, e => by
    obtain ⟨v, h1, h2⟩ := ImA.get (i := i) r (by simpa using e)
    exact ⟨v, by simpa using h1, h2⟩
theorem ImA.getV : ∀ {vs : List V} {ds : List D} {i : Nat} {v : V}, ImA K H vs ds → vs[i]? = some v → ∃ d, ds[i]? = some d ∧ Im K H v d
  | _, _, _, _, .nil, e => by simp at e
  | _, _, 0, _, .cons h _, e => by
    have e' := Option.some.inj e
    subst e'
    exact ⟨_, rfl, h⟩
  | _, _, i + 1, _, .cons _ r, e => by
    obtain ⟨v, h1, h2⟩ := ImA.getV (i := i) r (by simpa using e)
    exact ⟨v, by simpa using h1, h2⟩
theorem ImA.append : ∀ {vs ws : List V} {ds es : List D}, ImA K H vs ds → ImA K H ws es → ImA K H (vs ++ ws) (ds ++ es)
  | _, _, _, _, .nil, r => r
  | _, _, _, _, .cons h t, r => .cons h (ImA.append t r)
theorem ImA.drop : ∀ {vs : List V} {ds : List D} (n : Nat), ImA K H vs ds → ImA K H (vs.drop n) (ds.drop n)
  | _, _, 0, r => r
  | _, _, _ + 1, .nil => .nil
  | _, _, n + 1, .cons _ r => ImA.drop n r
theorem ImA.take : ∀ {vs : List V} {ds : List D} (n : Nat), ImA K H vs ds → ImA K H (vs.take n) (ds.take n)
  | _, _, 0, _ => .nil
  | _, _, _ + 1, .nil => .nil
  | _, _, n + 1, .cons h r => .cons h (ImA.take n r)
theorem ImA.erase : ∀ {vs : List V} {ds : List D} (n : Nat), ImA K H vs ds → ImA K H (vs.eraseIdx n) (ds.eraseIdx n)
  | _, _, _, .nil => .nil
  | _, _, 0, .cons _ r => r
  | _, _, n + 1, .cons h r => .cons h (ImA.erase n r)
theorem ImA.put : ∀ {vs : List V} {ds : List D} {v : V} {d : D} (n : Nat), Im K H v d → ImA K H vs ds → ImA K H (vs.set n v) (ds.set n d)
  | _, _, _, _, _, _, .nil => .nil
  | _, _, _, _, 0, q, .cons _ r => .cons q r
  | _, _, _, _, n + 1, q, .cons h r => .cons h (ImA.put n q r)
theorem ImA.init : ∀ {vs : List V} {ds : List D}, ImA K H vs ds → ImA K H vs.dropLast ds.dropLast
  | _, _, .nil => .nil
  | _, _, .cons _ .nil => .nil
  | _, _, .cons h (.cons h' r) => .cons h (ImA.init (.cons h' r))
theorem ImA.rev : ∀ {vs : List V} {ds : List D}, ImA K H vs ds → ImA K H vs.reverse ds.reverse
  | _, _, .nil => .nil
  | _, _, .cons h r => by
    rw [List.reverse_cons, List.reverse_cons]
    exact (ImA.rev r).append (.cons h .nil)
theorem im_int {i : Int} (h : Im K H v (.int i)) : v = .int i := by cases h; rfl
theorem im_bl {b : Bool} (h : Im K H v (.bl b)) : v = .bl b := by cases h; rfl
theorem im_str {s : Str} (h : Im K H v (.str s)) : v = .str s := by cases h; rfl
theorem im_non (h : Im K H v .non) : v = .non := by cases h; rfl
theorem im_ptr {a : Addr} (h : Im K H v (.ptr a)) : v = .ref a := by cases h; rfl
theorem im_tup (h : Im K H v (.tup ds)) : ∃ a xs, v = .ref a ∧ SqT K H a xs ∧ ImA K H xs ds := by
  cases h with
  | tup h r => exact ⟨_, _, rfl, h, r⟩
theorem ima_ints : ∀ {ns : List Int} {vs : List V}, ImA K H vs (ns.map D.int) → vs = ns.map V.int
  | [], _, .nil => rfl
  | n :: ns, _, .cons h r => by
    rw [im_int h, ima_ints r]
    rfl
theorem ints_ima : ∀ (ns : List Int), ImA K H (ns.map V.int) (ns.map D.int)
  | [] => .nil
  | n :: ns => .cons (.int n) (ints_ima ns)
theorem ima_bls : ∀ {ns : List Bool} {vs : List V}, ImA K H vs (ns.map D.bl) → vs = ns.map V.bl
  | [], _, .nil => rfl
  | n :: ns, _, .cons h r => by
    rw [im_bl h, ima_bls r]
    rfl
/-- the list at p holds these -/
def Ls (K : PySem.W.Frag) (H : Hp) (p : Addr) (ds : List D) : Prop := ∃ vs, H p = some (.lst vs) ∧ ImA K H vs ds
theorem Ls.up {p : Addr} (x : G T ms H H') (h : Ls K H p ds) (n : p ∉ ms) : Ls K H' p ds := by
  obtain ⟨vs, h1, h2⟩ := h
  exact ⟨vs, x.lst h1 n, h2.up x⟩
theorem Ls.up0 {p : Addr} (x : G T [] H H') (h : Ls K H p ds) : Ls K H' p ds := h.up x (by simp)
/-- the list at p, also one of the script's -/
def Lr (K : PySem.W.Frag) (H : Hp) (p : Addr) (ds : List D) : Prop := ∃ vs, SqL K H p vs ∧ ImA K H vs ds
theorem Ls.lr {p : Addr} (h : Ls K H p ds) : Lr K H p ds := let ⟨vs, h1, h2⟩ := h; ⟨vs, SqL.of h1, h2⟩
theorem Lr.up {p : Addr} (x : G T [] H H') (h : Lr K H p ds) : Lr K H' p ds := by
  obtain ⟨vs, h1, h2⟩ := h
  exact ⟨vs, x.seqL h1, h2.up x⟩
/-- another list changes -/
theorem Im.put {p : Addr} {xs : List V} {o : HO} (hp : H p = some (.lst xs)) (h : Im K H v d) : Im K (upd H p o) v d := h.fix fun a ys q => by
  rcases q with (q | ⟨ob, q⟩) | q
  · exact .inl (.inl (upd_fix hp q rfl))
  · exact .inl (.inr ⟨ob, upd_fix hp q rfl⟩)
  · exact .inr q
theorem ImA.putH {p : Addr} {xs : List V} {o : HO} (hp : H p = some (.lst xs)) (h : ImA K H vs ds) : ImA K (upd H p o) vs ds := h.fix fun a ys q => by
  rcases q with (q | ⟨ob, q⟩) | q
  · exact .inl (.inl (upd_fix hp q rfl))
  · exact .inl (.inr ⟨ob, upd_fix hp q rfl⟩)
  · exact .inr q
end

/-! ### what a reading comes to -/
def Ev (T : TL) (te : TE) (σ : L2.St) (H : Hp) (A : Hp → V → Hp → Prop) : Prop := ∀ H1, G T [] H H1 → ∀ Q : VK, (∀ v H2, G T [] H1 H2 → A H1 v H2 → Q v H2) → te σ H1 Q
/-- .. to the data d -/
abbrev EvI (T : TL) (K : PySem.W.Frag) (te : TE) (σ : L2.St) (H : Hp) (d : D) : Prop := Ev T te σ H fun _ v H2 => Im K H2 v d
/-- .. to a new list of these -/
abbrev EvN (T : TL) (K : PySem.W.Frag) (te : TE) (σ : L2.St) (H : Hp) (ds : List D) : Prop := Ev T te σ H fun H1 v H2 => ∃ p, v = .ref p ∧ Nw H1 p ∧ Ls K H2 p ds
def EvT (T : TL) (tt : TT) (σ : L2.St) (H : Hp) (b : Bool) : Prop := ∀ H1, G T [] H H1 → ∀ Q : Bool → Hp → Prop, (∀ H2, G T [] H1 H2 → Q b H2) → tt σ H1 Q
def EvA (T : TL) (K : PySem.W.Frag) (ta : TA) (σ : L2.St) (H : Hp) (ds : List D) : Prop := ∀ H1, G T [] H H1 → ∀ Q : List V → Hp → Prop, (∀ vs H2, G T [] H1 H2 → ImA K H2 vs ds → Q vs H2) → ta σ H1 Q
/-- a pure def: it gives r for the arguments ds -/
def spF (T : TL) (K : PySem.W.Frag) (F : List D → D → Prop) : Sp := fun vs H Q _ => ∃ ds r, ImA K H vs ds ∧ Tabs T H ∧ F ds r ∧ ∀ v H2, G T [] H H2 → Im K H2 v r → Q v H2
/-- .. it gives a new list -/
def spN (T : TL) (K : PySem.W.Frag) (F : List D → List D → Prop) : Sp := fun vs H Q _ => ∃ ds r, ImA K H vs ds ∧ Tabs T H ∧ F ds r ∧ ∀ p H2, G T [] H H2 → Nw H p → Ls K H2 p r → Q (.ref p) H2
section
variable {T : TL} {K : PySem.W.Frag} {σ : L2.St} {H H' : Hp} {te ta tb tc : TE} {t u : TT} {d e : D} {ds es : List D} {v : V} {x y : D}
theorem Ev.up {A : Hp → V → Hp → Prop} (g : G T [] H H') (h : Ev T te σ H A) : Ev T te σ H' A := fun H1 a Q q => h H1 (g.trans a) Q q
theorem EvT.up {b : Bool} (g : G T [] H H') (h : EvT T t σ H b) : EvT T t σ H' b := fun H1 a Q q => h H1 (g.trans a) Q q
theorem ei_var {i : Nat} (h : σ[i]? = some (some v)) (hd : Im K H v d) : EvI T K (tVar i) σ H d := fun H1 g _ q => ⟨v, h, q v H1 (.refl g.tabs) (hd.up g)⟩
theorem ei_c (h : Im K H v d) : EvI T K (tC v) σ H d := fun H1 g _ q => q v H1 (.refl g.tabs) (h.up g)
theorem ei_i {i : Int} : EvI T K (tC (.int i)) σ H (.int i) := ei_c (.int i)
theorem ei_b {b : Bool} : EvI T K (tC (.bl b)) σ H (.bl b) := ei_c (.bl b)
theorem ei_n : EvI T K (tC .non) σ H .non := ei_c .non
theorem ei_s {s : Str} : EvI T K (tC (.str s)) σ H (.str s) := ei_c (.str s)
/-- two operands, then an operation on values -/
theorem ei_op2 {r : R2} {A : Hp → V → Hp → Prop} (ha : EvI T K ta σ H x) (hb : EvI T K tb σ H y)
    (hr : ∀ H1, G T [] H H1 → ∀ v w, Im K H1 v x → Im K H1 w y → ∀ Q : VK, (∀ z H2, G T [] H1 H2 → A H1 z H2 → Q z H2) → r v w H1 Q) (hA : ∀ H1 H2 z H3, G T [] H1 H2 → A H2 z H3 → A H1 z H3) : Ev T (tOp r ta tb) σ H A := fun H1 g Q q =>
  ha H1 g _ fun v H2 g2 hv => hb H2 (g.trans g2) _ fun w H3 g3 hw => hr H3 ((g.trans g2).trans g3) v w (hv.up g3) hw Q fun z H4 g4 hz => q z H4 ((g2.trans g3).trans g4) (hA _ _ _ _ (g2.trans g3) hz)
theorem ei_op {r : R2} (ha : EvI T K ta σ H x) (hb : EvI T K tb σ H y)
    (hr : ∀ H1, G T [] H H1 → ∀ v w, Im K H1 v x → Im K H1 w y → ∀ Q : VK, (∀ z H2, G T [] H1 H2 → Im K H2 z d → Q z H2) → r v w H1 Q) : EvI T K (tOp r ta tb) σ H d := ei_op2 ha hb hr fun _ _ _ _ _ h => h
/-- ints -/
theorem ei_I0 {g : Int → Int → V} {i j : Int} (ha : EvI T K ta σ H (.int i)) (hb : EvI T K tb σ H (.int j)) (hd : ∀ H, Im K H (g i j) d) : EvI T K (tOp (rI0 g) ta tb) σ H d :=
  ei_op ha hb fun H1 g1 v w hv hw Q q => ⟨i, j, im_int hv, im_int hw, q _ H1 (.refl g1.tabs) (hd H1)⟩
theorem ei_I {C : Int → Int → Prop} {g : Int → Int → V} {i j : Int} (ha : EvI T K ta σ H (.int i)) (hb : EvI T K tb σ H (.int j)) (hc : C i j) (hd : ∀ H, Im K H (g i j) d) : EvI T K (tOp (rI C g) ta tb) σ H d :=
  ei_op ha hb fun H1 g1 v w hv hw Q q => ⟨i, j, im_int hv, im_int hw, hc, q _ H1 (.refl g1.tabs) (hd H1)⟩
theorem ei_add {i j : Int} (ha : EvI T K ta σ H (.int i)) (hb : EvI T K tb σ H (.int j)) : EvI T K (tOp (rI0 fun i j => .int (i + j)) ta tb) σ H (.int (i + j)) := ei_I0 ha hb fun _ => .int _
theorem ei_sub {i j : Int} (ha : EvI T K ta σ H (.int i)) (hb : EvI T K tb σ H (.int j)) : EvI T K (tOp (rI0 fun i j => .int (i - j)) ta tb) σ H (.int (i - j)) := ei_I0 ha hb fun _ => .int _
theorem ei_lt {i j : Int} (ha : EvI T K ta σ H (.int i)) (hb : EvI T K tb σ H (.int j)) : EvI T K (tOp (rI0 fun i j => .bl (decide (i < j))) ta tb) σ H (.bl (decide (i < j))) := ei_I0 ha hb fun _ => .bl _
theorem ei_ge {i j : Int} (ha : EvI T K ta σ H (.int i)) (hb : EvI T K tb σ H (.int j)) : EvI T K (tOp (rI0 fun i j => .bl (decide (j ≤ i))) ta tb) σ H (.bl (decide (j ≤ i))) := ei_I0 ha hb fun _ => .bl _
theorem ei_gt {i j : Int} (ha : EvI T K ta σ H (.int i)) (hb : EvI T K tb σ H (.int j)) : EvI T K (tOp (rI0 fun i j => .bl (decide (j < i))) ta tb) σ H (.bl (decide (j < i))) := ei_I0 ha hb fun _ => .bl _
theorem ei_mul {i j : Int} (ha : EvI T K ta σ H (.int i)) (hb : EvI T K tb σ H (.int j)) (hc : CMul i j) : EvI T K (tOp (rI CMul fun i j => .int (i * j)) ta tb) σ H (.int (i * j)) := ei_I ha hb hc fun _ => .int _
theorem ei_mod {i j : Int} (ha : EvI T K ta σ H (.int i)) (hb : EvI T K tb σ H (.int j)) (hc : 0 < j) : EvI T K (tOp (rI (fun _ j => 0 < j) fun i j => .int (i % j)) ta tb) σ H (.int (i % j)) := ei_I ha hb hc fun _ => .int _
theorem ei_div {i j : Int} (ha : EvI T K ta σ H (.int i)) (hb : EvI T K tb σ H (.int j)) (hc : CDiv i j) : EvI T K (tOp (rI CDiv fun i j => .int (i / j)) ta tb) σ H (.int (i / j)) := ei_I ha hb hc fun _ => .int _
theorem ei_pow {i j : Int} (ha : EvI T K ta σ H (.int i)) (hb : EvI T K tb σ H (.int j)) (hc : CPow i j) : EvI T K (tOp (rI CPow fun i j => .int (i ^ j.toNat)) ta tb) σ H (.int (i ^ j.toNat)) := ei_I ha hb hc fun _ => .int _
/-- scalars compared -/
theorem ei_eqI {i j : Int} (ha : EvI T K ta σ H (.int i)) (hb : EvI T K tb σ H (.int j)) : EvI T K (tOp rEq ta tb) σ H (.bl (decide (i = j))) :=
  ei_op ha hb fun H1 g1 v w hv hw Q q => by
    rw [im_int hv, im_int hw]
    refine ⟨rfl, q _ H1 (.refl g1.tabs) ?_⟩
    rw [show decide (V.int i = V.int j) = decide (i = j) from decide_eq_decide.mpr ⟨fun h => V.int.inj h, fun h => by rw [h]⟩]
    exact .bl _
theorem ei_neI {i j : Int} (ha : EvI T K ta σ H (.int i)) (hb : EvI T K tb σ H (.int j)) : EvI T K (tOp rNe ta tb) σ H (.bl (!decide (i = j))) :=
  ei_op ha hb fun H1 g1 v w hv hw Q q => by
    rw [im_int hv, im_int hw]
    refine ⟨rfl, q _ H1 (.refl g1.tabs) ?_⟩
    rw [show decide (V.int i = V.int j) = decide (i = j) from decide_eq_decide.mpr ⟨fun h => V.int.inj h, fun h => by rw [h]⟩]
    exact .bl _
theorem ei_eqB {i j : Bool} (ha : EvI T K ta σ H (.bl i)) (hb : EvI T K tb σ H (.bl j)) : EvI T K (tOp rEq ta tb) σ H (.bl (i == j)) :=
  ei_op ha hb fun H1 g1 v w hv hw Q q => by
    rw [im_bl hv, im_bl hw]
    refine ⟨by cases i <;> cases j <;> rfl, q _ H1 (.refl g1.tabs) ?_⟩
    rw [show decide (V.bl i = V.bl j) = (i == j) by cases i <;> cases j <;> rfl]
    exact .bl _
/-- an item -/
theorem ixA {vs : List V} {i : Int} (h : ImA K H vs ds) (hd : atI ds i = some d) : ∃ v, atI vs i = some v ∧ Im K H v d := by
  unfold atI at hd ⊢
  rw [h.length]
  cases e : ixN ds.length i with
  | none =>
    rw [e] at hd
    cases hd
  | some j =>
    rw [e] at hd
    exact h.get hd
theorem ei_ixT {i : Int} (ha : EvI T K ta σ H (.tup ds)) (hb : EvI T K tb σ H (.int i)) (hd : atI ds i = some d) : EvI T K (tOp (rIx K) ta tb) σ H d :=
  ei_op ha hb fun H1 g1 v w hv hw Q q => by
    obtain ⟨a, xs, rfl, h1, h2⟩ := im_tup hv
    obtain ⟨z, h3, h4⟩ := ixA h2 hd
    exact .inr (.inl ⟨a, xs, i, z, rfl, im_int hw, h1, h3, q z H1 (.refl g1.tabs) h4⟩)
theorem ei_ixL {i : Int} {p : Addr} (ha : EvI T K ta σ H (.ptr p)) (hl : Lr K H p ds) (hb : EvI T K tb σ H (.int i)) (hd : atI ds i = some d) : EvI T K (tOp (rIx K) ta tb) σ H d :=
  ei_op ha hb fun H1 g1 v w hv hw Q q => by
    obtain ⟨vs, h1, h2⟩ := hl.up g1
    obtain ⟨z, h3, h4⟩ := ixA h2 hd
    exact .inl ⟨p, vs, i, z, im_ptr hv, im_int hw, h1, h3, q z H1 (.refl g1.tabs) h4⟩
/-- arguments -/
theorem ea_nil : EvA T K tNil σ H [] := fun H1 g _ q => q [] H1 (.refl g.tabs) .nil
theorem ea_cons {tr : TA} (h : EvI T K ta σ H d) (hr : EvA T K tr σ H ds) : EvA T K (tCons ta tr) σ H (d :: ds) := fun H1 g _ q =>
  h H1 g _ fun v H2 g2 hv => hr H2 (g.trans g2) _ fun vs H3 g3 hvs => q (v :: vs) H3 (g2.trans g3) (.cons (hv.up g3) hvs)
theorem ei_call {F : List D → D → Prop} {tr : TA} (h : EvA T K tr σ H ds) (hF : F ds d) : EvI T K (tCall (spF T K F) [] L2.E0 tr) σ H d := fun H1 g Q q =>
  h H1 g _ fun vs H2 g2 hvs => ⟨ds, d, by rw [List.append_nil]; exact hvs, g2.tabs, hF, fun v H3 g3 hv => q v H3 (g2.trans g3) hv⟩
theorem en_call {F : List D → List D → Prop} {tr : TA} (h : EvA T K tr σ H ds) (hF : F ds es) : EvN T K (tCall (spN T K F) [] L2.E0 tr) σ H es := fun H1 g Q q =>
  h H1 g _ fun vs H2 g2 hvs => ⟨ds, es, by rw [List.append_nil]; exact hvs, g2.tabs, hF, fun p H3 g3 hp hl => q _ H3 (g2.trans g3) ⟨p, rfl, hp.back0 g2, hl⟩⟩
/-- tests -/
theorem et_B {b : Bool} (h : EvI T K te σ H (.bl b)) : EvT T (tB te) σ H b := fun H1 g Q q => h H1 g _ fun v H2 g2 hv => ⟨b, im_bl hv, q H2 g2⟩
theorem et_test {b : Bool} (h : EvI T K te σ H (.bl b)) : EvT T (tTest te) σ H b := fun H1 g Q q => h H1 g _ fun v H2 g2 hv => ⟨b, im_bl hv, q H2 g2⟩
theorem et_yes : EvT T tYes σ H true := fun H1 g Q q => q H1 (.refl g.tabs)
theorem et_and {a b : Bool} (h1 : EvT T t σ H a) (h2 : a = true → EvT T u σ H b) : EvT T (tAnd t u) σ H (a && b) := fun H1 g Q q => h1 H1 g _ fun H2 g2 => by
  cases a with
  | true => exact h2 rfl H2 (g.trans g2) Q fun H3 g3 => q H3 (g2.trans g3)
  | false => exact q H2 g2
theorem et_or {a b : Bool} (h1 : EvT T t σ H a) (h2 : a = false → EvT T u σ H b) : EvT T (tOr t u) σ H (a || b) := fun H1 g Q q => h1 H1 g _ fun H2 g2 => by
  cases a with
  | true => exact q H2 g2
  | false => exact h2 rfl H2 (g.trans g2) Q fun H3 g3 => q H3 (g2.trans g3)
theorem et_not {a : Bool} (h1 : EvT T t σ H a) : EvT T (tNot t) σ H (!a) := fun H1 g Q q => h1 H1 g _ fun H2 g2 => q H2 g2
theorem et_is {a b : Bool} (h : EvT T t σ H a) (e : a = b) : EvT T t σ H b := e ▸ h
theorem ei_is (h : EvI T K te σ H d) (e : d = x) : EvI T K te σ H x := e ▸ h
theorem en_is (h : EvN T K te σ H ds) (e : ds = es) : EvN T K te σ H es := e ▸ h
/-- and, or, not, if as values -/
theorem ei_and {a : Bool} (h1 : EvI T K ta σ H (.bl a)) (h2 : a = true → EvI T K tb σ H d) (h3 : a = false → d = .bl false) : EvI T K (tAndV ta tb) σ H d := fun H1 g Q q => h1 H1 g _ fun v H2 g2 hv => ⟨a, im_bl hv, by
  cases a with
  | true => exact h2 rfl H2 (g.trans g2) Q fun v H3 g3 hv => q v H3 (g2.trans g3) hv
  | false =>
    refine q _ H2 g2 ?_
    rw [h3 rfl]
    exact .bl _⟩
theorem ei_or {a : Bool} (h1 : EvI T K ta σ H (.bl a)) (h2 : a = false → EvI T K tb σ H d) (h3 : a = true → d = .bl true) : EvI T K (tOrV ta tb) σ H d := fun H1 g Q q => h1 H1 g _ fun v H2 g2 hv => ⟨a, im_bl hv, by
  cases a with
  | false => exact h2 rfl H2 (g.trans g2) Q fun v H3 g3 hv => q v H3 (g2.trans g3) hv
  | true =>
    refine q _ H2 g2 ?_
    rw [h3 rfl]
    exact .bl _⟩
theorem ei_not {a : Bool} (h1 : EvI T K ta σ H (.bl a)) : EvI T K (tNotV ta) σ H (.bl (!a)) := fun H1 g Q q => h1 H1 g _ fun v H2 g2 hv => ⟨a, im_bl hv, q _ H2 g2 (.bl _)⟩
theorem ei_if {b : Bool} (h : EvT T t σ H b) (h1 : b = true → EvI T K ta σ H d) (h2 : b = false → EvI T K tb σ H d) : EvI T K (tIf t ta tb) σ H d := fun H1 g Q q => h H1 g _ fun H2 g2 => by
  cases b with
  | true => exact h1 rfl H2 (g.trans g2) Q fun v H3 g3 hv => q v H3 (g2.trans g3) hv
  | false => exact h2 rfl H2 (g.trans g2) Q fun v H3 g3 hv => q v H3 (g2.trans g3) hv
/-- displays -/
theorem ei_tup {tr : TA} (h : EvA T K tr σ H ds) (hl : ds.length ≤ 100000) : EvI T K (tTup tr) σ H (.tup ds) := fun H1 g Q q => h H1 g _ fun vs H2 g2 hvs => by
  refine ⟨Nat.le_trans (by rw [hvs.length]; exact hl) (by decide), fun p hp => ?_⟩
  have gn : G T [] H2 (upd H2 p (.tup vs)) := G.new g2.tabs hp
  exact q _ _ (g2.trans gn) (.tup (SqT.of upd_same) (hvs.up gn))
theorem en_lst {tr : TA} (h : EvA T K tr σ H ds) (hl : ds.length ≤ 100000) : EvN T K (tLst tr) σ H ds := fun H1 g Q q => h H1 g _ fun vs H2 g2 hvs => by
  refine ⟨Nat.le_trans (by rw [hvs.length]; exact hl) (by decide), fun p hp => ?_⟩
  have gn : G T [] H2 (upd H2 p (.lst vs)) := G.new g2.tabs hp
  exact q _ _ (g2.trans gn) ⟨p, rfl, (Nw.of hp).back0 g2, vs, upd_same, hvs.up gn⟩
/-- built-ins of one value -/
abbrev rLenQ (K : PySem.W.Frag) : List V → Hp → VK → Prop := fun xs H Q => ∃ p ys, xs = [.ref p] ∧ (SqL K H p ys ∨ SqT K H p ys) ∧ Q (.int ys.length) H
theorem ei_lenT (h : EvI T K ta σ H (.tup ds)) : EvI T K (tCB (rLenQ K) (tCons ta tNil)) σ H (.int ds.length) := fun H1 g Q q => h H1 g _ fun v H2 g2 hv => by
  obtain ⟨a, xs, rfl, h1, h2⟩ := im_tup hv
  refine ⟨a, xs, rfl, .inr h1, ?_⟩
  rw [h2.length]
  exact q _ H2 g2 (.int _)
theorem ei_lenL {p : Addr} (h : EvI T K ta σ H (.ptr p)) (hl : Lr K H p ds) : EvI T K (tCB (rLenQ K) (tCons ta tNil)) σ H (.int ds.length) := fun H1 g Q q => h H1 g _ fun v H2 g2 hv => by
  obtain ⟨vs, h1, h2⟩ := hl.up (g.trans g2)
  refine ⟨p, vs, by rw [im_ptr hv], .inl h1, ?_⟩
  rw [h2.length]
  exact q _ H2 g2 (.int _)
theorem ei_lenN (h : EvN T K ta σ H ds) : EvI T K (tCB (rLenQ K) (tCons ta tNil)) σ H (.int ds.length) := fun H1 g Q q => h H1 g _ fun v H2 g2 hv => by
  obtain ⟨p, rfl, _, vs, h1, h2⟩ := hv
  refine ⟨p, vs, rfl, .inl (SqL.of h1), ?_⟩
  rw [h2.length]
  exact q _ H2 g2 (.int _)
abbrev rTupQ (K : PySem.W.Frag) : List V → Hp → VK → Prop := fun xs H Q => ∃ p ys, xs = [.ref p] ∧ ((SqL K H p ys ∧ ∀ l, H l = none → Q (.ref l) (upd H l (.tup ys))) ∨ (SqT K H p ys ∧ Q (.ref p) H))
theorem ei_tupN (h : EvN T K ta σ H ds) : EvI T K (tCB (rTupQ K) (tCons ta tNil)) σ H (.tup ds) := fun H1 g Q q => h H1 g _ fun v H2 g2 hv => by
  obtain ⟨p, rfl, _, vs, h1, h2⟩ := hv
  refine ⟨p, vs, rfl, .inl ⟨SqL.of h1, fun l hl => ?_⟩⟩
  have gn : G T [] H2 (upd H2 l (.tup vs)) := G.new g2.tabs hl
  exact q _ _ (g2.trans gn) (.tup (SqT.of upd_same) (h2.up gn))
theorem ei_tupL {p : Addr} (h : EvI T K ta σ H (.ptr p)) (hl : Lr K H p ds) : EvI T K (tCB (rTupQ K) (tCons ta tNil)) σ H (.tup ds) := fun H1 g Q q => h H1 g _ fun v H2 g2 hv => by
  obtain ⟨vs, h1, h2⟩ := hl.up (g.trans g2)
  refine ⟨p, vs, by rw [im_ptr hv], .inl ⟨h1, fun l hl => ?_⟩⟩
  have gn : G T [] H2 (upd H2 l (.tup vs)) := G.new g2.tabs hl
  exact q _ _ (g2.trans gn) (.tup (SqT.of upd_same) (h2.up gn))
abbrev rLstQ (K : PySem.W.Frag) : List V → Hp → VK → Prop := fun xs H Q => ∃ p ys, xs = [.ref p] ∧ (SqL K H p ys ∨ SqT K H p ys) ∧ ∀ l, H l = none → Q (.ref l) (upd H l (.lst ys))
theorem en_lstT (h : EvI T K ta σ H (.tup ds)) : EvN T K (tCB (rLstQ K) (tCons ta tNil)) σ H ds := fun H1 g Q q => h H1 g _ fun v H2 g2 hv => by
  obtain ⟨a, xs, rfl, h1, h2⟩ := im_tup hv
  refine ⟨a, xs, rfl, .inr h1, fun l hl => ?_⟩
  have gn : G T [] H2 (upd H2 l (.lst xs)) := G.new g2.tabs hl
  exact q _ _ (g2.trans gn) ⟨l, rfl, (Nw.of hl).back0 g2, xs, upd_same, h2.up gn⟩
theorem en_lstL {p : Addr} (h : EvI T K ta σ H (.ptr p)) (hl : Lr K H p ds) : EvN T K (tCB (rLstQ K) (tCons ta tNil)) σ H ds := fun H1 g Q q => h H1 g _ fun v H2 g2 hv => by
  obtain ⟨vs, h1, h2⟩ := hl.up (g.trans g2)
  refine ⟨p, vs, by rw [im_ptr hv], .inl h1, fun l hl => ?_⟩
  have gn : G T [] H2 (upd H2 l (.lst vs)) := G.new g2.tabs hl
  exact q _ _ (g2.trans gn) ⟨l, rfl, (Nw.of hl).back0 g2, vs, upd_same, h2.up gn⟩
theorem ei_allN {bs : List Bool} (h : EvN T K ta σ H (bs.map D.bl)) : EvI T K (tCB (rAll K) (tCons ta tNil)) σ H (.bl (bs.all id)) := fun H1 g Q q => h H1 g _ fun v H2 g2 hv => by
  obtain ⟨p, rfl, _, vs, h1, h2⟩ := hv
  rw [ima_bls h2] at h1
  exact ⟨p, bs, rfl, SqL.of h1, q _ H2 g2 (.bl _)⟩
abbrev rAbsQ : List V → Hp → VK → Prop := fun xs H Q => ∃ i, xs = [.int i] ∧ Q (.int (if i < 0 then -i else i)) H
theorem ei_abs {i : Int} (h : EvI T K ta σ H (.int i)) : EvI T K (tCB rAbsQ (tCons ta tNil)) σ H (.int i.natAbs) := fun H1 g Q q => h H1 g _ fun v H2 g2 hv => by
  refine ⟨i, by rw [im_int hv], ?_⟩
  rw [show (if i < 0 then -i else i) = (i.natAbs : Int) by split <;> omega]
  exact q _ H2 g2 (.int _)
abbrev rIntQ : List V → Hp → VK → Prop := fun xs H Q => (∃ i, xs = [.int i] ∧ Q (.int i) H) ∨ ∃ k, xs = [.bl k] ∧ Q (.int (if k then 1 else 0)) H
theorem ei_intI {i : Int} (h : EvI T K ta σ H (.int i)) : EvI T K (tCB rIntQ (tCons ta tNil)) σ H (.int i) := fun H1 g Q q => h H1 g _ fun v H2 g2 hv => .inl ⟨i, by rw [im_int hv], q _ H2 g2 (.int _)⟩
theorem ei_intB {b : Bool} (h : EvI T K ta σ H (.bl b)) : EvI T K (tCB rIntQ (tCons ta tNil)) σ H (.int (if b then 1 else 0)) := fun H1 g Q q => h H1 g _ fun v H2 g2 hv => .inr ⟨b, by rw [im_bl hv], q _ H2 g2 (.int _)⟩
/-- membership -/
theorem inV_ints : ∀ (i : Int) (ns : List Int), inV (.int i) (ns.map V.int) = decide (i ∈ ns)
  | i, [] => rfl
  | i, n :: ns => by
    have ih := inV_ints i ns
    unfold inV at ih ⊢
    rw [List.map_cons, List.any_cons, ih]
    rw [show eqV (.int n) (.int i) = decide (i = n) from by
      show (n == i) = _
      by_cases h : i = n
      · subst h; simp
      · rw [decide_eq_false h]
        exact beq_eq_false_iff_ne.mpr fun z => h z.symm]
    by_cases h : i = n
    · simp [h]
    · simp [h]
theorem flat_ints : ∀ ns : List Int, (ns.map V.int).all flatV = true
  | [] => rfl
  | n :: ns => by
    rw [List.map_cons, List.all_cons, flat_ints ns]
    rfl
theorem ei_inT {i : Int} {ns : List Int} (ha : EvI T K ta σ H (.int i)) (hb : EvI T K tb σ H (.tup (ns.map D.int))) : EvI T K (tOp (rIn K false) ta tb) σ H (.bl (decide (i ∈ ns))) :=
  ei_op ha hb fun H1 g1 v w hv hw Q q => by
    obtain ⟨a, xs, rfl, h1, h2⟩ := im_tup hw
    rw [ima_ints h2] at h1
    rw [im_int hv]
    refine ⟨a, _, rfl, .inr h1, rfl, flat_ints ns, ?_⟩
    rw [inV_ints]
    exact q _ H1 (.refl g1.tabs) (.bl _)
theorem ei_ninL {i : Int} {ns : List Int} {p : Addr} (ha : EvI T K ta σ H (.int i)) (hb : EvI T K tb σ H (.ptr p)) (hl : Lr K H p (ns.map D.int)) : EvI T K (tOp (rIn K true) ta tb) σ H (.bl (!decide (i ∈ ns))) :=
  ei_op ha hb fun H1 g1 v w hv hw Q q => by
    obtain ⟨xs, h1, h2⟩ := hl.up g1
    rw [ima_ints h2] at h1
    rw [im_int hv, im_ptr hw]
    refine ⟨p, _, rfl, .inl h1, rfl, flat_ints ns, ?_⟩
    rw [inV_ints]
    exact q _ H1 (.refl g1.tabs) (.bl _)
end
end U
/-! Comprehensions and statements. -/
namespace U
open PySem PySem.Spec PyProof.Rows L2 LamX
/-- of the first n, those with f, by v -/
def outs (f : Nat → Bool) (v : Nat → D) (n : Nat) : List D := ((List.range n).filter f).map v
theorem outs_yes {f : Nat → Bool} {v : Nat → D} {n : Nat} (h : f n = true) : outs f v (n + 1) = outs f v n ++ [v n] := by
  unfold outs
  rw [List.range_succ, List.filter_append, List.filter_cons_of_pos h, List.map_append]
  rfl
theorem outs_no {f : Nat → Bool} {v : Nat → D} {n : Nat} (h : f n = false) : outs f v (n + 1) = outs f v n := by
  unfold outs
  rw [List.range_succ, List.filter_append, List.filter_cons_of_neg (by rw [h]; exact Bool.false_ne_true)]
  simp
theorem outs_len (f : Nat → Bool) (v : Nat → D) (n : Nat) : (outs f v n).length ≤ n := by
  unfold outs
  rw [List.length_map]
  have h := List.length_filter_le f (List.range n)
  rw [List.length_range] at h
  exact h
theorem outs_all (v : Nat → D) (n : Nat) : outs (fun _ => true) v n = (List.range n).map v := by
  unfold outs
  rw [List.filter_eq_self.mpr fun _ _ => rfl]
section
variable {T : TL} {K : PySem.W.Frag} {σ : L2.St} {H H' : Hp} {te ta tb tc tl : TE} {t u : TT} {d e : D} {ds es : List D} {v : V} {x y : D}
/-- the list that is made: after n turns -/
def Mk (T : TL) (K : PySem.W.Frag) (H : Hp) (f : Nat → Bool) (v : Nat → D) (Dl : Addr) (n : Nat) (H' : Hp) : Prop := Nw H Dl ∧ G T [] H H' ∧ Ls K H' Dl (outs f v n)
theorem mk_turn {f : Nat → Bool} {v : Nat → D} {Dl : Addr} {i : Nat} {σ2 : L2.St} (p : Mk T K H f v Dl i H') (hi : i < 1000000) (ht : EvT T t σ2 H (f i)) (he : f i = true → EvI T K te σ2 H (v i)) :
    t σ2 H' fun b H3 => if b = true then te σ2 H3 fun y H4 => ∃ acc, H4 Dl = some (.lst acc) ∧ acc.length < sizeLine ∧ Mk T K H f v Dl (i + 1) (upd H4 Dl (.lst (acc ++ [y]))) else Mk T K H f v Dl (i + 1) H3 := by
  obtain ⟨p1, p2, p3⟩ := p
  refine ht H' p2 _ fun H3 g3 => ?_
  cases hf : f i with
  | true =>
    rw [if_pos rfl]
    refine he hf H3 (p2.trans g3) _ fun z H4 g4 hz => ?_
    obtain ⟨vs, q1, q2⟩ := (p3.up0 g3).up0 g4
    refine ⟨vs, q1, Nat.lt_of_le_of_lt (by rw [q2.length]; exact outs_len f v i) (Nat.lt_of_lt_of_le hi (by decide)), p1, ((p2.trans g3).trans g4).put (.inr p1) q1, vs ++ [z], upd_same, ?_⟩
    rw [outs_yes hf]
    exact (q2.append (.cons hz .nil)).putH q1
  | false =>
    rw [if_neg Bool.false_ne_true]
    refine ⟨p1, p2.trans g3, ?_⟩
    rw [outs_no hf]
    exact p3.up0 g3
theorem mk_start {f : Nat → Bool} {v : Nat → D} {Dl : Addr} (tb : Tabs T H) (h : H Dl = none) : Mk T K H f v Dl 0 (upd H Dl (.lst [])) := ⟨.of h, .new tb h, [], upd_same, .nil⟩
theorem en_lcR {j : Nat} {vs : List Nat} {n : Int} {ta : TA} (f : Nat → Bool) (v : Nat → D) (h : EvA T K ta σ H [.int n]) (hn : n ≤ 1000000) (hw : ∀ x, wipe ((wipe σ vs).set j (some x)) vs = wipe σ vs)
    (ht : ∀ (i : Nat) H1, G T [] H H1 → (i : Int) < n → EvT T t ((wipe σ vs).set j (some (.int (i : Int)))) H1 (f i)) (he : ∀ (i : Nat) H1, G T [] H H1 → (i : Int) < n → f i = true → EvI T K te ((wipe σ vs).set j (some (.int (i : Int)))) H1 (v i))
    (h0 : -(2 ^ 62) ≤ n := by omega) : EvN T K (tLc (iRng1 ta) (gName j) t te vs) σ H (outs f v n.toNat) := fun H0 g Q q => h H0 g _ fun ws H1 g1 hws => by
  have e1 : ws = [.int n] := ima_ints (ns := [n]) hws
  refine ⟨n, e1, h0, by omega, fun Dl hD => lc_range (lo := 0) (n := n.toNat) (Mk T K H1 f v Dl) (mk_start g1.tabs hD) (fun i H' hi p => ?_) fun H' p => q _ H' (g1.trans p.2.1) ⟨Dl, rfl, p.1.back0 g1, p.2.2⟩⟩
  rw [Int.zero_add]
  exact ⟨hw _, mk_turn p (by omega) (ht i H1 (g.trans g1) (by omega)) fun hf => he i H1 (g.trans g1) (by omega) hf⟩
/-- over a list -/
theorem en_lcL {a : Addr} {j : Nat} {vs : List Nat} (f : Nat → Bool) (v : Nat → D) (h : EvI T K tl σ H (.ptr a)) (hx : Lr K H a ds) (hz : ds.length ≤ 1000000) (hw : ∀ x, wipe ((wipe σ vs).set j (some x)) vs = wipe σ vs)
    (ht : ∀ (i : Nat) (d : D) (z : V) H1, G T [] H H1 → ds[i]? = some d → Im K H1 z d → EvT T t ((wipe σ vs).set j (some z)) H1 (f i)) (he : ∀ (i : Nat) (d : D) (z : V) H1, G T [] H H1 → ds[i]? = some d → Im K H1 z d → f i = true → EvI T K te ((wipe σ vs).set j (some z)) H1 (v i)) :
    EvN T K (tLc (iList K tl) (gName j) t te vs) σ H (outs f v ds.length) := fun H0 g Q q => h H0 g _ fun w H1 g1 hv => by
  obtain ⟨xs, h1, h2⟩ := hx.up (g.trans g1)
  refine ⟨a, im_ptr hv, ⟨xs, h1⟩, fun Dl hD => ?_⟩
  refine lc_list (xs := xs) (Mk T K H1 f v Dl) (mk_start g1.tabs hD) (fun i H' _ p => p.2.1.seqL h1) (fun i x H' hi p => ⟨hw x, ?_⟩) fun H' p => q _ H' (g1.trans p.2.1) ⟨Dl, rfl, p.1.back0 g1, by rw [← h2.length]; exact p.2.2⟩
  obtain ⟨d, hd, hm⟩ := h2.getV hi
  have hlt := (List.getElem?_eq_some_iff.mp hd).1
  exact mk_turn p (by omega) (ht i d x H1 (g.trans g1) hd hm) fun hf => he i d x H1 (g.trans g1) hd hm hf
/-- over a list that was just made -/
theorem en_lcN {j : Nat} {vs : List Nat} (f : Nat → Bool) (v : Nat → D) (h : EvN T K tl σ H ds) (hz : ds.length ≤ 1000000) (hw : ∀ x, wipe ((wipe σ vs).set j (some x)) vs = wipe σ vs)
    (ht : ∀ (i : Nat) (d : D) (z : V) H1, G T [] H H1 → ds[i]? = some d → Im K H1 z d → EvT T t ((wipe σ vs).set j (some z)) H1 (f i)) (he : ∀ (i : Nat) (d : D) (z : V) H1, G T [] H H1 → ds[i]? = some d → Im K H1 z d → f i = true → EvI T K te ((wipe σ vs).set j (some z)) H1 (v i)) :
    EvN T K (tLc (iList K tl) (gName j) t te vs) σ H (outs f v ds.length) := fun H0 g Q q => h H0 g _ fun w H1 g1 hv => by
  obtain ⟨a, rfl, _, hx⟩ := hv
  obtain ⟨xs, h1, h2⟩ := hx.lr
  refine ⟨a, rfl, ⟨xs, h1⟩, fun Dl hD => ?_⟩
  refine lc_list (xs := xs) (Mk T K H1 f v Dl) (mk_start g1.tabs hD) (fun i H' _ p => p.2.1.seqL h1) (fun i x H' hi p => ⟨hw x, ?_⟩) fun H' p => q _ H' (g1.trans p.2.1) ⟨Dl, rfl, p.1.back0 g1, by rw [← h2.length]; exact p.2.2⟩
  obtain ⟨d, hd, hm⟩ := h2.getV hi
  have hlt := (List.getElem?_eq_some_iff.mp hd).1
  exact mk_turn p (by omega) (ht i d x H1 (g.trans g1) hd hm) fun hf => he i d x H1 (g.trans g1) hd hm hf
/-- over a tuple -/
theorem en_lcT {j : Nat} {vs : List Nat} (f : Nat → Bool) (v : Nat → D) (h : EvI T K tl σ H (.tup ds)) (hz : ds.length ≤ 1000000) (hw : ∀ x, wipe ((wipe σ vs).set j (some x)) vs = wipe σ vs)
    (ht : ∀ (i : Nat) (d : D) (z : V) H1, G T [] H H1 → ds[i]? = some d → Im K H1 z d → EvT T t ((wipe σ vs).set j (some z)) H1 (f i)) (he : ∀ (i : Nat) (d : D) (z : V) H1, G T [] H H1 → ds[i]? = some d → Im K H1 z d → f i = true → EvI T K te ((wipe σ vs).set j (some z)) H1 (v i)) :
    EvN T K (tLc (iTup K tl) (gName j) t te vs) σ H (outs f v ds.length) := fun H0 g Q q => h H0 g _ fun w H1 g1 hv => by
  obtain ⟨a, xs, rfl, h1, h2⟩ := im_tup hv
  refine ⟨a, rfl, ⟨xs, h1⟩, fun Dl hD => ?_⟩
  refine lc_tup (xs := xs) (Mk T K H1 f v Dl) (mk_start g1.tabs hD) (fun i H' _ p => p.2.1.seqT h1) (fun i x H' hi p => ⟨hw x, ?_⟩) fun H' p => q _ H' (g1.trans p.2.1) ⟨Dl, rfl, p.1.back0 g1, by rw [← h2.length]; exact p.2.2⟩
  obtain ⟨d, hd, hm⟩ := h2.getV hi
  have hlt := (List.getElem?_eq_some_iff.mp hd).1
  exact mk_turn p (by omega) (ht i d x H1 (g.trans g1) hd hm) fun hf => he i d x H1 (g.trans g1) hd hm hf

/-! ### what changes a list -/
/-- te, run in H, changes nothing but the lists at ms, and gives a value with A -/
def Rn (T : TL) (ms : List Addr) (te : TE) (σ : L2.St) (H : Hp) (A : V → Hp → Prop) : Prop := ∀ Q : VK, (∀ v H2, G T ms H H2 → A v H2 → Q v H2) → te σ H Q
theorem Ev.rn {A : Hp → V → Hp → Prop} {ms : List Addr} (h : Ev T te σ H A) (tb : Tabs T H) : Rn T ms te σ H (A H) := fun Q q => h H (.refl tb) Q fun v H2 g hv => q v H2 g.wide hv
/-- a comprehension over a range whose turns change the list at p: S, what it holds ahead of turn i -/
theorem rn_lcR {j : Nat} {vs : List Nat} {n : Int} {ta : TA} {p : Addr} (S : Nat → List D) (v : Nat → D) (h : EvA T K ta σ H [.int n]) (hn : n ≤ 1000000) (hw : ∀ x, wipe ((wipe σ vs).set j (some x)) vs = wipe σ vs) (hp : Ls K H p (S 0)) (tb : Tabs T H)
    (he : ∀ (i : Nat) H1, G T [p] H H1 → Ls K H1 p (S i) → (i : Int) < n → Rn T [p] te ((wipe σ vs).set j (some (.int (i : Int)))) H1 fun z H2 => Im K H2 z (v i) ∧ Ls K H2 p (S (i + 1)))
    (h0 : -(2 ^ 62) ≤ n := by omega) : Rn T [p] (tLc (iRng1 ta) (gName j) tYes te vs) σ H fun z H2 => ∃ q, z = .ref q ∧ Nw H q ∧ q ≠ p ∧ Ls K H2 q ((List.range n.toNat).map v) ∧ Ls K H2 p (S n.toNat) := fun Q q => h H (.refl tb) _ fun ws H1 g1 hws => by
  have e1 : ws = [.int n] := ima_ints (ns := [n]) hws
  have hp1 := hp.up0 g1
  refine ⟨n, e1, h0, by omega, fun Dl hD => ?_⟩
  have nD : Nw H Dl := (Nw.of hD).back0 g1
  have nDp : Dl ≠ p := by
    obtain ⟨zs, z1, _⟩ := hp1
    exact ((Nw.of hD).ne z1).symm
  refine lc_range (lo := 0) (n := n.toNat) (fun i H' => G T [p] H H' ∧ Ls K H' p (S i) ∧ Ls K H' Dl ((List.range i).map v)) ?_ (fun i H' hi p => ?_) fun H' p => q _ H' p.1 ⟨Dl, rfl, nD, nDp, p.2.2, p.2.1⟩
  · have gn : G T [] H1 (upd H1 Dl (.lst [])) := .new g1.tabs hD
    exact ⟨g1.wide.trans gn.wide, hp1.up0 gn, [], upd_same, .nil⟩
  · obtain ⟨p1, p2, p3⟩ := p
    rw [Int.zero_add]
    refine ⟨hw _, ?_⟩
    unfold tYes
    refine iteT ?_
    refine he i H' p1 p2 (by omega) _ fun z H4 g4 hz => ?_
    obtain ⟨z1, z2⟩ := hz
    obtain ⟨ys, y1, y2⟩ := p3.up g4 (by simpa using nDp)
    have gp : G T [] H4 H4 := .refl g4.tabs
    refine ⟨ys, y1, ?_, (p1.trans g4).put (.inr nD) y1, ?_, ys ++ [z], upd_same, ?_⟩
    · rw [y2.length, List.length_map, List.length_range]
      exact Nat.lt_of_lt_of_le (show i < 1000001 by omega) (by decide)
    · obtain ⟨cs, c1, c2⟩ := z2
      refine ⟨cs, ?_, c2.putH y1⟩
      rw [upd_ne nDp.symm]
      exact c1
    · rw [List.range_succ, List.map_append]
      exact (y2.append (.cons z1 .nil)).putH y1

/-! ### statements -/
variable {Dn : Ends} {tu tw tz : TS} {ms : List Addr}
theorem s_asg {A : V → Hp → Prop} {i : Nat} (h : Rn T ms te σ H A) (k : ∀ v H1, G T ms H H1 → A v H1 → Dn.nx (σ.set i (some v)) H1) : tAsg te (gName i) Dn σ H := h _ fun v H1 g hv => k v H1 g hv
theorem s_asgI {i : Nat} (tb : Tabs T H) (h : EvI T K te σ H d) (k : ∀ v H1, G T [] H H1 → Im K H1 v d → Dn.nx (σ.set i (some v)) H1) : tAsg te (gName i) Dn σ H := h H (.refl tb) _ fun v H1 g hv => k v H1 g hv
theorem s_asgZ {i : Nat} {n : Int} (tb : Tabs T H) (h : EvI T K te σ H (.int n)) (k : ∀ H1, G T [] H H1 → Dn.nx (σ.set i (some (.int n))) H1) : tAsg te (gName i) Dn σ H := h H (.refl tb) _ fun v H1 g hv => by
  rw [im_int hv]
  exact k H1 g
theorem s_asgN {i : Nat} (tb : Tabs T H) (h : EvN T K te σ H ds) (k : ∀ p H1, G T [] H H1 → Nw H p → Ls K H1 p ds → Dn.nx (σ.set i (some (.ref p))) H1) : tAsg te (gName i) Dn σ H := h H (.refl tb) _ fun v H1 g hv => by
  obtain ⟨p, rfl, h1, h2⟩ := hv
  exact k p H1 g h1 h2
theorem s_ret (tb : Tabs T H) (h : EvI T K te σ H d) (k : ∀ v H1, G T [] H H1 → Im K H1 v d → Dn.rt v H1) : tRet te Dn σ H := h H (.refl tb) _ k
theorem s_retN (tb : Tabs T H) (h : EvN T K te σ H ds) (k : ∀ p H1, G T [] H H1 → Nw H p → Ls K H1 p ds → Dn.rt (.ref p) H1) : tRet te Dn σ H := h H (.refl tb) _ fun v H1 g hv => by
  obtain ⟨p, rfl, h1, h2⟩ := hv
  exact k p H1 g h1 h2
theorem s_drop (tb : Tabs T H) (h : EvI T K te σ H d) (k : ∀ H1, G T [] H H1 → Dn.nx σ H1) : tDrop te Dn σ H := h H (.refl tb) _ fun v H1 g _ => k H1 g
theorem s_if {b : Bool} (tb : Tabs T H) (h : EvT T t σ H b) (h1 : b = true → ∀ H1, G T [] H H1 → tu Dn σ H1) (h2 : b = false → ∀ H1, G T [] H H1 → tw Dn σ H1) : tIfS t tu tw Dn σ H := h H (.refl tb) _ fun H1 g => by
  cases b with
  | true =>
    rw [if_pos rfl]
    exact h1 rfl H1 g
  | false =>
    rw [if_neg Bool.false_ne_true]
    exact h2 rfl H1 g
/-- xs.append(e) -/
theorem s_app {p : Addr} {tr : TE} (tb : Tabs T H) (hr : EvI T K tr σ H (.ptr p)) (h : EvI T K te σ H d) (hp : Ls K H p ds) (hz : ds.length < 1000000) (k : ∀ H1, G T [p] H H1 → Ls K H1 p (ds ++ [d]) → Dn.nx σ H1) : tDrop (tBM K "list" rAppend tr (tCons te tNil)) Dn σ H :=
  hr H (.refl tb) _ fun v H1 g1 hv => by
    rw [im_ptr hv]
    obtain ⟨vs, q1, q2⟩ := hp.up0 g1
    refine ⟨.inl ⟨rfl, _, SqL.of q1⟩, h H1 g1 _ fun w H2 g2 hw => ?_⟩
    obtain ⟨vs, q1, q2⟩ := (hp.up0 g1).up0 g2
    refine ⟨p, vs, w, rfl, rfl, q1, Nat.lt_of_le_of_lt (Nat.le_of_eq q2.length) (Nat.lt_of_lt_of_le hz (by decide)), k _ ((g1.trans g2).wide.put (.inl (by simp)) q1) ⟨vs ++ [w], upd_same, (q2.append (.cons hw .nil)).putH q1⟩⟩
end
end U
/-! list(reversed(a list)) -/
namespace LRev
open PySem PySem.Spec PyProof.Rows L2 LamX RT
section
variable {prog : Program} {w : World} {A : Around} {E : Value → Shared → Prop} {s : Shared}
theorem lri_no_len : typeLookup (.type "list_reverseiterator") "__len__" = pure none := by rw [typeLookup_type, builtinLookup_eq_fast]; kernel_rfl
theorem lri_hint : typeLookup (.type "list_reverseiterator") "__length_hint__" = pure (some (.builtin "list_reverseiterator.__length_hint__")) := by rw [typeLookup_type, builtinLookup_eq_fast]; kernel_rfl
theorem extend_rev {R : Result → Shared → Prop} (hh : A.handled = none) {it l S : Addr} {items : Array Value} {res : Value} {c₀ : Nat} (hit : s.heap.IsRevIter it l ((items.size : Int) - 1)) (hl : s.heap.IsList l items) (hne : l ≠ it) (hS : s.heap.get? S = some { cls := .type "list", data := .seq #[] c₀ }) (hSi : S ≠ it) (hSl : S ≠ l) (hn : items.size ≤ sizeLine)
    (hR : ∀ h' tk acc c', (∀ b o, b ≠ S → b ≠ it → s.heap.get? b = some o → h'.get? b = some o) → h'.get? S = some { cls := .type "list", dict := none, data := .seq acc c', slots := #[] } →
      ItemsOf (fun i v => items[items.size - 1 - i]? = some v) acc items.size → R (.ok (.ret res)) { s with heap := h', toks := tk }) :
    wpAny (model prog w) A.in1 (Builtin.List.listExtendWith (.ref S) (.ref it) res)
      (fun fin s' => match fin with | .done f => R (.ok f) s' | .again c' => c'.quiet = true ∧ codeAny (model prog w) A c' R s') (fun e s' => R (.error e) s') s := by
  have hT := hit.typeIs
  unfold Builtin.List.listExtendWith
  refine wpAny_bind (wpAny_typeOf hT ?_)
  have h1 : Builtin.List.listSameRef (.ref S) (.ref it) = false := by simp [Builtin.List.listSameRef, hSi]
  have h2 : (Value.type "list_reverseiterator" == Value.type "list") = false := by decide
  have h3 : (Value.type "list_reverseiterator" == Value.type "tuple") = false := by decide
  simp only [h1, h2, h3, Bool.or_false, Bool.false_eq_true, if_false]
  refine wpAny_bind (wpAny_pyIter_revIter hit ?_)
  refine wpAny_bind (wpAny_holding ?_)
  unfold Builtin.List.listLengthHint
  refine wpAny_bind (wpAny_specialOf hT lri_no_len ?_)
  show wpAny _ A.in1 (specialOf (Value.ref it) (Str.ofString "__length_hint__") >>= _) _ _ _
  refine wpAny_bind (wpAny_specialOf hT lri_hint ?_)
  wp_delta
  refine wpAny_bind (wpAny_isInstance hT (b := true) (by rw [isSubtype_type]; kernel_rfl) ?_)
  refine wpAny_pure ?_
  rw [if_neg (by decide)]
  have hSf : S ∉ [it, l] := fun hm => by
    rcases List.mem_cons.mp hm with e | hm
    · exact hSi e
    · exact hSl (List.mem_singleton.mp hm)
  have e0 : (items.size : Int) - 1 - ((0 : Nat) : Int) = (items.size : Int) - 1 := by omega
  refine wpAny_pure ⟨plainId_quiet F.plain_extend_loop _, codeAny_extend_loopS (Walks.listRev (A := A.in1) hh it l hne items).toS hn S hSf _ items.size 0 _ _ _ rfl (Nat.zero_le _)
    ⟨Nat.zero_le _, by rw [e0]; exact hit, hl⟩ hS (ItemsOf.nil _) fun s' acc c' hm hS' hacc => ?_⟩
  rw [Moved.eq_with hm]
  refine hR s'.heap s'.toks acc c' (fun b o hb hb2 e => hm.heap b o (fun hmem => ?_) e) hS' hacc
  rcases List.mem_cons.mp hmem with e' | hmem
  · exact hb e'
  · exact hb2 (List.mem_singleton.mp hmem)
theorem list_init_rev {R : Result → Shared → Prop} (hh : A.handled = none) {it l S : Addr} {items : Array Value} (hit : s.heap.IsRevIter it l ((items.size : Int) - 1)) (hl : s.heap.IsList l items) (hne : l ≠ it) (hS : s.heap.get? S = some { cls := .type "list", data := .seq #[] }) (hSi : S ≠ it) (hSl : S ≠ l) (hn : items.size ≤ sizeLine)
    (hR : ∀ h' tk acc c', (∀ b o, b ≠ S → b ≠ it → s.heap.get? b = some o → h'.get? b = some o) → h'.get? S = some { cls := .type "list", dict := none, data := .seq acc c', slots := #[] } →
      ItemsOf (fun i v => items[items.size - 1 - i]? = some v) acc items.size → R (.ok (.ret .none)) { s with heap := h', toks := tk }) :
    wpAny (model prog w) A.in1 (Builtin.«list.__init__» ⟨[.ref S, .ref it], []⟩)
      (fun fin s' => match fin with | .done f => R (.ok f) s' | .again c' => c'.quiet = true ∧ codeAny (model prog w) A c' R s') (fun e s' => R (.error e) s') s := by
  show wpAny _ A.in1 (do
    let old ← Builtin.List.listItems (.ref S)
    Builtin.List.listUpdate (.ref S) (fun _ => #[])
    letGo old.toList.reverse
    Builtin.List.listExtendWith (.ref S) (.ref it) .none) _ _ s
  refine wpAny_bind ?_
  unfold Builtin.List.listItems
  refine wpAny_bind (wpAny_seqItems hS rfl (wpAny_pure ?_))
  show wpAny _ A.in1 (updateSeq S (fun _ => #[]) >>= fun _ => letGo (#[] : Array Value).toList.reverse >>= fun _ => Builtin.List.listExtendWith (.ref S) (.ref it) .none) _ _ s
  refine wpAny_bind (wpAny_updateSeq hS rfl ?_)
  have hS2 := Heap.get?_update_self (Obj.mapSeq (fun _ => (#[] : Array Value))) hS rfl
  have kp : ∀ b o, b ≠ S → s.heap.get? b = some o → (s.heap.update S (Obj.mapSeq (fun _ => (#[] : Array Value)))).get? b = some o := fun b o hb e => (Heap.get?_update_other _ _ (Ne.symm hb)).trans e
  refine wpAny_bind (wpAny_letGo ?_)
  exact extend_rev hh (hit.at fun o e => kp it o hSi.symm e) (hl.at fun o e => kp l o hSl.symm e) hne hS2 hSi hSl hn fun h' tk acc c' hk hS' hacc => hR h' tk acc c' (fun b o hb hb2 e => hk b o hb hb2 (kp b o hb e)) hS' hacc
theorem call_list_rev {Q : Value → Shared → Prop} (hh : A.handled = none) {it l : Addr} {items : Array Value} (hit : s.heap.IsRevIter it l ((items.size : Int) - 1)) (hl : s.heap.IsList l items) (hne : l ≠ it) (hn : items.size ≤ sizeLine)
    (hQ : ∀ h' tk acc c', (∀ b o, b ≠ it → s.heap.get? b = some o → h'.get? b = some o) → h'.get? s.heap.objs.size = some { cls := .type "list", dict := none, data := .seq acc c', slots := #[] } →
      ItemsOf (fun i v => items[items.size - 1 - i]? = some v) acc items.size → Q (.ref s.heap.objs.size) { s with heap := h', toks := tk }) :
    wpAny (model prog w) A (call (.type "list") [.ref it]) Q E s := by
  obtain ⟨oi, hoi, _⟩ := id hit
  obtain ⟨ol, hol, _⟩ := id hl
  have n1 : s.heap.objs.size ≠ it := Nat.ne_of_gt (Heap.lt_size hoi)
  have n2 : s.heap.objs.size ≠ l := Nat.ne_of_gt (Heap.lt_size hol)
  refine callType_codes (Q₁ := fun obj s₁ => obj = .ref s.heap.objs.size ∧ s₁ = { s with heap := s.heap.push { cls := .type "list", data := .seq #[] } }) F.called_list (F.typeCall_list_1 _) F.entry_list_init
    (code_list_new _ ⟨rfl, rfl⟩) fun obj s₁ h₁ => ?_
  obtain ⟨rfl, rfl⟩ := h₁
  have hS : (s.heap.push { cls := .type "list", data := .seq #[] }).get? s.heap.objs.size = some { cls := .type "list", data := .seq #[] } := Heap.get?_push_size _ rfl
  refine ⟨⟨_, hS, rfl⟩, F.args_list_init_2 _ _, ?_⟩
  refine list_init_rev (A := A.in1) hh (hit.at fun o e => Heap.get?_push_of_some _ e) (hl.push _) hne hS n1 n2 hn fun h' tk acc c' hk hS' hacc => ⟨rfl, hQ h' tk acc c' (fun b o hb e => hk b o ?_ hb (Heap.get?_push_of_some _ e)) hS' hacc⟩
  exact Nat.ne_of_lt (Heap.lt_size e)
end
section
variable {X : Cx}
def tLstRev (K : PySem.W.Frag) (te : TE) : TE := fun σ H Q => te σ H fun v H1 => ∃ (a : Addr) (xs : List V), v = .ref a ∧ SqL K H1 a xs ∧ ∀ q, H1 q = none → Q (.ref q) (upd H1 q (.lst xs.reverse))
theorem pe_lstRev {e : Expr} {te : TE} {p p2 pos pos2 : Pos} (hc : X.calm = true) (hg : Gl X "list") (hm : X.mg "list" = none) (hg2 : Gl X "reversed") (hm2 : X.mg "reversed" = none) (he : PE X e te)
    (hs : starEach [e] X.env = (false, eval e X.env) :: starEach [] X.env := by rfl)
    (hs2 : starEach [.Call (.Name "reversed" p2) [e] [] pos2] X.env = (false, eval (.Call (.Name "reversed" p2) [e] [] pos2) X.env) :: starEach [] X.env := by rfl) :
    PE X (.Call (.Name "list" p) [.Call (.Name "reversed" p2) [e] [] pos2] [] pos) (tLstRev X.K te) := by
  refine ⟨fun pins s σ H Q I h => ?_⟩
  refine Call_ (ld_blt I hg hm boot_list (PyProof.Rows.callWith_type1 (args_cons (Call_ (ld_blt I hg2 hm2 PyProof.Rows.boot_reversed (PyProof.Rows.callWith_type1 (args_cons (thn (he.run pins s σ H _ I h) fun u s1 ⟨v, H1, I1, r1, q1⟩ => args_nil ?_) hs) hs rfl))) hs2) hs2 rfl))
  obtain ⟨a, xs, ev, hq, q⟩ := q1
  subst ev
  obtain rfl : u = Value.ref a := r1
  obtain ⟨its, rv, p', hz⟩ := I1.list hq
  refine call_reversed_list p'.isList (args_nil ?_)
  generalize hs2 : ({ s1 with heap := s1.heap.push (revObj a ((its.toArray.size : Int) - 1)) } : Shared) = s2
  have k0 : ∀ b o, s1.heap.get? b = some o → s2.heap.get? b = some o := fun b o e => by rw [← hs2]; exact Heap.get?_push_of_some _ e
  have I2 : Inv X pins σ H1 s2 := by
    rw [← hs2]
    exact I1.kept (t' := s1.toks) fun b o e => Heap.get?_push_of_some _ e
  have z2 : s2.heap.objs.size = s1.heap.objs.size + 1 := by rw [← hs2]; exact Heap.size_push _ _
  obtain ⟨f0, f1, f2, f3, f4, f5⟩ := I1.fpOk (H' := H1) (b := s1.heap.objs.size) (Nat.le_refl _) (I1.hok.fresh (Nat.le_refl _))
  have hl := p'.isList
  obtain ⟨ol, hol, _⟩ := id hl
  have hne : a ≠ s1.heap.objs.size := Nat.ne_of_lt (Heap.lt_size hol)
  have hn : its.toArray.size ≤ sizeLine := by rw [List.size_toArray, ← rv.length]; exact hz
  have hit : s2.heap.IsRevIter s1.heap.objs.size a ((its.toArray.size : Int) - 1) := by
    rw [← hs2]
    exact ⟨_, Heap.get?_push_size _ rfl, rfl, rfl⟩
  refine call_list_rev (I1.ok.hd hc) hit (hl.at fun o e => k0 a o e) hne hn fun h' tk acc c' hk hS hi => ?_
  have nS : H1 s2.heap.objs.size = none := I2.hok.fresh (Nat.le_refl _)
  have hr := vals_rev rv hi
  -- from the state ahead of the iterator: the list is laid
  have k1 : ∀ b o, s1.heap.get? b = some o → h'.get? b = some o := fun b o e => hk b o (Nat.ne_of_lt (Heap.lt_size e)) (k0 b o e)
  have new : ObjOk X.prog X.w (upd H1 s2.heap.objs.size (.lst xs.reverse)) h' s2.heap.objs.size (.lst xs.reverse) := by
    refine ⟨by rw [List.length_reverse]; exact hz, acc.toList, c', hr, ?_⟩
    rw [Array.toArray_toList]
    exact hS
  have I3 : Inv X pins σ (upd H1 s2.heap.objs.size (.lst xs.reverse)) { s1 with heap := h', toks := tk } := I1.laid (t' := tk) k1 (by omega) new
  rw [show ({ s2 with heap := h', toks := tk } : Shared) = { s1 with heap := h', toks := tk } by rw [← hs2]]
  exact ⟨.ref s2.heap.objs.size, _, I3, rfl, q _ nS⟩
end
end LRev
/-! The text's defs, their calls; lambdas handed on; isinstance; what changes lists. -/
namespace U
open PySem PySem.Spec PyProof.Rows L2 LamX NdefX Clo LRev

/-! ### defs of the text -/
structure Dfn (K : PySem.W.Frag) (mg : Str → Option Value) (x : Str) (st : Stmt) (ps : List Str) where
  f : Addr
  fd : FuncData
  F : Fun K x x st f fd
  g : mg x = some (.ref f)
  b : Binds K fd ps []
section
variable {X : Cx} {k : Nat} {x : Str} {st : Stmt} {ps : List Str} {sp : Sp} {p pos : Pos} {e : Expr} {es : List Expr} {t : TA}
theorem pc (D : Dfn X.K X.mg x st ps) (G : FnOk X.prog X.w X.K X.mg X.base L2.CX0 k D.f D.fd ps sp) (hr : Room k X.A) (hg : Gl X x) (ha : PA X (e :: es) t) (hdb : (x == ("__debug__" : Str)) = false := by decide)
    (he : starEach (e :: es) X.env = (false, eval e X.env) :: starEach es X.env := by rfl) (hpl : (backTo pos (starEach es X.env)).any (·.1) = false := by rfl) : PE X (.Call (.Name x p) (e :: es) [] pos) (tCall sp [] L2.E0 t) :=
  pe_call G hr hg D.g D.F.kp D.b .nil pass0 ha hdb he hpl
/-- values put in another order -/
def perm {α : Type} (z : α) (prm : List Nat) (vs : List α) : List α := prm.map fun i => vs.getD i z
theorem vals_perm {vs : List V} {us : List Value} (r : Vals vs us) : ∀ prm : List Nat, Vals (perm V.non prm vs) (perm Value.none prm us)
  | [] => .nil
  | i :: prm => by
    refine .cons ?_ (vals_perm r prm)
    show RelV (vs.getD i .non) (us.getD i .none)
    rw [List.getD_eq_getElem?_getD, List.getD_eq_getElem?_getD]
    cases h : vs[i]? with
    | none =>
      rw [r.none_of h]
      rfl
    | some v =>
      obtain ⟨u, h1, h2⟩ := r.get h
      rw [h1]
      exact h2
/-- f(k = e, ..): every parameter by its name -/
def tCallP (sp : Sp) (n : Nat) (prm : List Nat) (tk : TA) : TE := fun σ H Q => tk σ H fun zs H2 => zs.length = n ∧ sp (perm V.non prm zs) H2 Q L2.E0
theorem pck {kws : List Keyword} {tk : TA} {ks : List Str} {prm : List Nat} (D : Dfn X.K X.mg x st ps) (G : FnOk X.prog X.w X.K X.mg X.base L2.CX0 k D.f D.fd ps sp) (hr : Room k X.A) (hg : Gl X x)
    (hb : ∀ (s : Shared) (ws : List Value), ws.length = ks.length → BindsTo s D.fd ⟨[], ks.zip ws⟩ (ps.zip (perm Value.none prm ws))) (hkw : PK X kws tk)
    (hdb : (x == ("__debug__" : Str)) = false := by decide) (hall : (backToKw pos (keywordEach kws X.env)).all (·.1.isSome) = true := by rfl) (hks : (backToKw pos (keywordEach kws X.env)).filterMap (·.1) = ks := by rfl)
    (hpl : ((backTo pos (starEach [] X.env)).any (·.1) || (backToKw pos (keywordEach kws X.env)).any (·.1.isNone)) = false := by rfl) :
    PE X (.Call (.Name x p) [] kws pos) (tCallP sp ks.length prm tk) := by
  refine ⟨fun pins s σ H Q I h => ?_⟩
  refine wpAny_Call_Name_kw (ld_glob I hg D.g ?_ hdb)
  refine PySem.W.callWith_KW0 (h₀ := X.base) I.ok.mod.kin D.F.kp hall (thn (hkw.run pos pins s σ H _ I h) fun ws s2 ⟨zs, H2, I2, rz, hl, q⟩ => ⟨I2.kIn, ?_⟩) hpl
  rw [hks]
  have hw : ws.length = ks.length := by rw [← rz.length]; exact hl
  have rp := vals_perm rz prm
  refine wpAny_call (codeAny_mono (G.run X.A X.stack s2 H2 ⟨[], ks.zip ws⟩ (perm Value.none prm ws) (perm V.non prm zs) Q L2.E0 hr I2.env0 (hb s2 ws hw) rp q) fun r s' hq => ?_)
  cases r with
  | error e => exact (show False from hq).elim
  | ok fl =>
    cases fl with
    | ret u => exact I2.after hq
    | next => exact False.elim hq
    | brk => exact False.elim hq
    | cont => exact False.elim hq
end
section
variable {T : TL} {K : PySem.W.Frag} {σ : L2.St} {H H' : Hp} {te ta tb tc tl : TE} {t u : TT} {d e : D} {ds es : List D} {v : V} {x y : D}
theorem ima_perm {vs : List V} (r : ImA K H vs ds) : ∀ prm : List Nat, ImA K H (perm V.non prm vs) (perm D.non prm ds)
  | [] => .nil
  | i :: prm => by
    refine .cons ?_ (ima_perm r prm)
    show Im K H (vs.getD i .non) (ds.getD i .non)
    rw [List.getD_eq_getElem?_getD, List.getD_eq_getElem?_getD]
    cases h : ds[i]? with
    | none =>
      have h2 : vs[i]? = none := by
        rw [List.getElem?_eq_none_iff] at h ⊢
        rw [r.length]
        exact h
      rw [h2]
      exact .non
    | some d =>
      obtain ⟨u, h1, h2⟩ := r.get h
      rw [h1]
      exact h2
theorem ei_callP {F : List D → D → Prop} {n : Nat} {prm : List Nat} {tk : TA} (h : EvA T K tk σ H ds) (hn : ds.length = n) (hF : F (perm D.non prm ds) d) : EvI T K (tCallP (spF T K F) n prm tk) σ H d := fun H1 g Q q =>
  h H1 g _ fun vs H2 g2 hvs => ⟨by rw [hvs.length]; exact hn, _, d, ima_perm hvs prm, g2.tabs, hF, fun v H3 g3 hv => q v H3 (g2.trans g3) hv⟩

/-! ### isinstance -/
/-- the type's name of a datum (of no list) -/
def tyD : D → String
  | .non => "NoneType"
  | .bl _ => "bool"
  | .int _ => "int"
  | .str _ => "str"
  | .tup _ => "tuple"
  | .ptr _ => "list"
theorem tyx_im (h : Im K H v d) (hp : ∀ a, d ≠ .ptr a) : TyX K H v (.type (tyD d)) := by
  cases h with
  | non => exact .base .non
  | bl b => exact .base (.bl b)
  | int i => exact .base (.int i)
  | str s => exact .base (.str s)
  | tup h r =>
    rcases h with (h | ⟨o, h⟩) | ⟨o, its, n, h1, h2, _⟩
    · exact .base (.tup h)
    · exact .fTuple h
    · exact .kTuple h1 h2
  | ptr a => exact absurd rfl (hp a)
theorem ei_isi {T' : TL} {ty : String} {b : Bool} (h : EvI T K ta σ H d) (hp : ∀ a, d ≠ .ptr a) (hk : kitB (tyD d) ty = some b) : EvI T K (tCB (rIsi K) (tCons ta (tCons (tC (.ty ty)) tNil))) σ H (.bl b) := fun H1 g Q q =>
  h H1 g _ fun v H2 g2 hv => ⟨v, .ty ty, .type (tyD d), .type ty, b, rfl, .ty ty, tyx_im hv hp, kit_ty hk, q _ H2 g2 (.bl b)⟩
/-- a list is no .. -/
theorem ei_isiL {ty : String} {b : Bool} {p : Addr} (h : EvI T K ta σ H (.ptr p)) (hl : Ls K H p ds) (hk : kitB "list" ty = some b) : EvI T K (tCB (rIsi K) (tCons ta (tCons (tC (.ty ty)) tNil))) σ H (.bl b) := fun H1 g Q q =>
  h H1 g _ fun v H2 g2 hv => by
    obtain ⟨vs, h1, _⟩ := (hl.up0 g).up0 g2
    rw [im_ptr hv]
    exact ⟨.ref p, .ty ty, .type "list", .type ty, b, rfl, .ty ty, .base (.lst h1), kit_ty hk, q _ H2 g2 (.bl b)⟩

/-! ### list(range(..)), list(reversed(..)) -/
theorem en_listRg1 {n : Int} (h : EvI T K ta σ H (.int n)) (h0 : 0 ≤ n) (h1 : n ≤ 1000000) : EvN T K (tLstRg (tRg1 ta)) σ H ((List.range n.toNat).map fun i => D.int (i : Nat)) := fun H1 g Q q =>
  h H1 g _ fun v H2 g2 hv => by
    refine ⟨n, im_int hv, .of_le (by omega) (by omega) (by omega) h0, fun p hp => ?_⟩
    have gn : G T [] H2 (upd H2 p (.lst (rgV 0 n))) := G.new g2.tabs hp
    refine q _ _ (g2.trans gn) ⟨p, rfl, (Nw.of hp).back0 g2, _, upd_same, ?_⟩
    have e : rgV 0 n = ((List.range n.toNat).map fun i => ((i : Nat) : Int)).map V.int := by
      unfold rgV
      rw [List.map_map, show (n - 0).toNat = n.toNat by omega]
      refine List.map_congr_left fun i _ => ?_
      show V.int (0 + (i : Int)) = V.int (i : Int)
      rw [Int.zero_add]
    rw [e, show ((List.range n.toNat).map fun i => D.int (i : Nat)) = ((List.range n.toNat).map fun i => ((i : Nat) : Int)).map D.int by rw [List.map_map]; rfl]
    exact ints_ima _
theorem en_lstRev {p : Addr} (h : EvI T K ta σ H (.ptr p)) (hl : Lr K H p ds) : EvN T K (tLstRev K ta) σ H ds.reverse := fun H1 g Q q =>
  h H1 g _ fun v H2 g2 hv => by
    obtain ⟨vs, h1, h2⟩ := hl.up (g.trans g2)
    refine ⟨p, vs, im_ptr hv, h1, fun l hl => ?_⟩
    have gn : G T [] H2 (upd H2 l (.lst vs.reverse)) := G.new g2.tabs hl
    exact q _ _ (g2.trans gn) ⟨l, rfl, (Nw.of hl).back0 g2, _, upd_same, (h2.up gn).rev⟩

/-! ### what changes a list -/
/-- xs.pop() -/
theorem rn_pop {p : Addr} (tb : Tabs T H) (h : EvI T K ta σ H (.ptr p)) (hp : Ls K H p (ds ++ [d])) : Rn T [p] (tBM0 K "list" rPop ta) σ H fun z H2 => Im K H2 z d ∧ Ls K H2 p ds := fun Q q =>
  h H (.refl tb) _ fun v H1 g hv => by
    rw [im_ptr hv]
    obtain ⟨vs, h1, h2⟩ := hp.up0 g
    have hl := h2.length
    rw [List.length_append, List.length_cons, List.length_nil] at hl
    obtain ⟨z, z1, z2⟩ := h2.get (i := ds.length) (d := d) (by rw [List.getElem?_append_right (Nat.le_refl _), Nat.sub_self]; rfl)
    refine ⟨.inl ⟨rfl, _, SqL.of h1⟩, p, vs, z, rfl, rfl, h1, by rw [hl]; exact z1, q _ _ (g.wide.put (.inl (by simp)) h1) ⟨z2.put h1, vs.dropLast, upd_same, ?_⟩⟩
    have h3 := h2.init
    rw [List.dropLast_concat] at h3
    exact h3.putH h1
theorem G.more {ms' : List Addr} {ms : List Addr} (h : G T ms H H') (sub : ∀ a ∈ ms, a ∈ ms') : G T ms' H H' := ⟨fun a o e n z => h.keep a o e (fun q => n (sub a q)) z, h.fix, h.tabs⟩
/-- xs.pop(i), i reckoned by something that changes other lists -/
theorem r_popAt {p : Addr} {ms : List Addr} {A : V → Hp → Prop} {tz : TE} {Q : VK} (tb : Tabs T H) (h : EvI T K ta σ H (.ptr p)) (hp : Ls K H p ds) (hm : p ∉ ms) (hz : ds.length < 1000000) (hi : ∀ H1, G T [] H H1 → Rn T ms tz σ H1 A) (hA : ∀ z H2, A z H2 → ∃ i : Nat, z = .int (i : Nat) ∧ i < ds.length)
    (q : ∀ (i : Nat) d z vs H2, G T ms H H2 → A (.int (i : Nat)) H2 → H2 p = some (.lst vs) → ImA K H2 vs ds → ds[i]? = some d → Im K H2 z d → Q z (upd H2 p (.lst (vs.eraseIdx i)))) : tBM K "list" rPopAt ta (tCons tz tNil) σ H Q :=
  h H (.refl tb) _ fun v H1 g hv => by
    rw [im_ptr hv]
    obtain ⟨vs, h1, h2⟩ := hp.up0 g
    refine ⟨.inl ⟨rfl, _, SqL.of h1⟩, hi H1 g _ fun w H2 g2 hw => ?_⟩
    obtain ⟨vs, h1, h2⟩ := (hp.up0 g).up g2 hm
    obtain ⟨i, ew, hid⟩ := hA w H2 hw
    subst ew
    have hd : ds[i]? = some ds[i] := List.getElem?_eq_getElem hid
    obtain ⟨z, z1, z2⟩ := h2.get hd
    have hlt : i < vs.length := (List.getElem?_eq_some_iff.mp z1).1
    have hl := h2.length
    exact ⟨p, vs, i, i, z, rfl, rfl, h1, by omega, by omega, by rw [seqIndex_of (by omega) (by omega)]; rfl, z1, q i _ z vs H2 (g.wide.trans g2) hw h1 h2 hd z2⟩
/-- xs.append(e), e reckoned by something that changes other lists -/
theorem r_app {p : Addr} {ms : List Addr} {A : V → Hp → Prop} {Q : VK} (tb : Tabs T H) (h : EvI T K ta σ H (.ptr p)) (hp : Ls K H p ds) (hm : p ∉ ms) (hz : ds.length < 1000000) (hi : ∀ H1, G T [] H H1 → Rn T ms te σ H1 A)
    (q : ∀ z vs H2, G T ms H H2 → A z H2 → H2 p = some (.lst vs) → ImA K H2 vs ds → Q .non (upd H2 p (.lst (vs ++ [z])))) : tBM K "list" rAppend ta (tCons te tNil) σ H Q :=
  h H (.refl tb) _ fun v H1 g hv => by
    rw [im_ptr hv]
    obtain ⟨vs, h1, h2⟩ := hp.up0 g
    refine ⟨.inl ⟨rfl, _, SqL.of h1⟩, hi H1 g _ fun w H2 g2 hw => ?_⟩
    obtain ⟨vs, h1, h2⟩ := (hp.up0 g).up g2 hm
    exact ⟨p, vs, w, rfl, rfl, h1, Nat.lt_of_le_of_lt (Nat.le_of_eq h2.length) (Nat.lt_of_lt_of_le hz (by decide)), q w vs H2 (g.wide.trans g2) hw h1 h2⟩
/-- xs.insert(i, e) -/
abbrev rInsQ : V → List V → Hp → VK → Prop := fun x vs H Q => ∃ (l : Addr) (xs : List V) (i : Int) (y : V), x = .ref l ∧ vs = [.int i, y] ∧ H l = some (.lst xs) ∧ xs.length < sizeLine ∧ 0 ≤ i ∧ i < 2 ^ 63 ∧ Q .non (upd H l (.lst (xs.take i.toNat ++ [y] ++ xs.drop i.toNat)))
theorem r_ins {p : Addr} {ms : List Addr} {A : V → Hp → Prop} {tz : TE} {Q : VK} (tb : Tabs T H) (h : EvI T K ta σ H (.ptr p)) (hp : Ls K H p ds) (hm : p ∉ ms) (hz : ds.length < 1000000) (hi : ∀ H1, G T [] H H1 → Rn T ms tz σ H1 A) (hA : ∀ z H2, A z H2 → ∃ i : Nat, z = .int (i : Nat) ∧ i < 1000000) (he : ∀ H1, G T ms H H1 → EvI T K te σ H1 d)
    (hst : ∀ z H1 H2, A z H1 → G T [] H1 H2 → A z H2)
    (q : ∀ (i : Nat) z vs H2, G T ms H H2 → A (.int (i : Nat)) H2 → H2 p = some (.lst vs) → ImA K H2 vs ds → Im K H2 z d → Q .non (upd H2 p (.lst (vs.take i ++ [z] ++ vs.drop i)))) : tBM K "list" rInsQ ta (tCons tz (tCons te tNil)) σ H Q :=
  h H (.refl tb) _ fun v H1 g hv => by
    rw [im_ptr hv]
    obtain ⟨vs, h1, h2⟩ := hp.up0 g
    refine ⟨.inl ⟨rfl, _, SqL.of h1⟩, hi H1 g _ fun w H2 g2 hw => ?_⟩
    obtain ⟨i, ew, hi2⟩ := hA w H2 hw
    subst ew
    refine he H2 (g.wide.trans g2) H2 (.refl g2.tabs) _ fun z H3 g3 hz3 => ?_
    obtain ⟨vs, h1, h2⟩ := ((hp.up0 g).up g2 hm).up0 g3
    exact ⟨p, vs, i, z, rfl, rfl, h1, Nat.lt_of_le_of_lt (Nat.le_of_eq h2.length) (Nat.lt_of_lt_of_le hz (by decide)), by omega, by omega, q i z vs H3 ((g.wide.trans g2).trans g3.wide) (hst _ _ _ hw g3) h1 h2 hz3⟩
end

/-! ### a lambda handed on -/
section
variable {X : Cx} {T : TL}
/-- x(lambda .., y): ws what the lambda captures, v the value of y (slot i2) -/
def tLam2 (T : TL) (js : List Nat) (i2 : Nat) (q : Str) (spc : Addr → Addr → List V → Sp) : TE := fun σ H Q => ∃ (ws : List V) (v : V), js.map (slotAt σ) = ws.map some ∧ σ[i2]? = some (some v) ∧ Tabs T H ∧
  ∀ f c' H1, G T [] H H1 → H1 c' = some (CodeO c' q) → spc f c' ws [.ref f, v] H1 Q L2.E0
theorem pe_lam2 {x a2 pa pb : Str} {st : Stmt} {c P : Addr} {k i2 : Nat} {params : Arguments} {body : Expr} {scope : Scope} {fr : List Str} {js : List Nat} {spc : Addr → Addr → List V → Sp} {p p2 lpos pos : Pos} (D : Dfn X.K X.mg x st [pa, pb])
    (hG : ∀ (base' : Heap) (f c' : Addr) (cl : List (Str × Addr)) (ws : List V), IsClo base' f c' (X.env.qual ++ "<lambda>") params body scope cl fr ws → FnOk X.prog X.w X.K X.mg base' L2.CX0 k D.f D.fd [pa, pb] (spc f c' ws)) (hr : Room k X.A) (hg : Gl X x)
    (TB : TabB X.base X.mg c P) (hcode : X.env.code = .ref c) (hm : (P, X.env.qual ++ "<lambda>") ∈ T) (hu : ∀ p ∈ T, p.1 = P → p.2 = X.env.qual ++ "<lambda>") (hdef : defaultsOf params X.env = ([], []))
    (hfree : ∀ y ∈ scope.names, y.2 = .free → X.env.scope.names.lookup y.1 = some .cell ∨ X.env.scope.names.lookup y.1 = some .free) (hfr : ∀ y ∈ fr, (y, NameKind.free) ∈ scope.names) (hjs : js.map (fun j => X.N[j]?) = fr.map some) (hfn : ∀ y, X.fn y = true)
    (hN2 : X.N[i2]? = some a2) (hv2 : Vis X.env.scope a2) (hdb : (x == ("__debug__" : Str)) = false := by decide) (hd2 : (a2 == ("__debug__" : Str)) = false := by decide) (hcd2 : (a2 == ("__classdict__" : Str)) = false := by decide)
    (he : starEach [.Lambda params body scope lpos, .Name a2 p2] X.env = (false, eval (.Lambda params body scope lpos) X.env) :: starEach [.Name a2 p2] X.env := by rfl) (hpl : (backTo pos (starEach [.Name a2 p2] X.env)).any (·.1) = false := by rfl)
    (he2 : starEach [.Name a2 p2] X.env = (false, eval (.Name a2 p2) X.env) :: starEach [] X.env := by rfl) :
    PE X (.Call (.Name x p) [.Lambda params body scope lpos, .Name a2 p2] [] pos) (tLam2 T js i2 (X.env.qual ++ "<lambda>") spc) := by
  refine ⟨fun pins s σ H Q I h => ?_⟩
  obtain ⟨ws, v, hws, hv, hT, h⟩ := h
  have cfree : ∀ y ∈ scope.names, y.2 = .free → ∃ c, X.env.cells.lookup y.1 = some c := fun y hy e => by
    rcases hfree y hy e with k | k
    · exact I.ok.has _ (.inl k)
    · exact I.ok.has _ (.inr k)
  refine wpAny_Call_Name_kw (ld_glob I hg D.g ?_ hdb)
  refine PySem.W.callWith_K (h₀ := X.base) I.ok.mod.kin D.F.kp ?_ he hpl
  rw [he]
  show wpAny _ _ (spliced ((false, eval (.Lambda params body scope lpos) X.env) :: backTo pos (starEach [.Name a2 p2] X.env))) _ _ s
  refine Calls.spliced_cons (lam_make2 I TB hcode hm hu hT hdef cfree fun f c' pm' ctv H1 s' I1 eN T1 hf hfn1 hfr1 hco => ?_)
  have fne : f ≠ X.env.locals := fun z => by
    obtain ⟨m, ⟨o, es, ep, e, hd, _⟩, _⟩ := I1.loc
    rw [← z, hf] at e
    cases e
    cases hd
  have fnf : f ∉ X.fs := fun z => hfr1 (by
    rcases I.ok.stk with e | ⟨e, _⟩
    · rw [e]
      exact z
    · rw [e]
      obtain ⟨env, h1, h2⟩ := List.mem_filterMap.mp z
      exact List.mem_filterMap.mpr ⟨env, List.mem_cons_of_mem _ h1, h2⟩)
  have I1' : Inv X ((f, PySem.W.kla_obj "<lambda>" (X.env.qual ++ "<lambda>") params body scope (cloFrom X.env.cells scope.names []) pm' c' ctv) :: pins) σ H1 s' := I1.pins_of fun p hp => by
    rcases List.mem_cons.mp hp with z | z
    · rw [z]
      exact ⟨hf, hfn1, fne, fnf, fun v z => by cases z⟩
    · exact I1.pin p (List.mem_append_right _ z)
  refine thn ((pa_cons (pe_var (i := i2) hN2 hv2 hd2 hcd2) pa_nil he2).run pos _ s' σ H1 (fun vs H2 => vs = [v] ∧ H2 = H1) I1' ⟨v, hv, rfl, rfl⟩) fun us s2 ⟨vs, H2, I2', r, e1, e2⟩ => ?_
  subst e1
  rw [e2] at I2'
  have I2 : Inv X pins σ H1 s2 := I2'.pins_of fun p hp => I2'.pin p (List.mem_append_right _ (List.mem_cons_of_mem _ hp))
  have hf2 := (I2'.pin (f, _) (List.mem_append_right _ List.mem_cons_self)).1
  have C : CellsAt (cloFrom X.env.cells scope.names []) fr (js.map (slotAt σ)) s2.heap H1 := cells_of I2 (Caps.made I2.ok hfree hfr hjs)
  have stl : ∀ {y : Str} {c : Addr} {v : Option Value}, (cloFrom X.env.cells scope.names []).lookup y = some c → s2.heap.IsCell c v → (still s2.heap H1 (frs X.stack)).IsCell c v := fun {y c v} e ⟨o, ho, hd⟩ => by
    refine ⟨o, still_get ho (C.all y c e).1 fun hm => ?_, hd⟩
    have ec := (Caps.made (fr := fr) (js := js) I2.ok hfree hfr hjs).sub y c e
    rcases List.mem_cons.mp (I2.stkSub c hm) with z | z
    · exact I2.cne y c ec z
    · obtain ⟨_, o', ho', _⟩ := I2.ok.funs.mem z
      exact absurd (Nat.lt_of_lt_of_le (Heap.lt_size ho') (I2.ok.cab y c (hfn y) ec)) (Nat.lt_irrefl _)
  have B : IsClo (still s2.heap H1 (frs X.stack)) f c' (X.env.qual ++ "<lambda>") params body scope (cloFrom X.env.cells scope.names []) fr ws := by
    have hl : ws.length = fr.length := by
      have q := C.len
      rw [hws, List.length_map] at q
      exact q
    refine ⟨⟨pm', ctv, still_get hf2 hfn1 hfr1⟩, hl, C.inj, fun y c e => ?_, fun i y w ey ew => ?_⟩
    · obtain ⟨_, w, z⟩ := C.all y c e
      exact ⟨w, stl e z⟩
    · obtain ⟨c, e, hc⟩ := C.has i y ey
      obtain ⟨u, ru, z⟩ := hc w (by rw [hws, List.getElem?_map, ew]; rfl)
      exact ⟨c, u, e, ru, stl e z⟩
  have e0 := env_still I2
  have g1 : G T [] H H1 := ⟨fun a o e _ z => eN a o e z, fun a o e z => eN a o e (fixed_tbl z), T1⟩
  refine ⟨I2.kIn, ?_⟩
  show wpAny _ _ (call (.ref D.f) (.ref f :: us)) _ _ _
  have r2 : Vals (V.ref f :: [v]) (Value.ref f :: us) := .cons rfl r
  have hl : ((Value.ref f :: us) ++ ([] : List Value)).length = [pa, pb].length := by
    rw [List.append_nil, ← r2.length]
    rfl
  have hb := D.b s2 (Value.ref f :: us) I2.kIn hl
  rw [List.append_nil] at hb
  refine wpAny_call (codeAny_mono ((hG _ f c' _ ws B).run X.A X.stack s2 H1 ⟨Value.ref f :: us, []⟩ (Value.ref f :: us) [.ref f, v] Q L2.E0 hr e0 hb r2 (h f c' H1 g1 hco)) fun r s' hq => ?_)
  cases r with
  | error e => exact (show False from hq).elim
  | ok fl =>
    cases fl with
    | ret u => exact I2.after hq
    | next => exact False.elim hq
    | brk => exact False.elim hq
    | cont => exact False.elim hq
end
end U
namespace K02
open PySem PySem.Spec PyProof.Rows L2 LamX NdefX Clo LRev U
/-! ### the text -/
def topS (i : Nat) : Stmt := PySem.Challenge.pw_unsewn_k02_whole_gates_and_pieces.main.body.getD i (.Pass ⟨0, 0, 0, 0⟩)
abbrev s_need : Stmt := topS 5
theorem sc_need : FnScope ["holds", "name"] ["holds", "name"] (defScope s_need) := ⟨rfl, rfl, rfl, by decide +kernel, rfl, by decide +kernel, by decide +kernel⟩
abbrev s_reached_from : Stmt := topS 7
theorem sc_reached_from : FnScope ["pairs", "word", "beside", "seen", "waiting", "first", "catchword", "here", "near"] ["pairs", "word"] (defScope s_reached_from) := ⟨rfl, rfl, rfl, by decide +kernel, rfl, by decide +kernel, by decide +kernel⟩
abbrev s_is_integer : Stmt := topS 9
theorem sc_is_integer : FnScope ["thing"] ["thing"] (defScope s_is_integer) := ⟨rfl, rfl, rfl, by decide +kernel, rfl, by decide +kernel, by decide +kernel⟩
abbrev s_is_number : Stmt := topS 10
theorem sc_is_number : FnScope ["thing"] ["thing"] (defScope s_is_number) := ⟨rfl, rfl, rfl, by decide +kernel, rfl, by decide +kernel, by decide +kernel⟩
abbrev s_is_below : Stmt := topS 11
theorem sc_is_below : FnScope ["many", "thing"] ["many", "thing"] (defScope s_is_below) := ⟨rfl, rfl, rfl, by decide +kernel, rfl, by decide +kernel, by decide +kernel⟩
abbrev s_is_tuple_of : Stmt := topS 12
theorem sc_is_tuple_of : FnScope ["check", "thing", "part"] ["check", "thing"] (defScope s_is_tuple_of) := ⟨rfl, rfl, rfl, by decide +kernel, rfl, by decide +kernel, by decide +kernel⟩
abbrev s_are_below : Stmt := topS 13
theorem sc_are_below : FnScope ["many", "thing"] ["many", "thing"] (defScope s_are_below) := ⟨rfl, rfl, rfl, by decide +kernel, rfl, by decide +kernel, by decide +kernel⟩
abbrev s_ascends : Stmt := topS 14
theorem sc_ascends : FnScope ["row", "at"] ["row"] (defScope s_ascends) := ⟨rfl, rfl, rfl, by decide +kernel, rfl, by decide +kernel, by decide +kernel⟩
abbrev s_is_word : Stmt := topS 15
theorem sc_is_word : FnScope ["heap", "thing"] ["heap", "thing"] (defScope s_is_word) := ⟨rfl, rfl, rfl, by decide +kernel, rfl, by decide +kernel, by decide +kernel⟩
abbrev s_is_lot : Stmt := topS 16
theorem sc_is_lot : FnScope ["heap", "thing"] ["heap", "thing"] (defScope s_is_lot) := ⟨rfl, rfl, rfl, by decide +kernel, rfl, by decide +kernel, by decide +kernel⟩
abbrev s_is_set_below : Stmt := topS 17
theorem sc_is_set_below : FnScope ["many", "thing"] ["many", "thing"] (defScope s_is_set_below) := ⟨rfl, rfl, rfl, by decide +kernel, rfl, by decide +kernel, by decide +kernel⟩
abbrev s_gates_of : Stmt := topS 19
theorem sc_gates_of : FnScope ["heap", "lot"] ["heap", "lot"] (defScope s_gates_of) := ⟨rfl, rfl, rfl, by decide +kernel, rfl, by decide +kernel, by decide +kernel⟩
abbrev s_within : Stmt := topS 20
theorem sc_within : FnScope ["heap", "lot"] ["heap", "lot"] (defScope s_within) := ⟨rfl, rfl, rfl, by decide +kernel, rfl, by decide +kernel, by decide +kernel⟩
abbrev s_leaving : Stmt := topS 21
theorem sc_leaving : FnScope ["heap", "lot"] ["heap", "lot"] (defScope s_leaving) := ⟨rfl, rfl, rfl, by decide +kernel, rfl, by decide +kernel, by decide +kernel⟩
abbrev s_entering : Stmt := topS 22
theorem sc_entering : FnScope ["heap", "lot"] ["heap", "lot"] (defScope s_entering) := ⟨rfl, rfl, rfl, by decide +kernel, rfl, by decide +kernel, by decide +kernel⟩
abbrev s_crossing : Stmt := topS 23
theorem sc_crossing : FnScope ["heap", "lot", "from_inside", "to_inside", "leaves", "at"] ["heap", "lot", "from_inside", "to_inside"] (defScope s_crossing) := ⟨rfl, rfl, rfl, by decide +kernel, rfl, by decide +kernel, by decide +kernel⟩
abbrev s_hangs_together : Stmt := topS 24
theorem sc_hangs_together : FnScope ["heap", "lot", "inside", "at"] ["heap", "lot"] (defScope s_hangs_together) := ⟨rfl, rfl, rfl, by decide +kernel, rfl, by decide +kernel, by decide +kernel⟩
abbrev s_pieces_of : Stmt := topS 25
theorem sc_pieces_of : FnScope ["heap", "reached", "word"] ["heap"] (defScope s_pieces_of) := ⟨rfl, rfl, rfl, by decide +kernel, rfl, by decide +kernel, by decide +kernel⟩
abbrev s_fan_of : Stmt := topS 27
theorem sc_fan_of : FnScope ["heap", "word"] ["heap", "word"] (defScope s_fan_of) := ⟨rfl, rfl, rfl, by decide +kernel, rfl, by decide +kernel, by decide +kernel⟩
abbrev s_ends_of : Stmt := topS 28
theorem sc_ends_of : FnScope ["heap", "word"] ["heap", "word"] (defScope s_ends_of) := ⟨rfl, rfl, rfl, by decide +kernel, rfl, by decide +kernel, by decide +kernel⟩
abbrev s_surplus_of : Stmt := topS 29
theorem sc_surplus_of : FnScope ["heap", "word"] ["heap", "word"] (defScope s_surplus_of) := ⟨rfl, rfl, rfl, by decide +kernel, rfl, by decide +kernel, by decide +kernel⟩
abbrev s_from_word : Stmt := topS 30
theorem sc_from_word : FnScope ["heap", "word", "leaves", "at"] ["heap", "word"] (defScope s_from_word) := ⟨rfl, rfl, rfl, by decide +kernel, rfl, by decide +kernel, by decide +kernel⟩
abbrev s_to_word : Stmt := topS 31
theorem sc_to_word : FnScope ["heap", "word", "leaves", "at"] ["heap", "word"] (defScope s_to_word) := ⟨rfl, rfl, rfl, by decide +kernel, rfl, by decide +kernel, by decide +kernel⟩
abbrev s__law_mix : Stmt := topS 33
theorem sc__law_mix : FnScope ["_law_cell", "_law_k", "_law_first", "_law_second"] ["_law_cell", "_law_k"] (defScope s__law_mix) := ⟨rfl, rfl, rfl, by decide +kernel, rfl, by decide +kernel, by decide +kernel⟩
abbrev s__law_cells : Stmt := topS 34
theorem sc__law_cells : FnScope ["_law_script", "_law_many_more", "_law_row_of", "_law_seed", "_law_cell", "_law_k", "_law_left"] ["_law_script", "_law_many_more"] (defScope s__law_cells) := ⟨rfl, rfl, rfl, by decide +kernel, rfl, by decide +kernel, by decide +kernel⟩
abbrev s__law_pick : Stmt := topS 35
theorem sc__law_pick : FnScope ["_law_cells_here", "_law_limit"] ["_law_cells_here", "_law_limit"] (defScope s__law_pick) := ⟨rfl, rfl, rfl, by decide +kernel, rfl, by decide +kernel, by decide +kernel⟩
abbrev s__law_dealt : Stmt := topS 36
theorem sc__law_dealt : FnScope ["_law_cells_here", "_law_things", "_law_rest", "_law_out", "_law_k"] ["_law_cells_here", "_law_things"] (defScope s__law_dealt) := ⟨rfl, rfl, rfl, by decide +kernel, rfl, by decide +kernel, by decide +kernel⟩
abbrev s__law_ring : Stmt := topS 37
theorem sc__law_ring : FnScope ["_law_cells_here", "_law_size", "_law_extra", "_law_walk", "_law_w", "_law_leaves", "_law_k"] ["_law_cells_here", "_law_size", "_law_extra"] (defScope s__law_ring) := ⟨rfl, rfl, rfl, by decide +kernel, rfl, by decide +kernel, by decide +kernel⟩
abbrev s__law_side_by_side : Stmt := topS 38
theorem sc__law_side_by_side : FnScope ["_law_cells_here", "_law_parts", "_law_size", "_law_leaves", "_law_k", "_law_names", "_law_here", "_law_pair"] ["_law_cells_here", "_law_parts"] (defScope s__law_side_by_side) := ⟨rfl, rfl, rfl, by decide +kernel, rfl, by decide +kernel, by decide +kernel⟩
abbrev s__law_heap : Stmt := topS 39
theorem sc__law_heap : FnScope ["_law_cells_here", "_law_kind", "_law_size", "_law_leaves", "_law_k"] ["_law_cells_here", "_law_kind"] (defScope s__law_heap) := ⟨rfl, rfl, rfl, by decide +kernel, rfl, by decide +kernel, by decide +kernel⟩
abbrev s__law_same : Stmt := topS 40
theorem sc__law_same : FnScope ["_law_told", "_law_due", "_law_k"] ["_law_told", "_law_due"] (defScope s__law_same) := ⟨rfl, rfl, rfl, by decide +kernel, rfl, by decide +kernel, by decide +kernel⟩
abbrev s__law_across : Stmt := topS 41
theorem sc__law_across : FnScope ["_law_pile", "_law_left", "_law_right", "_law_pair"] ["_law_pile", "_law_left", "_law_right"] (defScope s__law_across) := ⟨rfl, rfl, rfl, by decide +kernel, rfl, by decide +kernel, by decide +kernel⟩
abbrev s__law_parted : Stmt := topS 42
theorem sc__law_parted : FnScope ["_law_pile", "_law_part", "_law_inner", "_law_halves", "_law_k", "_law_number", "_law_left", "_law_rest", "_law_between", "_law_pair"] ["_law_pile", "_law_part"] (defScope s__law_parted) := ⟨rfl, rfl, rfl, by decide +kernel, rfl, by decide +kernel, by decide +kernel⟩
abbrev s__law_grown : Stmt := topS 43
theorem sc__law_grown : FnScope ["_law_pile", "_law_seed", "_law_part", "_law_met", "_law_k", "_law_pair"] ["_law_pile", "_law_seed", "_law_part"] (defScope s__law_grown) := ⟨rfl, rfl, rfl, by decide +kernel, rfl, by decide +kernel, by decide +kernel⟩
abbrev s__law_hangs : Stmt := topS 44
theorem sc__law_hangs : FnScope ["_law_pile", "_law_part", "_law_told"] ["_law_pile", "_law_part"] (defScope s__law_hangs) := ⟨rfl, rfl, rfl, by decide +kernel, rfl, by decide +kernel, by decide +kernel⟩
abbrev s__law_pieces : Stmt := topS 45
theorem sc__law_pieces : FnScope ["_law_pile", "_law_due", "_law_w", "_law_told", "_law_holders", "_law_part", "_law_size", "_law_leaves"] ["_law_pile"] (defScope s__law_pieces) := ⟨rfl, rfl, rfl, by decide +kernel, rfl, by decide +kernel, by decide +kernel⟩
abbrev s__law_gates : Stmt := topS 46
theorem sc__law_gates : FnScope ["_law_pile", "_law_left", "_law_right", "_law_both", "_law_joined_lot", "_law_only_left", "_law_only_right", "_law_over", "_law_part", "_law_outside", "_law_gained", "_law_w"] ["_law_pile", "_law_left", "_law_right"] (defScope s__law_gates) := ⟨rfl, rfl, rfl, by decide +kernel, rfl, by decide +kernel, by decide +kernel⟩
abbrev s__law_lot : Stmt := topS 47
theorem sc__law_lot : FnScope ["_law_cells_here", "_law_pile", "_law_size", "_law_grown_here", "_law_w"] ["_law_cells_here", "_law_pile"] (defScope s__law_lot) := ⟨rfl, rfl, rfl, by decide +kernel, rfl, by decide +kernel, by decide +kernel⟩
abbrev s_law : Stmt := topS 48
theorem sc_law : FnScope ["_law_script", "_law_cells_here", "_law_pile", "_law_left", "_law_right"] ["_law_script"] (defScope s_law) := ⟨rfl, rfl, rfl, by decide +kernel, rfl, by decide +kernel, by decide +kernel⟩
/-- where the text's defs stand, and that no name hides a built-in -/
structure Txt (K : PySem.W.Frag) (mg : Str → Option Value) where
  need : Dfn K mg "need" s_need ["holds", "name"]
  reached_from : Dfn K mg "reached_from" s_reached_from ["pairs", "word"]
  is_integer : Dfn K mg "is_integer" s_is_integer ["thing"]
  is_number : Dfn K mg "is_number" s_is_number ["thing"]
  is_below : Dfn K mg "is_below" s_is_below ["many", "thing"]
  is_tuple_of : Dfn K mg "is_tuple_of" s_is_tuple_of ["check", "thing"]
  are_below : Dfn K mg "are_below" s_are_below ["many", "thing"]
  ascends : Dfn K mg "ascends" s_ascends ["row"]
  is_word : Dfn K mg "is_word" s_is_word ["heap", "thing"]
  is_lot : Dfn K mg "is_lot" s_is_lot ["heap", "thing"]
  is_set_below : Dfn K mg "is_set_below" s_is_set_below ["many", "thing"]
  gates_of : Dfn K mg "gates_of" s_gates_of ["heap", "lot"]
  within : Dfn K mg "within" s_within ["heap", "lot"]
  leaving : Dfn K mg "leaving" s_leaving ["heap", "lot"]
  entering : Dfn K mg "entering" s_entering ["heap", "lot"]
  crossing : Dfn K mg "crossing" s_crossing ["heap", "lot", "from_inside", "to_inside"]
  hangs_together : Dfn K mg "hangs_together" s_hangs_together ["heap", "lot"]
  pieces_of : Dfn K mg "pieces_of" s_pieces_of ["heap"]
  fan_of : Dfn K mg "fan_of" s_fan_of ["heap", "word"]
  ends_of : Dfn K mg "ends_of" s_ends_of ["heap", "word"]
  surplus_of : Dfn K mg "surplus_of" s_surplus_of ["heap", "word"]
  from_word : Dfn K mg "from_word" s_from_word ["heap", "word"]
  to_word : Dfn K mg "to_word" s_to_word ["heap", "word"]
  _law_mix : Dfn K mg "_law_mix" s__law_mix ["_law_cell", "_law_k"]
  _law_cells : Dfn K mg "_law_cells" s__law_cells ["_law_script", "_law_many_more"]
  _law_pick : Dfn K mg "_law_pick" s__law_pick ["_law_cells_here", "_law_limit"]
  _law_dealt : Dfn K mg "_law_dealt" s__law_dealt ["_law_cells_here", "_law_things"]
  _law_ring : Dfn K mg "_law_ring" s__law_ring ["_law_cells_here", "_law_size", "_law_extra"]
  _law_side_by_side : Dfn K mg "_law_side_by_side" s__law_side_by_side ["_law_cells_here", "_law_parts"]
  _law_heap : Dfn K mg "_law_heap" s__law_heap ["_law_cells_here", "_law_kind"]
  _law_same : Dfn K mg "_law_same" s__law_same ["_law_told", "_law_due"]
  _law_across : Dfn K mg "_law_across" s__law_across ["_law_pile", "_law_left", "_law_right"]
  _law_parted : Dfn K mg "_law_parted" s__law_parted ["_law_pile", "_law_part"]
  _law_grown : Dfn K mg "_law_grown" s__law_grown ["_law_pile", "_law_seed", "_law_part"]
  _law_hangs : Dfn K mg "_law_hangs" s__law_hangs ["_law_pile", "_law_part"]
  _law_pieces : Dfn K mg "_law_pieces" s__law_pieces ["_law_pile"]
  _law_gates : Dfn K mg "_law_gates" s__law_gates ["_law_pile", "_law_left", "_law_right"]
  _law_lot : Dfn K mg "_law_lot" s__law_lot ["_law_cells_here", "_law_pile"]
  law : Dfn K mg "law" s_law ["_law_script"]
  z_abs : mg "abs" = none
  z_all : mg "all" = none
  z_bool : mg "bool" = none
  z_int : mg "int" = none
  z_isinstance : mg "isinstance" = none
  z_len : mg "len" = none
  z_list : mg "list" = none
  z_range : mg "range" = none
  z_reversed : mg "reversed" = none
  z_sorted : mg "sorted" = none
  z_sum : mg "sum" = none
  z_tuple : mg "tuple" = none

/-! ### arguments -/
section
variable {K : PySem.W.Frag} {H : Hp} {vs : List V}
theorem ima1 {a : D} (h : ImA K H vs [a]) : ∃ x, vs = [x] ∧ Im K H x a := by
  cases h with
  | cons h r => cases r; exact ⟨_, rfl, h⟩
theorem ima2 {a b : D} (h : ImA K H vs [a, b]) : ∃ x y, vs = [x, y] ∧ Im K H x a ∧ Im K H y b := by
  cases h with
  | cons h r =>
    obtain ⟨y, rfl, h2⟩ := ima1 r
    exact ⟨_, _, rfl, h, h2⟩
theorem ima4 {a b c d : D} (h : ImA K H vs [a, b, c, d]) : ∃ x y z w, vs = [x, y, z, w] ∧ Im K H x a ∧ Im K H y b ∧ Im K H z c ∧ Im K H w d := by
  cases h with
  | cons h r =>
    cases r with
    | cons h2 r =>
      obtain ⟨z, w, rfl, h3, h4⟩ := ima2 r
      exact ⟨_, _, _, _, rfl, h, h2, h3, h4⟩
end
theorem at_nat {α : Type} {ds : List α} {z : Int} {j : Nat} {d : α} (e : z = (j : Int)) (h : ds[j]? = some d) : atI ds z = some d := by
  subst e
  have hj := (List.getElem?_eq_some_iff.mp h).1
  unfold atI ixN
  rw [if_pos (by omega), if_pos (by omega)]
  exact h
/-! ### what the program's defs say -/
def noP (d : D) : Prop := ∀ a, d ≠ .ptr a
def isInt : D → Bool
  | .int _ => true
  | _ => false
def isNum : D → Bool
  | .int i => decide (0 ≤ i)
  | _ => false
def below (n : Int) : D → Bool
  | .int i => decide (0 ≤ i) && decide (i < n)
  | _ => false
theorem kit_int : ∀ d : D, kitB (tyD d) "int" = some (match d with | .int _ => true | .bl _ => true | _ => false)
  | .non => (by decide +kernel : kitB "NoneType" "int" = some false)
  | .bl _ => (by decide +kernel : kitB "bool" "int" = some true)
  | .int _ => (by decide +kernel : kitB "int" "int" = some true)
  | .str _ => (by decide +kernel : kitB "str" "int" = some false)
  | .tup _ => (by decide +kernel : kitB "tuple" "int" = some false)
  | .ptr _ => (by decide +kernel : kitB "list" "int" = some false)
theorem kit_bool : ∀ d : D, kitB (tyD d) "bool" = some (match d with | .bl _ => true | _ => false)
  | .non => (by decide +kernel : kitB "NoneType" "bool" = some false)
  | .bl _ => (by decide +kernel : kitB "bool" "bool" = some true)
  | .int _ => (by decide +kernel : kitB "int" "bool" = some false)
  | .str _ => (by decide +kernel : kitB "str" "bool" = some false)
  | .tup _ => (by decide +kernel : kitB "tuple" "bool" = some false)
  | .ptr _ => (by decide +kernel : kitB "list" "bool" = some false)
theorem kit_tuple : ∀ d : D, kitB (tyD d) "tuple" = some (match d with | .tup _ => true | _ => false)
  | .non => (by decide +kernel : kitB "NoneType" "tuple" = some false)
  | .bl _ => (by decide +kernel : kitB "bool" "tuple" = some false)
  | .int _ => (by decide +kernel : kitB "int" "tuple" = some false)
  | .str _ => (by decide +kernel : kitB "str" "tuple" = some false)
  | .tup _ => (by decide +kernel : kitB "tuple" "tuple" = some true)
  | .ptr _ => (by decide +kernel : kitB "list" "tuple" = some false)
section
variable {P : Program} {w : World} {K : PySem.W.Frag} {mg : Str → Option Value} {base : Heap} {τ : TL}
def FNeed (ds : List D) (r : D) : Prop := ∃ s, ds = [.bl true, .str s] ∧ r = .non
theorem ok_need (T : Txt K mg) : FnOk P w K mg base L2.CX0 1 T.need.f T.need.fd ["holds", "name"] (spF τ K FNeed) := by
  refine T.need.F.ok sc_need (fun vs H Q E h => ?_) (fun cdv A outer s H vs Q E hr h => ?_)
  · obtain ⟨ds, r, h1, _, ⟨s, rfl, _⟩, _⟩ := h
    exact h1.length
  · obtain ⟨ds, r, hv, tb, ⟨s, rfl, rfl⟩, q⟩ := h
    obtain ⟨x, y, rfl, h1, h2⟩ := ima2 hv
    refine ⟨_, (pss_one (ps_if (pt_not (pt_val (pv 0))) (pss_one ps_never) pss_nil)), ?_⟩
    refine s_if tb (et_not (et_B (K := K) (ei_var rfl h1))) (fun z => by cases z) fun _ H1 g => ?_
    exact q _ _ g .non
def FIsInt (ds : List D) (r : D) : Prop := ∃ d, ds = [d] ∧ noP d ∧ r = .bl (isInt d)
theorem ok_is_integer (T : Txt K mg) : FnOk P w K mg base L2.CX0 1 T.is_integer.f T.is_integer.fd ["thing"] (spF τ K FIsInt) := by
  refine T.is_integer.F.ok sc_is_integer (fun vs H Q E h => ?_) (fun cdv A outer s H vs Q E hr h => ?_)
  · obtain ⟨ds, r, h1, _, ⟨s, rfl, _⟩, _⟩ := h
    exact h1.length
  · obtain ⟨ds, r, hv, tb, ⟨d, rfl, hp, rfl⟩, q⟩ := h
    obtain ⟨x, rfl, h1⟩ := ima1 hv
    refine ⟨_, (pss_one (ps_ret (pe_and (pe_callB (r := rIsi K) call_isi (by rfl) T.z_isinstance (by decide +kernel) (pa_cons (pv 0) (pa_cons (pe_bltn (v := .ty "int") (u := .type "int") (by rfl) T.z_int (by decide +kernel) rfl) pa_nil))) (pe_one (pe_not (pe_callB (r := rIsi K) call_isi (by rfl) T.z_isinstance (by decide +kernel) (pa_cons (pv 0) (pa_cons (pe_bltn (v := .ty "bool") (u := .type "bool") (by rfl) T.z_bool (by decide +kernel) rfl) pa_nil)))))))), ?_⟩
    refine s_ret (K := K) tb (ei_and (ei_isi (T' := τ) (ei_var rfl h1) hp (kit_int d)) (fun e => ?_) (fun e => ?_)) q
    · refine ei_is (ei_not (ei_isi (T' := τ) (ei_var rfl h1) hp (kit_bool d))) ?_
      cases d <;> first | rfl | cases e
    · cases d <;> first | rfl | cases e
def FIsNum (ds : List D) (r : D) : Prop := ∃ d, ds = [d] ∧ noP d ∧ r = .bl (isNum d)
theorem ok_is_number (T : Txt K mg) : FnOk P w K mg base L2.CX0 2 T.is_number.f T.is_number.fd ["thing"] (spF τ K FIsNum) := by
  have G_is_integer : FnOk P w K mg base L2.CX0 1 T.is_integer.f T.is_integer.fd _ _ := ok_is_integer (τ := τ) T
  refine T.is_number.F.ok sc_is_number (fun vs H Q E h => ?_) (fun cdv A outer s H vs Q E hr h => ?_)
  · obtain ⟨ds, r, h1, _, ⟨s, rfl, _⟩, _⟩ := h
    exact h1.length
  · obtain ⟨ds, r, hv, tb, ⟨d, rfl, hp, rfl⟩, q⟩ := h
    obtain ⟨x, rfl, h1⟩ := ima1 hv
    refine ⟨_, (pss_one (ps_ret (pe_and (pc T.is_integer G_is_integer (hr.mono (by decide)) (by rfl) (pa_cons (pv 0) pa_nil)) (pe_one (pe_cmpR op_ge (pv 0) pe_int (nomark _)))))), ?_⟩
    refine s_ret (K := K) tb (ei_and (ei_call (ea_cons (ei_var rfl h1) ea_nil) ⟨d, rfl, hp, rfl⟩) (fun e => ?_) (fun e => ?_)) q
    · cases d with
      | int i => exact ei_ge (ei_var rfl h1) ei_i
      | _ => cases e
    · cases d <;> first | rfl | cases e
def FIsBelow (ds : List D) (r : D) : Prop := ∃ n d, ds = [.int n, d] ∧ noP d ∧ r = .bl (below n d)
theorem ok_is_below (T : Txt K mg) : FnOk P w K mg base L2.CX0 3 T.is_below.f T.is_below.fd ["many", "thing"] (spF τ K FIsBelow) := by
  have G_is_number : FnOk P w K mg base L2.CX0 2 T.is_number.f T.is_number.fd _ _ := ok_is_number (τ := τ) T
  refine T.is_below.F.ok sc_is_below (fun vs H Q E h => ?_) (fun cdv A outer s H vs Q E hr h => ?_)
  · obtain ⟨ds, r, h1, _, ⟨n, s, rfl, _⟩, _⟩ := h
    exact h1.length
  · obtain ⟨ds, r, hv, tb, ⟨n, d, rfl, hp, rfl⟩, q⟩ := h
    obtain ⟨y, x, rfl, h0, h1⟩ := ima2 hv
    refine ⟨_, (pss_one (ps_ret (pe_and (pc T.is_number G_is_number (hr.mono (by decide)) (by rfl) (pa_cons (pv 1) pa_nil)) (pe_one (pe_cmpR op_lt (pv 1) (pv 0) (nomark _)))))), ?_⟩
    refine s_ret (K := K) tb (ei_and (ei_call (ea_cons (ei_var rfl h1) ea_nil) ⟨d, rfl, hp, rfl⟩) (fun e => ?_) (fun e => ?_)) q
    · cases d with
      | int i =>
        refine ei_is (ei_lt (ei_var rfl h1) (ei_var rfl h0)) ?_
        have e : decide (0 ≤ i) = true := e
        show _ = D.bl (decide (0 ≤ i) && decide (i < n))
        rw [e]
        rfl
      | _ => cases e
    · cases d with
      | int i =>
        have e : decide (0 ≤ i) = false := e
        show D.bl (decide (0 ≤ i) && decide (i < n)) = _
        rw [e]
        rfl
      | _ => rfl
/-! ### the lambda of are_below -/
def lamOf (st : Stmt) : Arguments × Expr × Scope := match defBody st with
  | [.Return (some (.Call _ [.Lambda a b sc _, _] _ _)) _] => (a, b, sc)
  | _ => (defArgs st, .Name "x" ⟨0, 0, 0, 0⟩, defScope st)
abbrev lamA : Arguments := (lamOf s_are_below).1
abbrev lamB : Expr := (lamOf s_are_below).2.1
abbrev lamS : Scope := (lamOf s_are_below).2.2
abbrev lamQ : Str := ("are_below" : Str) ++ ".<locals>." ++ "<lambda>"
theorem nsc_lam : NScope ["part", "many"] ["part"] ["many"] lamS := nscope_by (by decide +kernel)
theorem nd_lam : ndefB (defScope s_are_below) lamS ["many"] = true := by decide +kernel
theorem nb_lam {q : Str} {cl : List (Str × Addr)} {c' : Addr} (pm ctv : Value) (us : List Value) (h : us.length = (["part"] : List Str).length) : bindArgs (PySem.W.kla_fn "<lambda>" q lamA lamB lamS cl pm (.ref c') ctv) ⟨us, []⟩ = pure ((["part"] : List Str).zip us) :=
  match us, h with
  | [_], _ => rfl
theorem ei_clo {σ : L2.St} {H : Hp} {i : Nat} {f c' : Addr} {q : Str} {N ps : List Str} {ws : List V} {t : TA} {tb : TE} {ds : List D} {d : D} (h0 : σ[i]? = some (some (.ref f))) (hc : H c' = some (CodeO c' q)) (h : EvA τ K t σ H ds) (hl : ds.length = ps.length)
    (hb : ∀ vs H1, G τ [] H H1 → ImA K H1 vs ds → EvI τ K tb (startF N vs (ws.map some)) H1 d) : EvI τ K (tClo i f c' q N ps ws t tb) σ H d := fun H1 g Q k =>
  ⟨h0, h H1 g _ fun vs H2 g2 hvs => ⟨by rw [hvs.length]; exact hl, (g.trans g2).keep c' _ hc (by simp) fun ps => codeO_ne ps, hb vs H2 (g.trans g2) hvs H2 (.refl g2.tabs) Q fun v H3 g3 hv => k v H3 (g2.trans g3) hv⟩⟩
/-- a thing without lists in its first two storeys, of a size -/
structure OkD (d : D) : Prop where
  no : noP d
  all : ∀ ds, d = .tup ds → (∀ x ∈ ds, noP x) ∧ ds.length ≤ 1000000
def areBelow (n : Int) : D → Bool
  | .tup ds => ds.all (below n)
  | _ => false
/-- is_tuple_of, the check being the lambda -/
def spTC (τ : TL) (K : PySem.W.Frag) (f c' : Addr) (ws : List V) : Sp := fun vs H Q _ => ∃ n d v, ws = [.int n] ∧ vs = [.ref f, v] ∧ H c' = some (CodeO c' lamQ) ∧ Tabs τ H ∧ Im K H v d ∧ OkD d ∧ ∀ H2, G τ [] H H2 → Q (.bl (areBelow n d)) H2
theorem outs_bl (g : Nat → Bool) (n : Nat) : outs (fun _ => true) (fun i => D.bl (g i)) n = ((List.range n).map g).map D.bl := by
  rw [outs_all, List.map_map]
  rfl
theorem all_get {α : Type} (p : α → Bool) (g : Nat → Bool) : ∀ (l : List α), (∀ i x, l[i]? = some x → g i = p x) → ((List.range l.length).map g).all id = l.all p := by
  intro l h
  have e : (List.range l.length).map g = l.map p := by
    apply List.ext_getElem?
    intro i
    rw [List.getElem?_map, List.getElem?_map]
    by_cases hi : i < l.length
    · rw [List.getElem?_range hi, List.getElem?_eq_getElem hi]
      show some (g i) = some (p l[i])
      rw [h i _ (List.getElem?_eq_getElem hi)]
    · rw [List.getElem?_eq_none (by rw [List.length_range]; omega), List.getElem?_eq_none (by omega)]
      rfl
  rw [e, List.all_map]
  rfl
theorem ok_tuple_clo (T : Txt K mg) {f c' : Addr} {cl : List (Str × Addr)} {ws : List V} (B : IsClo base f c' lamQ lamA lamB lamS cl ["many"] ws) : FnOk P w K mg base L2.CX0 5 T.is_tuple_of.f T.is_tuple_of.fd ["check", "thing"] (spTC τ K f c' ws) := by
  have G_is_below : FnOk P w K mg base L2.CX0 3 T.is_below.f T.is_below.fd _ _ := ok_is_below (τ := τ) T
  refine T.is_tuple_of.F.ok sc_is_tuple_of (fun vs H Q E h => ?_) (fun cdv A outer s H vs Q E hr h => ?_)
  · obtain ⟨n, d, v, _, rfl, _⟩ := h
    rfl
  · obtain ⟨n, d, v, hw, rfl, hc, tb, hv, od, q⟩ := h
    have hbd : ∀ (A : Around) (outer : List Env) (s : Shared) (H : Hp) (E : XK), Room 3 (A.deeper (envF (nf lamQ lamA lamS cl c') f s.heap.objs.size)) →
        PE (ncx L2.CX0 P w K mg base ["part", "many"] (nf lamQ lamA lamS cl c') f A outer s H E) lamB (tCall (spF τ K FIsBelow) [] L2.E0 (tCons (tVar 1) (tCons (tVar 0) tNil))) := fun A outer s H E hr =>
      pc T.is_below G_is_below hr (by rfl) (pa_cons (pv 1) (pa_cons (pv 0) pa_nil))
    refine ⟨_, (pss_one (ps_ret (pe_and (pe_callB (r := rIsi K) call_isi (by rfl) T.z_isinstance (by decide +kernel) (pa_cons (pv 1) (pa_cons (pe_bltn (v := .ty "tuple") (u := .type "tuple") (by rfl) T.z_tuple (by decide +kernel) rfl) pa_nil))) (pe_one (pe_callB (r := rAll K) (cr_all rfl) (by rfl) T.z_all (by decide +kernel) (pa_cons (pe_lc (own := [("part", 2)]) (g := (gName 2)) (tt := tYes) rfl sc_is_tuple_of.nd (pi_tup (pv 1)) (blkOk_by (own := [("part", 2)]) (N := ["check", "thing", "part"]) (sc := defScope s_is_tuple_of) (by decide +kernel)) (fun _ _ _ _ _ => (pg_name (i := 2) sc_is_tuple_of.nd rfl (by first | exact .inl rfl | exact .inr rfl))) (fun _ _ _ _ _ => pts_nil) (fun _ _ _ _ _ => (pe_clo (i := 0) B nsc_lam nb_lam (hr.mono (by decide)) (fun A outer s H E hr => hbd A outer s H E hr) rfl (by first | exact .inl rfl | exact .inr (.inl rfl) | exact .inr (.inr rfl)) (pa_cons (pv 2) pa_nil)))) pa_nil)))))), ?_⟩
    refine s_ret (K := K) tb (d := .bl (areBelow n d)) (ei_and (ei_isi (T' := τ) (ei_var rfl hv) od.no (kit_tuple d)) (fun e => ?_) (fun e => ?_)) fun v H1 g hv => ?_
    · cases d with
      | tup ds =>
        obtain ⟨o1, o2⟩ := od.all ds rfl
        have en := en_lcT (T := τ) (K := K) (σ := start ["check", "thing", "part"] [.ref f, v]) (H := H) (t := tYes) (te := tClo 0 f c' lamQ ["part", "many"] ["part"] ws (tCons (tVar 2) tNil) (tCall (spF τ K FIsBelow) [] L2.E0 (tCons (tVar 1) (tCons (tVar 0) tNil)))) (tl := tVar 1) (j := 2) (vs := [2]) (fun _ => true) (fun i => .bl (below n (ds.getD i .non)))
          (ei_var rfl hv) o2 (fun _ => rfl) (fun _ _ _ _ _ _ _ => et_yes) fun i d z H1 g hd hz _ => by
            rw [List.getD_eq_getElem?_getD, hd]
            refine ei_clo rfl (g.keep c' _ hc (by simp) fun ps => codeO_ne ps) (ea_cons (ei_var rfl hz) ea_nil) rfl fun vs H2 g2 hvs => ?_
            obtain ⟨x, rfl, hx⟩ := ima1 hvs
            rw [hw]
            exact ei_call (ea_cons (ei_var rfl (.int n)) (ea_cons (ei_var rfl hx) ea_nil)) ⟨n, d, rfl, o1 d (List.mem_of_getElem? hd), rfl⟩
        rw [outs_bl] at en
        refine ei_is (ei_allN en) ?_
        rw [all_get (below n) _ ds fun i x e => by rw [List.getD_eq_getElem?_getD, e]; rfl]
        rfl
      | _ => cases e
    · cases d <;> first | rfl | cases e
    · rw [im_bl hv]
      exact q H1 g
/-- where the lambda's code lies -/
structure Lm (T : Txt K mg) (base : Heap) (τ : TL) (c Pt : Addr) : Prop where
  code : T.are_below.fd.code = .ref c
  tab : TabB base mg c Pt
  tl : τ = [(Pt, lamQ)]
def FAreBelow (ds : List D) (r : D) : Prop := ∃ n d, ds = [.int n, d] ∧ OkD d ∧ r = .bl (areBelow n d)
theorem ok_are_below (T : Txt K mg) {c Pt : Addr} (L : Lm T base τ c Pt) : FnOk P w K mg base L2.CX0 6 T.are_below.f T.are_below.fd ["many", "thing"] (spF τ K FAreBelow) := by
  obtain ⟨oc, od, kV, doc, pm, an, cdv, ct, osl, efd, lk, hcd⟩ := T.are_below.F.ex
  have hcode : cdv = .ref c := by
    have e := L.code
    rw [efd] at e
    exact e
  have TB := L.tab
  have hm : (Pt, lamQ) ∈ τ := by rw [L.tl]; exact List.mem_cons_self
  have hu : ∀ p ∈ τ, p.1 = Pt → p.2 = lamQ := fun p hp _ => by
    rw [L.tl] at hp
    rw [List.mem_singleton.mp hp]
  rw [efd] at lk ⊢
  refine fn_of lk hcd sc_are_below (fun vs H Q E h => ?_) (fun A outer s H vs Q E hr h => ?_)
  · obtain ⟨ds, r, h1, _, ⟨n, d, rfl, _⟩, _⟩ := h
    exact h1.length
  · obtain ⟨ds, r, hv, tb, ⟨n, d, rfl, od, rfl⟩, q⟩ := h
    obtain ⟨y, x, rfl, h0, h1⟩ := ima2 hv
    rw [im_int h0]
    refine ⟨_, (pss_one (ps_ret (pe_lam2 (T := τ) (fr := ["many"]) (js := [0]) (i2 := 1) T.is_tuple_of (fun base2 f c2 cl ws B => ok_tuple_clo (τ := τ) T (base := base2) B) (hr.mono (by decide)) (by rfl) TB hcode hm hu rfl (ndef_free nd_lam) (ndef_fr nd_lam) rfl (fun _ => rfl) rfl (by first | exact .inl rfl | exact .inr (.inl rfl))))), ?_⟩
    exact ⟨[.int n], x, rfl, rfl, tb, fun f c' H1 g1 hc => ⟨n, d, x, rfl, rfl, hc, g1.tabs, h1.up g1, od, fun H2 g2 => q _ _ (g1.trans g2) (.bl _)⟩⟩
/-- an ascending tuple of numbers below n -/
def ascends : List Int → Bool
  | a :: b :: r => decide (a < b) && ascends (b :: r)
  | _ => true
def FIsLotB (ds : List D) (r : D) : Prop := ∃ n ns, ds = [.int n, .tup (ns.map D.int)] ∧ ns.length ≤ 1000000 ∧ r = .bl (ns.all (fun i => decide (0 ≤ i) && decide (i < n)) && ascends ns)
theorem okd_ints {ns : List Int} (h : ns.length ≤ 1000000) : OkD (.tup (ns.map D.int)) := by
  refine ⟨fun a z => ?_, fun ds e => ?_⟩
  · cases z
  cases e
  refine ⟨fun x hx a z => ?_, by rw [List.length_map]; exact h⟩
  obtain ⟨i, _, hi⟩ := List.mem_map.mp hx
  rw [← hi] at z
  cases z
theorem areBelow_ints (n : Int) (ns : List Int) : areBelow n (.tup (ns.map D.int)) = ns.all (fun i => decide (0 ≤ i) && decide (i < n)) := by
  show (ns.map D.int).all (below n) = _
  rw [List.all_map]
  rfl
theorem asc_get : ∀ (ns : List Int) (g : Nat → Bool), (∀ i a b, ns[i]? = some a → ns[i + 1]? = some b → g i = decide (a < b)) → ((List.range (ns.length - 1)).map g).all id = ascends ns
  | [], _, _ => rfl
  | [_], _, _ => rfl
  | a :: b :: r, g, h => by
    have ih := asc_get (b :: r) (fun i => g (i + 1)) fun i x y h1 h2 => h (i + 1) x y h1 h2
    rw [show (a :: b :: r).length - 1 = ((b :: r).length - 1) + 1 by simp, List.range_succ_eq_map, List.map_cons, List.map_map, List.all_cons]
    show (g 0 && _) = (decide (a < b) && ascends (b :: r))
    rw [h 0 a b rfl rfl, ← ih]
    rfl
def FAscR (ds : List D) (r : D) : Prop := ∃ ns, ds = [.tup (ns.map D.int)] ∧ ns.length ≤ 1000000 ∧ r = .bl (ascends ns)
theorem ok_ascends (T : Txt K mg) : FnOk P w K mg base L2.CX0 1 T.ascends.f T.ascends.fd ["row"] (spF τ K FAscR) := by
  refine T.ascends.F.ok sc_ascends (fun vs H Q E h => ?_) (fun cdv A outer s H vs Q E hr h => ?_)
  · obtain ⟨ds, r, h1, _, ⟨d, rfl, _⟩, _⟩ := h
    exact h1.length
  · obtain ⟨ds, r, hv, tb, ⟨ns, rfl, hl, rfl⟩, q⟩ := h
    obtain ⟨x, rfl, h1'⟩ := ima1 hv
    refine ⟨_, (pss_one (ps_ret (pe_callB (r := rAll K) (cr_all rfl) (by rfl) T.z_all (by decide +kernel) (pa_cons (pe_lc (own := [("at", 1)]) (g := (gName 1)) (tt := tYes) rfl sc_ascends.nd (pi_range1 (by rfl) T.z_range (pa_cons (pe_op op_sub (pe_callB (r := rLenQ K) call_len_seq (by rfl) T.z_len (by decide +kernel) (pa_cons (pv 0) pa_nil)) pe_int) pa_nil)) (blkOk_by (own := [("at", 1)]) (N := ["row", "at"]) (sc := defScope s_ascends) (by decide +kernel)) (fun _ _ _ _ _ => (pg_name (i := 1) sc_ascends.nd rfl (by first | exact .inl rfl | exact .inr rfl))) (fun _ _ _ _ _ => pts_nil) (fun _ _ _ _ _ => (pe_cmpR op_lt (pe_ix (r := rIx K) ix_seq (pv 0) (pv 1) (fun _ _ => rfl)) (pe_ix (r := rIx K) ix_seq (pv 0) (pe_op op_add (pv 1) pe_int) (fun _ _ => rfl)) (nomark _)))) pa_nil)))), ?_⟩
    have hlen : (ns.map D.int).length = ns.length := List.length_map ..
    refine s_ret (K := K) tb (ei_is (ei_allN (bs := (List.range (((ns.map D.int).length : Int) - 1).toNat).map fun i => decide (ns.getD i 0 < ns.getD (i + 1) 0)) (en_is (en_lcR (fun _ => true) (fun i => .bl (decide (ns.getD i 0 < ns.getD (i + 1) 0)))
        (ea_cons (ei_sub (ei_lenT (ei_var rfl h1')) ei_i) ea_nil) (by rw [hlen]; omega) (fun _ => rfl) (fun _ _ _ _ => et_yes) (fun i H2 g2 hi _ => ?_)) (outs_bl _ _))) ?_) fun v H2 g2 hv => q v H2 g2 hv
    · rw [hlen] at hi
      have a1 : ns[i]? = some (ns.getD i 0) := by rw [List.getD_eq_getElem?_getD, List.getElem?_eq_getElem (by omega)]; rfl
      have a2 : ns[i + 1]? = some (ns.getD (i + 1) 0) := by rw [List.getD_eq_getElem?_getD, List.getElem?_eq_getElem (by omega)]; rfl
      refine ei_lt (ei_ixT (ei_var rfl (h1'.up g2)) (ei_var rfl (.int _)) ?_) (ei_ixT (ei_var rfl (h1'.up g2)) (ei_add (ei_var rfl (.int _)) ei_i) ?_)
      · refine at_nat rfl ?_
        rw [List.getElem?_map, a1]
        rfl
      · refine at_nat (j := i + 1) (by omega) ?_
        rw [List.getElem?_map, a2]
        rfl
    · rw [show (((ns.map D.int).length : Int) - 1).toNat = ns.length - 1 by rw [hlen]; omega]
      rw [asc_get ns _ fun i a b h1 h2 => by rw [List.getD_eq_getElem?_getD, List.getD_eq_getElem?_getD, h1, h2]; rfl]
theorem ok_is_set_below (T : Txt K mg) {c Pt : Addr} (L : Lm T base τ c Pt) : FnOk P w K mg base L2.CX0 7 T.is_set_below.f T.is_set_below.fd ["many", "thing"] (spF τ K FIsLotB) := by
  have G_are_below : FnOk P w K mg base L2.CX0 6 T.are_below.f T.are_below.fd _ _ := ok_are_below T L
  have G_ascends : FnOk P w K mg base L2.CX0 1 T.ascends.f T.ascends.fd _ (spF τ K FAscR) := ok_ascends T
  refine T.is_set_below.F.ok sc_is_set_below (fun vs H Q E h => ?_) (fun cdv A outer s H vs Q E hr h => ?_)
  · obtain ⟨ds, r, h1, _, ⟨n, d, rfl, _⟩, _⟩ := h
    exact h1.length
  · obtain ⟨ds, r, hv, tb, ⟨n, ns, rfl, hl, rfl⟩, q⟩ := h
    obtain ⟨y, x, rfl, h0, h1⟩ := ima2 hv
    refine ⟨_, (pss_one (ps_ret (pe_and (pc T.are_below G_are_below (hr.mono (by decide)) (by rfl) (pa_cons (pv 0) (pa_cons (pv 1) pa_nil))) (pe_one (pc T.ascends G_ascends (hr.mono (by decide)) (by rfl) (pa_cons (pv 1) pa_nil)))))), ?_⟩
    refine s_ret (K := K) tb (ei_and (a := areBelow n (.tup (ns.map D.int))) (ei_call (ea_cons (ei_var rfl h0) (ea_cons (ei_var rfl h1) ea_nil)) ⟨n, _, rfl, okd_ints hl, rfl⟩) (fun e => ?_) (fun e => ?_)) q
    · rw [areBelow_ints] at e
      rw [e, Bool.true_and]
      exact ei_call (ea_cons (ei_var rfl h1) ea_nil) ⟨ns, rfl, hl, rfl⟩
    · rw [areBelow_ints] at e
      rw [e, Bool.false_and]
end
end K02
namespace K02
open PySem PySem.Spec PyProof.Rows L2 LamX NdefX Clo LRev U
/-! ### heaps -/
theorem noP_int (i : Int) : noP (.int i) := fun a z => by cases z
def prD (p : Int × Int) : D := .tup [.int p.1, .int p.2]
def hD (n : Int) (ls : List (Int × Int)) : D := .tup [.int n, .tup (ls.map prD)]
/-- the places of the leaves with p -/
def idx (p : Int × Int → Bool) (ls : List (Int × Int)) : List Int := ((List.range ls.length).filter fun i => p (ls.getD i (0, 0))).map fun i => ((i : Nat) : Int)
theorem outs_idx (p : Int × Int → Bool) (ls : List (Int × Int)) (f : Nat → Bool) (h : ∀ i, i < ls.length → f i = p (ls.getD i (0, 0))) : outs f (fun i => .int ((i : Nat) : Int)) ls.length = (idx p ls).map D.int := by
  unfold outs idx
  rw [List.map_map, List.filter_congr fun i hi => h i (List.mem_range.mp hi)]
  rfl
theorem getD_of {α : Type} {l : List α} {i : Nat} {z : α} (h : i < l.length) : l[i]? = some (l.getD i z) := by
  rw [List.getD_eq_getElem?_getD, List.getElem?_eq_getElem h]
  rfl
theorem at_leaf {ls : List (Int × Int)} {i : Nat} (h : i < ls.length) : atI (ls.map prD) ((i : Nat) : Int) = some (prD (ls.getD i (0, 0))) := by
  refine at_nat rfl ?_
  rw [List.getElem?_map, getD_of h]
  rfl
section
variable {P : Program} {w : World} {K : PySem.W.Frag} {mg : Str → Option Value} {base : Heap} {τ : TL}
theorem ei_eqPr {σ : L2.St} {H : Hp} {ta tb : TE} {a b : Int × Int} (ha : EvI τ K ta σ H (prD a)) (hb : EvI τ K tb σ H (prD b)) : EvI τ K (tOp (rEqD K) ta tb) σ H (.bl (decide (a = b))) :=
  ei_op ha hb fun H1 g1 v w hv hw Q q => by
    have dp : ∀ {v : V} {a : Int × Int}, Im K H1 v (prD a) → Dp K H1 v (.tuple [.int a.1, .int a.2]) := fun {v a} h => by
      obtain ⟨p, xs, rfl, h1, h2⟩ := im_tup h
      obtain ⟨x, y, rfl, h3, h4⟩ := ima2 h2
      rw [im_int h3, im_int h4] at h1
      exact .tup h1 (.cons (.int _) (.cons (.int _) .nil))
    refine ⟨_, _, dp hv, dp hw, rfl, rfl, ?_⟩
    have e : PyData.eqv (.tuple [.int a.1, .int a.2]) (.tuple [.int b.1, .int b.2]) = decide (a = b) := by
      obtain ⟨a1, a2⟩ := a
      obtain ⟨b1, b2⟩ := b
      simp [PyData.eqv, PyData.eqvAll]
      by_cases h1 : a1 = b1 <;> by_cases h2 : a2 = b2 <;> simp [h1, h2]
    rw [e]
    exact q _ H1 (.refl g1.tabs) (.bl _)
def inW (n w : Int) : Bool := decide (0 ≤ w) && decide (w < n)
def FIsWord (ds : List D) (r : D) : Prop := ∃ n ls w, ds = [hD n ls, .int w] ∧ r = .bl (inW n w)
theorem ok_is_word (T : Txt K mg) : FnOk P w K mg base L2.CX0 4 T.is_word.f T.is_word.fd ["heap", "thing"] (spF τ K FIsWord) := by
  have G_is_below : FnOk P w K mg base L2.CX0 3 T.is_below.f T.is_below.fd _ _ := ok_is_below (τ := τ) T
  refine T.is_word.F.ok sc_is_word (fun vs H Q E h => ?_) (fun cdv A outer s H vs Q E hr h => ?_)
  · obtain ⟨ds, r, h1, _, ⟨_, _, _, rfl, _⟩, _⟩ := h
    exact h1.length
  · obtain ⟨ds, r, hv, tb, ⟨n, ls, w, rfl, rfl⟩, q⟩ := h
    obtain ⟨y, x, rfl, h0, h1⟩ := ima2 hv
    refine ⟨_, (pss_one (ps_ret (pc T.is_below G_is_below (hr.mono (by decide)) (by rfl) (pa_cons (pe_ix (r := rIx K) ix_seq (pv 0) pe_int (fun _ _ => rfl)) (pa_cons (pv 1) pa_nil))))), ?_⟩
    exact s_ret (K := K) tb (ei_call (ea_cons (ei_ixT (ei_var rfl h0) ei_i rfl) (ea_cons (ei_var rfl h1) ea_nil)) ⟨n, .int w, rfl, noP_int _, rfl⟩) q
def lotOk (n : Int) (ns : List Int) : Bool := ns.all (fun i => decide (0 ≤ i) && decide (i < n)) && ascends ns
def FIsLot (ds : List D) (r : D) : Prop := ∃ n ls ns, ds = [hD n ls, .tup (ns.map D.int)] ∧ ns.length ≤ 1000000 ∧ r = .bl (lotOk n ns)
theorem ok_is_lot (T : Txt K mg) {c Pt : Addr} (L : Lm T base τ c Pt) : FnOk P w K mg base L2.CX0 8 T.is_lot.f T.is_lot.fd ["heap", "thing"] (spF τ K FIsLot) := by
  have G_is_set_below : FnOk P w K mg base L2.CX0 7 T.is_set_below.f T.is_set_below.fd _ _ := ok_is_set_below T L
  refine T.is_lot.F.ok sc_is_lot (fun vs H Q E h => ?_) (fun cdv A outer s H vs Q E hr h => ?_)
  · obtain ⟨ds, r, h1, _, ⟨_, _, _, rfl, _⟩, _⟩ := h
    exact h1.length
  · obtain ⟨ds, r, hv, tb, ⟨n, ls, ns, rfl, hl, rfl⟩, q⟩ := h
    obtain ⟨y, x, rfl, h0, h1⟩ := ima2 hv
    refine ⟨_, (pss_one (ps_ret (pc T.is_set_below G_is_set_below (hr.mono (by decide)) (by rfl) (pa_cons (pe_ix (r := rIx K) ix_seq (pv 0) pe_int (fun _ _ => rfl)) (pa_cons (pv 1) pa_nil))))), ?_⟩
    exact s_ret (K := K) tb (ei_call (ea_cons (ei_ixT (ei_var rfl h0) ei_i rfl) (ea_cons (ei_var rfl h1) ea_nil)) ⟨n, ns, rfl, hl, rfl⟩) q
/-- what from_word and its like have -/
def FFrom (p : Int → Int × Int → Bool) (ds : List D) (r : D) : Prop := ∃ n ls w, ds = [hD n ls, .int w] ∧ inW n w = true ∧ ls.length ≤ 1000000 ∧ r = .tup ((idx (p w) ls).map D.int)
abbrev pFrom (w : Int) (l : Int × Int) : Bool := decide (l.1 = w)
abbrev pTo (w : Int) (l : Int × Int) : Bool := decide (l.2 = w)
theorem ok_from_word (T : Txt K mg) : FnOk P w K mg base L2.CX0 5 T.from_word.f T.from_word.fd ["heap", "word"] (spF τ K (FFrom pFrom)) := by
  have G_is_word : FnOk P w K mg base L2.CX0 4 T.is_word.f T.is_word.fd _ _ := ok_is_word (τ := τ) T
  have G_need : FnOk P w K mg base L2.CX0 1 T.need.f T.need.fd _ _ := ok_need (τ := τ) T
  refine T.from_word.F.ok sc_from_word (fun vs H Q E h => ?_) (fun cdv A outer s H vs Q E hr h => ?_)
  · obtain ⟨ds, r, h1, _, ⟨_, _, _, rfl, _⟩, _⟩ := h
    exact h1.length
  · obtain ⟨ds, r, hv, tb, ⟨n, ls, w, rfl, hw, hl, rfl⟩, q⟩ := h
    obtain ⟨y, x, rfl, h0, h1⟩ := ima2 hv
    refine ⟨_, (pss_cons (ps_expr (pc T.need G_need (hr.mono (by decide)) (by rfl) (pa_cons (pc T.is_word G_is_word (hr.mono (by decide)) (by rfl) (pa_cons (pv 0) (pa_cons (pv 1) pa_nil))) (pa_cons pe_str pa_nil))))
      (pss_cons (ps_set (i := 2) sc_from_word.nd rfl (by first | exact .inl rfl | exact .inr rfl) (pe_ix (r := rIx K) ix_seq (pv 0) pe_int (fun _ _ => rfl)))
      (pss_one (ps_ret (pe_callTy (r := rTupQ K) call_tuple_of (by rfl) T.z_tuple (by decide +kernel) (pa_cons (pe_lc (own := [("at", 3)]) (g := (gName 3)) (tt := _) rfl sc_from_word.nd (pi_range1 (by rfl) T.z_range (pa_cons (pe_callB (r := rLenQ K) call_len_seq (by rfl) T.z_len (by decide +kernel) (pa_cons (pv 2) pa_nil)) pa_nil)) (blkOk_by (own := [("at", 3)]) (N := ["heap", "word", "leaves", "at"]) (sc := defScope s_from_word) (by decide +kernel)) (fun _ _ _ _ _ => (pg_name (i := 3) sc_from_word.nd rfl (by first | exact .inl rfl | exact .inr rfl))) (fun _ _ _ _ _ => pts_one (pt_cmpR op_eq (pe_ix (r := rIx K) ix_seq (pe_ix (r := rIx K) ix_seq (pv 2) (pv 3) (fun _ _ => rfl)) pe_int (fun _ _ => rfl)) (pv 1) (nomark _))) (fun _ _ _ _ _ => (pv 3))) pa_nil)))))), ?_⟩
    refine s_drop (K := K) tb (ei_call (ea_cons (ei_is (ei_call (ea_cons (ei_var rfl h0) (ea_cons (ei_var rfl h1) ea_nil)) ⟨n, ls, w, rfl, rfl⟩) (by rw [hw])) (ea_cons ei_s ea_nil)) ⟨_, rfl, rfl⟩) fun H1 g1 => ?_
    refine s_asgI (K := K) g1.tabs (ei_ixT (ei_var rfl (h0.up g1)) ei_i rfl) fun v H2 g2 hv => ?_
    have h1' := (h1.up g1).up g2
    have hlen : (ls.map prD).length = ls.length := List.length_map ..
    refine s_ret (K := K) g2.tabs (ei_tupN (en_is (en_lcR (fun i => pFrom w (ls.getD i (0, 0))) (fun i => .int ((i : Nat) : Int)) (ea_cons (ei_lenT (ei_var rfl hv)) ea_nil) (by rw [hlen]; omega) (fun _ => rfl)
      (fun i H3 g3 hi => ?_) fun i H3 g3 hi _ => ei_var rfl (.int _)) (by rw [Int.toNat_natCast, hlen]; exact outs_idx (pFrom w) ls _ fun i _ => rfl))) fun v H3 g3 hv => q v H3 ((g1.trans g2).trans g3) hv
    rw [hlen] at hi
    rw [im_int h1'] 
    exact et_test (K := K) (ei_eqI (ei_ixT (ei_ixT (ei_var rfl (hv.up g3)) (ei_var rfl (.int _)) (at_leaf (by omega))) ei_i rfl) (ei_var rfl (.int _)))
theorem ok_to_word (T : Txt K mg) : FnOk P w K mg base L2.CX0 5 T.to_word.f T.to_word.fd ["heap", "word"] (spF τ K (FFrom pTo)) := by
  have G_is_word : FnOk P w K mg base L2.CX0 4 T.is_word.f T.is_word.fd _ _ := ok_is_word (τ := τ) T
  have G_need : FnOk P w K mg base L2.CX0 1 T.need.f T.need.fd _ _ := ok_need (τ := τ) T
  refine T.to_word.F.ok sc_to_word (fun vs H Q E h => ?_) (fun cdv A outer s H vs Q E hr h => ?_)
  · obtain ⟨ds, r, h1, _, ⟨_, _, _, rfl, _⟩, _⟩ := h
    exact h1.length
  · obtain ⟨ds, r, hv, tb, ⟨n, ls, w, rfl, hw, hl, rfl⟩, q⟩ := h
    obtain ⟨y, x, rfl, h0, h1⟩ := ima2 hv
    refine ⟨_, (pss_cons (ps_expr (pc T.need G_need (hr.mono (by decide)) (by rfl) (pa_cons (pc T.is_word G_is_word (hr.mono (by decide)) (by rfl) (pa_cons (pv 0) (pa_cons (pv 1) pa_nil))) (pa_cons pe_str pa_nil))))
      (pss_cons (ps_set (i := 2) sc_to_word.nd rfl (by first | exact .inl rfl | exact .inr rfl) (pe_ix (r := rIx K) ix_seq (pv 0) pe_int (fun _ _ => rfl)))
      (pss_one (ps_ret (pe_callTy (r := rTupQ K) call_tuple_of (by rfl) T.z_tuple (by decide +kernel) (pa_cons (pe_lc (own := [("at", 3)]) (g := (gName 3)) (tt := _) rfl sc_to_word.nd (pi_range1 (by rfl) T.z_range (pa_cons (pe_callB (r := rLenQ K) call_len_seq (by rfl) T.z_len (by decide +kernel) (pa_cons (pv 2) pa_nil)) pa_nil)) (blkOk_by (own := [("at", 3)]) (N := ["heap", "word", "leaves", "at"]) (sc := defScope s_to_word) (by decide +kernel)) (fun _ _ _ _ _ => (pg_name (i := 3) sc_to_word.nd rfl (by first | exact .inl rfl | exact .inr rfl))) (fun _ _ _ _ _ => pts_one (pt_cmpR op_eq (pe_ix (r := rIx K) ix_seq (pe_ix (r := rIx K) ix_seq (pv 2) (pv 3) (fun _ _ => rfl)) pe_int (fun _ _ => rfl)) (pv 1) (nomark _))) (fun _ _ _ _ _ => (pv 3))) pa_nil)))))), ?_⟩
    refine s_drop (K := K) tb (ei_call (ea_cons (ei_is (ei_call (ea_cons (ei_var rfl h0) (ea_cons (ei_var rfl h1) ea_nil)) ⟨n, ls, w, rfl, rfl⟩) (by rw [hw])) (ea_cons ei_s ea_nil)) ⟨_, rfl, rfl⟩) fun H1 g1 => ?_
    refine s_asgI (K := K) g1.tabs (ei_ixT (ei_var rfl (h0.up g1)) ei_i rfl) fun v H2 g2 hv => ?_
    have h1' := (h1.up g1).up g2
    have hlen : (ls.map prD).length = ls.length := List.length_map ..
    refine s_ret (K := K) g2.tabs (ei_tupN (en_is (en_lcR (fun i => pTo w (ls.getD i (0, 0))) (fun i => .int ((i : Nat) : Int)) (ea_cons (ei_lenT (ei_var rfl hv)) ea_nil) (by rw [hlen]; omega) (fun _ => rfl)
      (fun i H3 g3 hi => ?_) fun i H3 g3 hi _ => ei_var rfl (.int _)) (by rw [Int.toNat_natCast, hlen]; exact outs_idx (pTo w) ls _ fun i _ => rfl))) fun v H3 g3 hv => q v H3 ((g1.trans g2).trans g3) hv
    rw [hlen] at hi
    rw [im_int h1']
    exact et_test (K := K) (ei_eqI (ei_ixT (ei_ixT (ei_var rfl (hv.up g3)) (ei_var rfl (.int _)) (at_leaf (by omega))) ei_i rfl) (ei_var rfl (.int _)))
def FFan (p : Int → Int × Int → Bool) (ds : List D) (r : D) : Prop := ∃ n ls w, ds = [hD n ls, .int w] ∧ inW n w = true ∧ ls.length ≤ 1000000 ∧ r = .int ((idx (p w) ls).length : Int)
theorem ok_fan_of (T : Txt K mg) : FnOk P w K mg base L2.CX0 6 T.fan_of.f T.fan_of.fd ["heap", "word"] (spF τ K (FFan pFrom)) := by
  have G_from_word : FnOk P w K mg base L2.CX0 5 T.from_word.f T.from_word.fd _ _ := ok_from_word (τ := τ) T
  refine T.fan_of.F.ok sc_fan_of (fun vs H Q E h => ?_) (fun cdv A outer s H vs Q E hr h => ?_)
  · obtain ⟨ds, r, h1, _, ⟨_, _, _, rfl, _⟩, _⟩ := h
    exact h1.length
  · obtain ⟨ds, r, hv, tb, ⟨n, ls, w, rfl, hw, hl, rfl⟩, q⟩ := h
    obtain ⟨y, x, rfl, h0, h1⟩ := ima2 hv
    refine ⟨_, (pss_one (ps_ret (pe_callB (r := rLenQ K) call_len_seq (by rfl) T.z_len (by decide +kernel) (pa_cons (pc T.from_word G_from_word (hr.mono (by decide)) (by rfl) (pa_cons (pv 0) (pa_cons (pv 1) pa_nil))) pa_nil)))), ?_⟩
    exact s_ret (K := K) tb (ei_is (ei_lenT (ei_call (ea_cons (ei_var rfl h0) (ea_cons (ei_var rfl h1) ea_nil)) ⟨n, ls, w, rfl, hw, hl, rfl⟩)) (by rw [List.length_map])) q
theorem ok_ends_of (T : Txt K mg) : FnOk P w K mg base L2.CX0 6 T.ends_of.f T.ends_of.fd ["heap", "word"] (spF τ K (FFan pTo)) := by
  have G_to_word : FnOk P w K mg base L2.CX0 5 T.to_word.f T.to_word.fd _ _ := ok_to_word (τ := τ) T
  refine T.ends_of.F.ok sc_ends_of (fun vs H Q E h => ?_) (fun cdv A outer s H vs Q E hr h => ?_)
  · obtain ⟨ds, r, h1, _, ⟨_, _, _, rfl, _⟩, _⟩ := h
    exact h1.length
  · obtain ⟨ds, r, hv, tb, ⟨n, ls, w, rfl, hw, hl, rfl⟩, q⟩ := h
    obtain ⟨y, x, rfl, h0, h1⟩ := ima2 hv
    refine ⟨_, (pss_one (ps_ret (pe_callB (r := rLenQ K) call_len_seq (by rfl) T.z_len (by decide +kernel) (pa_cons (pc T.to_word G_to_word (hr.mono (by decide)) (by rfl) (pa_cons (pv 0) (pa_cons (pv 1) pa_nil))) pa_nil)))), ?_⟩
    exact s_ret (K := K) tb (ei_is (ei_lenT (ei_call (ea_cons (ei_var rfl h0) (ea_cons (ei_var rfl h1) ea_nil)) ⟨n, ls, w, rfl, hw, hl, rfl⟩)) (by rw [List.length_map])) q
def FSur (ds : List D) (r : D) : Prop := ∃ n ls w, ds = [hD n ls, .int w] ∧ inW n w = true ∧ ls.length ≤ 1000000 ∧ r = .int (((idx (pTo w) ls).length : Int) - ((idx (pFrom w) ls).length : Int))
theorem ok_surplus_of (T : Txt K mg) : FnOk P w K mg base L2.CX0 7 T.surplus_of.f T.surplus_of.fd ["heap", "word"] (spF τ K FSur) := by
  have G_fan_of : FnOk P w K mg base L2.CX0 6 T.fan_of.f T.fan_of.fd _ _ := ok_fan_of (τ := τ) T
  have G_ends_of : FnOk P w K mg base L2.CX0 6 T.ends_of.f T.ends_of.fd _ _ := ok_ends_of (τ := τ) T
  refine T.surplus_of.F.ok sc_surplus_of (fun vs H Q E h => ?_) (fun cdv A outer s H vs Q E hr h => ?_)
  · obtain ⟨ds, r, h1, _, ⟨_, _, _, rfl, _⟩, _⟩ := h
    exact h1.length
  · obtain ⟨ds, r, hv, tb, ⟨n, ls, w, rfl, hw, hl, rfl⟩, q⟩ := h
    obtain ⟨y, x, rfl, h0, h1⟩ := ima2 hv
    refine ⟨_, (pss_one (ps_ret (pe_op op_sub (pc T.ends_of G_ends_of (hr.mono (by decide)) (by rfl) (pa_cons (pv 0) (pa_cons (pv 1) pa_nil))) (pc T.fan_of G_fan_of (hr.mono (by decide)) (by rfl) (pa_cons (pv 0) (pa_cons (pv 1) pa_nil)))))), ?_⟩
    exact s_ret (K := K) tb (ei_sub (ei_call (ea_cons (ei_var rfl h0) (ea_cons (ei_var rfl h1) ea_nil)) ⟨n, ls, w, rfl, hw, hl, rfl⟩) (ei_call (ea_cons (ei_var rfl h0) (ea_cons (ei_var rfl h1) ea_nil)) ⟨n, ls, w, rfl, hw, hl, rfl⟩)) q
abbrev pCross (lot : List Int) (a b : Bool) (l : Int × Int) : Bool := (decide (l.1 ∈ lot) == a) && (decide (l.2 ∈ lot) == b)
def FCross (ds : List D) (r : D) : Prop := ∃ n ls lot a b, ds = [hD n ls, .tup (lot.map D.int), .bl a, .bl b] ∧ lotOk n lot = true ∧ lot.length ≤ 1000000 ∧ ls.length ≤ 1000000 ∧ r = .tup ((idx (pCross lot a b) ls).map D.int)
theorem ok_crossing (T : Txt K mg) {c Pt : Addr} (L : Lm T base τ c Pt) : FnOk P w K mg base L2.CX0 9 T.crossing.f T.crossing.fd ["heap", "lot", "from_inside", "to_inside"] (spF τ K FCross) := by
  have G_is_lot : FnOk P w K mg base L2.CX0 8 T.is_lot.f T.is_lot.fd _ _ := ok_is_lot T L
  have G_need : FnOk P w K mg base L2.CX0 1 T.need.f T.need.fd _ _ := ok_need (τ := τ) T
  refine T.crossing.F.ok sc_crossing (fun vs H Q E h => ?_) (fun cdv A outer s H vs Q E hr h => ?_)
  · obtain ⟨ds, r, h1, _, ⟨_, _, _, _, _, rfl, _⟩, _⟩ := h
    exact h1.length
  · obtain ⟨ds, r, hv, tb, ⟨n, ls, lot, a, b, rfl, hw, hz, hl, rfl⟩, q⟩ := h
    obtain ⟨y, x, va, vb, rfl, h0, h1, h2, h3⟩ := ima4 hv
    rw [im_bl h2, im_bl h3]
    refine ⟨_, (pss_cons (ps_expr (pc T.need G_need (hr.mono (by decide)) (by rfl) (pa_cons (pc T.is_lot G_is_lot (hr.mono (by decide)) (by rfl) (pa_cons (pv 0) (pa_cons (pv 1) pa_nil))) (pa_cons pe_str pa_nil))))
      (pss_cons (ps_set (i := 4) sc_crossing.nd rfl (by first | exact .inl rfl | exact .inr rfl) (pe_ix (r := rIx K) ix_seq (pv 0) pe_int (fun _ _ => rfl)))
      (pss_one (ps_ret (pe_callTy (r := rTupQ K) call_tuple_of (by rfl) T.z_tuple (by decide +kernel) (pa_cons (pe_lc (own := [("at", 5)]) (g := (gName 5)) (tt := _) rfl sc_crossing.nd (pi_range1 (by rfl) T.z_range (pa_cons (pe_callB (r := rLenQ K) call_len_seq (by rfl) T.z_len (by decide +kernel) (pa_cons (pv 4) pa_nil)) pa_nil)) (blkOk_by (own := [("at", 5)]) (N := ["heap", "lot", "from_inside", "to_inside", "leaves", "at"]) (sc := defScope s_crossing) (by decide +kernel)) (fun _ _ _ _ _ => (pg_name (i := 5) sc_crossing.nd rfl (by first | exact .inl rfl | exact .inr rfl))) (fun _ _ _ _ _ => pts_one (PW.pt (pw_and (pt_cmpR op_eq (pe_cmpR (r := rIn K false) op_in_seq (pe_ix (r := rIx K) ix_seq (pe_ix (r := rIx K) ix_seq (pv 4) (pv 5) (fun _ _ => rfl)) pe_int (fun _ _ => rfl)) (pv 1) (by rfl)) (pv 2) (nomark _)) (pw_and1 (pt_cmpR op_eq (pe_cmpR (r := rIn K false) op_in_seq (pe_ix (r := rIx K) ix_seq (pe_ix (r := rIx K) ix_seq (pv 4) (pv 5) (fun _ _ => rfl)) pe_int (fun _ _ => rfl)) (pv 1) (by rfl)) (pv 3) (nomark _)))))) (fun _ _ _ _ _ => (pv 5))) pa_nil)))))), ?_⟩
    refine s_drop (K := K) tb (ei_call (ea_cons (ei_is (ei_call (ea_cons (ei_var rfl h0) (ea_cons (ei_var rfl h1) ea_nil)) ⟨n, ls, _, rfl, hz, rfl⟩) (by rw [hw])) (ea_cons ei_s ea_nil)) ⟨_, rfl, rfl⟩) fun H1 g1 => ?_
    refine s_asgI (K := K) g1.tabs (ei_ixT (ei_var rfl (h0.up g1)) ei_i rfl) fun v H2 g2 hv => ?_
    have h1' := (h1.up g1).up g2
    have hlen : (ls.map prD).length = ls.length := List.length_map ..
    refine s_ret (K := K) g2.tabs (ei_tupN (en_is (en_lcR (fun i => pCross lot a b (ls.getD i (0, 0))) (fun i => .int ((i : Nat) : Int)) (ea_cons (ei_lenT (ei_var rfl hv)) ea_nil) (by rw [hlen]; omega) (fun _ => rfl)
      (fun i H3 g3 hi => ?_) fun i H3 g3 hi _ => ei_var rfl (.int _)) (by rw [Int.toNat_natCast, hlen]; exact outs_idx (pCross lot a b) ls _ fun i _ => rfl))) fun v H3 g3 hv => q v H3 ((g1.trans g2).trans g3) hv
    rw [hlen] at hi
    exact et_and (et_test (K := K) (ei_eqB (ei_inT (ei_ixT (ei_ixT (ei_var rfl (hv.up g3)) (ei_var rfl (.int _)) (at_leaf (by omega))) ei_i rfl) (ei_var rfl (h1'.up g3))) (ei_var rfl (.bl _)))) fun _ =>
      et_test (K := K) (ei_eqB (ei_inT (ei_ixT (ei_ixT (ei_var rfl (hv.up g3)) (ei_var rfl (.int _)) (at_leaf (by omega))) ei_i rfl) (ei_var rfl (h1'.up g3))) (ei_var rfl (.bl _)))
def FSide (a b : Bool) (ds : List D) (r : D) : Prop := ∃ n ls lot, ds = [hD n ls, .tup (lot.map D.int)] ∧ lotOk n lot = true ∧ lot.length ≤ 1000000 ∧ ls.length ≤ 1000000 ∧ r = .tup ((idx (pCross lot a b) ls).map D.int)
theorem ok_within (T : Txt K mg) {c Pt : Addr} (L : Lm T base τ c Pt) : FnOk P w K mg base L2.CX0 10 T.within.f T.within.fd ["heap", "lot"] (spF τ K (FSide true true)) := by
  have G_crossing : FnOk P w K mg base L2.CX0 9 T.crossing.f T.crossing.fd _ _ := ok_crossing T L
  refine T.within.F.ok sc_within (fun vs H Q E h => ?_) (fun cdv A outer s H vs Q E hr h => ?_)
  · obtain ⟨ds, r, h1, _, ⟨_, _, _, rfl, _⟩, _⟩ := h
    exact h1.length
  · obtain ⟨ds, r, hv, tb, ⟨n, ls, lot, rfl, hw, hz, hl, rfl⟩, q⟩ := h
    obtain ⟨y, x, rfl, h0, h1⟩ := ima2 hv
    refine ⟨_, (pss_one (ps_ret (pc T.crossing G_crossing (hr.mono (by decide)) (by rfl) (pa_cons (pv 0) (pa_cons (pv 1) (pa_cons pe_bl (pa_cons pe_bl pa_nil))))))), ?_⟩
    exact s_ret (K := K) tb (ei_call (ea_cons (ei_var rfl h0) (ea_cons (ei_var rfl h1) (ea_cons ei_b (ea_cons ei_b ea_nil)))) ⟨n, ls, lot, _, _, rfl, hw, hz, hl, rfl⟩) q
theorem ok_leaving (T : Txt K mg) {c Pt : Addr} (L : Lm T base τ c Pt) : FnOk P w K mg base L2.CX0 10 T.leaving.f T.leaving.fd ["heap", "lot"] (spF τ K (FSide true false)) := by
  have G_crossing : FnOk P w K mg base L2.CX0 9 T.crossing.f T.crossing.fd _ _ := ok_crossing T L
  refine T.leaving.F.ok sc_leaving (fun vs H Q E h => ?_) (fun cdv A outer s H vs Q E hr h => ?_)
  · obtain ⟨ds, r, h1, _, ⟨_, _, _, rfl, _⟩, _⟩ := h
    exact h1.length
  · obtain ⟨ds, r, hv, tb, ⟨n, ls, lot, rfl, hw, hz, hl, rfl⟩, q⟩ := h
    obtain ⟨y, x, rfl, h0, h1⟩ := ima2 hv
    refine ⟨_, (pss_one (ps_ret (pc T.crossing G_crossing (hr.mono (by decide)) (by rfl) (pa_cons (pv 0) (pa_cons (pv 1) (pa_cons pe_bl (pa_cons pe_bl pa_nil))))))), ?_⟩
    exact s_ret (K := K) tb (ei_call (ea_cons (ei_var rfl h0) (ea_cons (ei_var rfl h1) (ea_cons ei_b (ea_cons ei_b ea_nil)))) ⟨n, ls, lot, _, _, rfl, hw, hz, hl, rfl⟩) q
theorem ok_entering (T : Txt K mg) {c Pt : Addr} (L : Lm T base τ c Pt) : FnOk P w K mg base L2.CX0 10 T.entering.f T.entering.fd ["heap", "lot"] (spF τ K (FSide false true)) := by
  have G_crossing : FnOk P w K mg base L2.CX0 9 T.crossing.f T.crossing.fd _ _ := ok_crossing T L
  refine T.entering.F.ok sc_entering (fun vs H Q E h => ?_) (fun cdv A outer s H vs Q E hr h => ?_)
  · obtain ⟨ds, r, h1, _, ⟨_, _, _, rfl, _⟩, _⟩ := h
    exact h1.length
  · obtain ⟨ds, r, hv, tb, ⟨n, ls, lot, rfl, hw, hz, hl, rfl⟩, q⟩ := h
    obtain ⟨y, x, rfl, h0, h1⟩ := ima2 hv
    refine ⟨_, (pss_one (ps_ret (pc T.crossing G_crossing (hr.mono (by decide)) (by rfl) (pa_cons (pv 0) (pa_cons (pv 1) (pa_cons pe_bl (pa_cons pe_bl pa_nil))))))), ?_⟩
    exact s_ret (K := K) tb (ei_call (ea_cons (ei_var rfl h0) (ea_cons (ei_var rfl h1) (ea_cons ei_b (ea_cons ei_b ea_nil)))) ⟨n, ls, lot, _, _, rfl, hw, hz, hl, rfl⟩) q
def FGates (ds : List D) (r : D) : Prop := ∃ n ls lot, ds = [hD n ls, .tup (lot.map D.int)] ∧ lotOk n lot = true ∧ lot.length ≤ 1000000 ∧ ls.length ≤ 1000000 ∧ r = .int ((idx (pCross lot true false) ls).length : Int)
theorem ok_gates_of (T : Txt K mg) {c Pt : Addr} (L : Lm T base τ c Pt) : FnOk P w K mg base L2.CX0 11 T.gates_of.f T.gates_of.fd ["heap", "lot"] (spF τ K FGates) := by
  have G_leaving : FnOk P w K mg base L2.CX0 10 T.leaving.f T.leaving.fd _ _ := ok_leaving T L
  refine T.gates_of.F.ok sc_gates_of (fun vs H Q E h => ?_) (fun cdv A outer s H vs Q E hr h => ?_)
  · obtain ⟨ds, r, h1, _, ⟨_, _, _, rfl, _⟩, _⟩ := h
    exact h1.length
  · obtain ⟨ds, r, hv, tb, ⟨n, ls, lot, rfl, hw, hz, hl, rfl⟩, q⟩ := h
    obtain ⟨y, x, rfl, h0, h1⟩ := ima2 hv
    refine ⟨_, (pss_one (ps_ret (pe_callB (r := rLenQ K) call_len_seq (by rfl) T.z_len (by decide +kernel) (pa_cons (pc T.leaving G_leaving (hr.mono (by decide)) (by rfl) (pa_cons (pv 0) (pa_cons (pv 1) pa_nil))) pa_nil)))), ?_⟩
    exact s_ret (K := K) tb (ei_is (ei_lenT (ei_call (ea_cons (ei_var rfl h0) (ea_cons (ei_var rfl h1) ea_nil)) ⟨n, ls, lot, rfl, hw, hz, hl, rfl⟩)) (by rw [List.length_map])) q
end
end K02
namespace K02
open PySem PySem.Spec PyProof.Rows L2 LamX NdefX Clo LRev U
section
variable {P : Program} {w : World} {K : PySem.W.Frag} {mg : Str → Option Value} {base : Heap} {τ : TL}
/-! ### numbers from the script -/
def mixZ (c k : Int) : Int :=
  let a := (c * 39119 + k * 15013 + 2749) % 1000037
  ((a * a + 50021 * a + k) % 999999893 / 8 + a) % 5040
def FMix (ds : List D) (r : D) : Prop := ∃ c k : Int, ds = [.int c, .int k] ∧ c.natAbs < 10 ^ 18 ∧ k.natAbs < 10 ^ 6 ∧ r = .int (mixZ c k)
theorem ok__law_mix (T : Txt K mg) : FnOk P w K mg base L2.CX0 1 T._law_mix.f T._law_mix.fd ["_law_cell", "_law_k"] (spF τ K FMix) := by
  refine T._law_mix.F.ok sc__law_mix (fun vs H Q E h => ?_) (fun cdv A outer s H vs Q E hr h => ?_)
  · obtain ⟨ds, r, h1, _, ⟨_, _, rfl, _⟩, _⟩ := h
    exact h1.length
  · obtain ⟨ds, r, hv, tb, ⟨c, k, rfl, hc, hk, rfl⟩, q⟩ := h
    obtain ⟨y, x, rfl, h0, h1⟩ := ima2 hv
    rw [im_int h0, im_int h1]
    refine ⟨_, (pss_cons (ps_set (i := 2) sc__law_mix.nd rfl (by first | exact .inl rfl | exact .inr rfl) (pe_op op_mod (pe_callTy call_int1 (by rfl) T.z_int (by decide +kernel) (pa_cons (pe_op op_add (pe_op op_add (pe_op op_mul (pv 0) pe_int) (pe_op op_mul (pv 1) pe_int)) pe_int) pa_nil)) pe_int))
      (pss_cons (ps_set (i := 3) sc__law_mix.nd rfl (by first | exact .inl rfl | exact .inr rfl) (pe_op op_mod (pe_callTy call_int1 (by rfl) T.z_int (by decide +kernel) (pa_cons (pe_op op_add (pe_op op_add (pe_op op_mul (pv 2) (pv 2)) (pe_op op_mul pe_int (pv 2))) (pv 1)) pa_nil)) pe_int))
      (pss_one (ps_ret (pe_op op_mod (pe_callTy call_int1 (by rfl) T.z_int (by decide +kernel) (pa_cons (pe_op op_add (pe_op op_fdiv (pv 3) pe_int) (pv 2)) pa_nil)) pe_int))))), ?_⟩
    have hc' : c.natAbs < 1000000000000000000 := hc
    have hk' : k.natAbs < 1000000 := hk
    refine s_asgZ (K := K) tb (ei_mod (ei_intI (ei_add (ei_add (ei_mul (ei_var rfl (.int _)) ei_i (.inl (by omega))) (ei_mul (ei_var rfl (.int _)) ei_i (.inl (by omega)))) ei_i)) ei_i (by decide)) fun H1 g1 => ?_
    generalize ha : (c * 39119 + k * 15013 + 2749) % 1000037 = a
    have a0 : 0 ≤ a ∧ a < 1000037 := by rw [← ha]; omega
    refine s_asgZ (K := K) g1.tabs (ei_mod (ei_intI (ei_add (ei_add (ei_mul (ei_var rfl (.int _)) (ei_var rfl (.int _)) (.inl (by omega))) (ei_mul ei_i (ei_var rfl (.int _)) (.inl (by decide)))) (ei_var rfl (.int _)))) ei_i (by decide)) fun H2 g2 => ?_
    refine s_ret (K := K) g2.tabs (ei_mod (ei_intI (ei_add (ei_div (ei_var rfl (.int _)) ei_i ⟨by decide, by decide⟩) (ei_var rfl (.int _)))) ei_i (by decide)) fun v H3 g3 hv => q v H3 ((g1.trans g2).trans g3) ?_
    rw [im_int hv]
    unfold mixZ
    rw [ha]
    exact .int _
/-- the list at p holds ints -/
def Cl (K : PySem.W.Frag) (H : Hp) (p : Addr) : Prop := ∃ cs : List Int, Ls K H p (cs.map D.int)
theorem Cl.up {H H' : Hp} {p : Addr} {ms : List Addr} (g : G τ ms H H') (n : p ∉ ms) (h : Cl K H p) : Cl K H' p := let ⟨cs, h⟩ := h; ⟨cs, h.up g n⟩
theorem Cl.up0 {H H' : Hp} {p : Addr} (g : G τ [] H H') (h : Cl K H p) : Cl K H' p := h.up g (by simp)
def spPick (τ : TL) (K : PySem.W.Frag) : Sp := fun vs H Q _ => ∃ p lim, vs = [.ref p, .int lim] ∧ 0 < lim ∧ Tabs τ H ∧ Cl K H p ∧ ∀ r H2, 0 ≤ r → r < lim → G τ [p] H H2 → Cl K H2 p → Q (.int r) H2
theorem ok__law_pick (T : Txt K mg) : FnOk P w K mg base L2.CX0 1 T._law_pick.f T._law_pick.fd ["_law_cells_here", "_law_limit"] (spPick τ K) := by
  refine T._law_pick.F.ok sc__law_pick (fun vs H Q E h => ?_) (fun cdv A outer s H vs Q E hr h => ?_)
  · obtain ⟨p, lim, rfl, _⟩ := h
    rfl
  · obtain ⟨p, lim, rfl, hl, tb, ⟨cs, hc⟩, q⟩ := h
    refine ⟨_, (pss_cons (ps_if (pt_cmpR op_eq (pe_callB (r := rLenQ K) call_len_seq (by rfl) T.z_len (by decide +kernel) (pa_cons (pv 0) pa_nil)) pe_int (nomark _)) (pss_one (ps_ret pe_int)) pss_nil)
      (pss_one (ps_ret (pe_op op_mod (pe_callTy call_int1 (by rfl) T.z_int (by decide +kernel) (pa_cons (pe_bm0 PySem.F.plainAttrs_list PySem.F.slot_list_pop PySem.F.type_list_pop mt_pop (pv 0)) pa_nil)) (pv 1))))), ?_⟩
    refine s_if tb (et_test (K := K) (ei_eqI (ei_lenL (K := K) (ei_var rfl (.ptr p)) hc.lr) ei_i)) (fun e H1 g1 => ?_) fun e H1 g1 => ?_
    · exact s_ret (K := K) g1.tabs ei_i fun v H2 g2 hv => by
        rw [im_int hv]
        exact q 0 H2 (by omega) hl (g1.trans g2).wide ⟨cs, (hc.up0 g1).up0 g2⟩
    · obtain ⟨cs', c, rfl⟩ : ∃ cs' c, cs = cs' ++ [c] := by
        rcases List.eq_nil_or_concat cs with h | ⟨cs', c, h⟩
        · rw [h] at e
          exact absurd rfl (of_decide_eq_false e)
        · exact ⟨cs', c, by rw [h, List.concat_eq_append]⟩
      rw [List.map_append] at hc
      have hc1 := hc.up0 g1
      have hp := rn_pop (σ := start ["_law_cells_here", "_law_limit"] [.ref p, .int lim]) g1.tabs (ei_var (i := 0) rfl (.ptr p)) hc1
      refine hp _ fun z H2 g2 hz => ?_
      obtain ⟨hz, hc2⟩ := hz
      refine .inl ⟨c, by rw [im_int hz], .int lim, rfl, c, lim, rfl, rfl, hl, ?_⟩
      exact q _ H2 (Int.emod_nonneg _ (by omega)) (Int.emod_lt_of_pos _ hl) (g1.wide.trans g2) ⟨cs', hc2⟩
theorem rn_pick {σ : L2.St} {H : Hp} {tr : TA} {p : Addr} {lim : Int} (tb : Tabs τ H) (h : EvA τ K tr σ H [.ptr p, .int lim]) (hl : 0 < lim) (hc : Cl K H p) : Rn τ [p] (tCall (spPick τ K) [] L2.E0 tr) σ H fun z H2 => ∃ r, z = .int r ∧ 0 ≤ r ∧ r < lim ∧ Cl K H2 p := fun Q q =>
  h H (.refl tb) _ fun vs H1 g hvs => by
    obtain ⟨x, y, rfl, h1, h2⟩ := ima2 hvs
    rw [im_ptr h1, im_int h2]
    exact ⟨p, lim, rfl, hl, g.tabs, hc.up0 g, fun r H2 r0 r1 g2 c2 => q _ H2 (g.wide.trans g2) ⟨r, rfl, r0, r1, c2⟩⟩
/-- the script's numbers, dealt out -/
def spCells (τ : TL) (K : PySem.W.Frag) : Sp := fun vs H Q _ => ∃ (a : Addr) (ns : List Int) (m : Int), vs = [.ref a, .int m] ∧ SqL K H a (ns.map V.int) ∧ ns.length ≤ 63 ∧ 0 ≤ m ∧ m ≤ 1000 ∧ Tabs τ H ∧ ∀ p H2, G τ [] H H2 → Nw H p → Cl K H2 p → Q (.ref p) H2
/-- what holds of the list that grows -/
def Gl (K : PySem.W.Frag) (H : Hp) (p : Addr) (n : Nat) : Prop := ∃ cs : List Int, Ls K H p (cs.map D.int) ∧ cs.length ≤ n
theorem Gl.up0 {H H' : Hp} {p : Addr} {n : Nat} (g : G τ [] H H') (h : Gl K H p n) : Gl K H' p n := let ⟨cs, h, l⟩ := h; ⟨cs, h.up0 g, l⟩
theorem Gl.add {H : Hp} {p : Addr} {n : Nat} {c : Int} {cs : List Int} (h : Ls K H p (cs.map D.int ++ [.int c])) (l : cs.length ≤ n) : Gl K H p (n + 1) := ⟨cs ++ [c], by rw [List.map_append]; exact h, by rw [List.length_append, List.length_singleton]; omega⟩
theorem ok__law_cells (T : Txt K mg) : FnOk P w K mg base L2.CX0 2 T._law_cells.f T._law_cells.fd ["_law_script", "_law_many_more"] (spCells τ K) := by
  have G__law_mix : FnOk P w K mg base L2.CX0 1 T._law_mix.f T._law_mix.fd _ _ := ok__law_mix (τ := τ) T
  refine T._law_cells.F.ok sc__law_cells (fun vs H Q E h => ?_) (fun cdv A outer s H vs Q E hr h => ?_)
  · obtain ⟨_, _, _, rfl, _⟩ := h
    rfl
  · obtain ⟨a, ns, m, rfl, hS, hn, m0, m1, tb, q⟩ := h
    refine ⟨_, (pss_cons (ps_set (i := 2) sc__law_cells.nd rfl (by first | exact .inl rfl | exact .inr rfl) (pe_lst pa_nil))
      (pss_cons (ps_set (i := 3) sc__law_cells.nd rfl (by first | exact .inl rfl | exact .inr rfl) (pe_op op_add pe_int (pe_op op_mul pe_int (pe_callB (r := rLenQ K) call_len_seq (by rfl) T.z_len (by decide +kernel) (pa_cons (pv 0) pa_nil)))))
      (pss_cons (ps_for PassesOwn.never rfl (pi_list (pv 0)) (pg_name (i := 4) sc__law_cells.nd rfl (by first | exact .inl rfl | exact .inr rfl)) (pss_cons (ps_set (i := 6) sc__law_cells.nd rfl (by first | exact .inl rfl | exact .inr rfl) (pe_callB call_abs (by rfl) T.z_abs (by decide +kernel) (pa_cons (pe_callTy call_int1 (by rfl) T.z_int (by decide +kernel) (pa_cons (pv 4) pa_nil)) pa_nil)))
      (pss_cons (ps_set (i := 3) sc__law_cells.nd rfl (by first | exact .inl rfl | exact .inr rfl) (pe_op op_mod (pe_callTy call_int1 (by rfl) T.z_int (by decide +kernel) (pa_cons (pe_op op_add (pe_op op_mul (pv 3) pe_int) (pv 4)) pa_nil)) pe_int))
      (pss_one (ps_if (pt_cmpR op_ge (pv 6) (pe_op op_pow pe_int pe_int) (nomark _)) (pss_one (ps_for PassesOwn.never rfl (pi_range1 (by rfl) T.z_range (pa_cons pe_int pa_nil)) (pg_name (i := 5) sc__law_cells.nd rfl (by first | exact .inl rfl | exact .inr rfl)) (pss_one (ps_if (pt_cmpR op_gt (pv 6) pe_int (nomark _)) (pss_cons (ps_expr (pe_bm PySem.F.plainAttrs_list PySem.F.slot_list_append PySem.F.type_list_append mt_append (pv 2) (pa_cons (pe_op op_mod (pe_callTy call_int1 (by rfl) T.z_int (by decide +kernel) (pa_cons (pv 6) pa_nil)) pe_int) pa_nil)))
      (pss_one (ps_set (i := 6) sc__law_cells.nd rfl (by first | exact .inl rfl | exact .inr rfl) (pe_op op_fdiv (pv 6) pe_int)))) pss_nil)))) (pss_one (ps_expr (pe_bm PySem.F.plainAttrs_list PySem.F.slot_list_append PySem.F.type_list_append mt_append (pv 2) (pa_cons (pc T._law_mix G__law_mix (hr.mono (by decide)) (by rfl) (pa_cons (pe_callTy call_int1 (by rfl) T.z_int (by decide +kernel) (pa_cons (pv 4) pa_nil)) (pa_cons (pe_callB (r := rLenQ K) call_len_seq (by rfl) T.z_len (by decide +kernel) (pa_cons (pv 2) pa_nil)) pa_nil))) pa_nil)))))))))
      (pss_cons (ps_for PassesOwn.never rfl (pi_range1 (by rfl) T.z_range (pa_cons (pv 1) pa_nil)) (pg_name (i := 5) sc__law_cells.nd rfl (by first | exact .inl rfl | exact .inr rfl)) (pss_one (ps_expr (pe_bm PySem.F.plainAttrs_list PySem.F.slot_list_append PySem.F.type_list_append mt_append (pv 2) (pa_cons (pc T._law_mix G__law_mix (hr.mono (by decide)) (by rfl) (pa_cons (pv 3) (pa_cons (pe_op op_add pe_int (pv 5)) pa_nil))) pa_nil)))))
      (pss_one (ps_ret (pe_lstRev rfl (by rfl) T.z_list (by rfl) T.z_reversed (pv 2)))))))), ?_⟩
    have hL : Lr K H a (ns.map D.int) := ⟨_, hS, ints_ima ns⟩
    refine s_asgN (K := K) (ds := []) tb (en_lst ea_nil (by decide)) fun p H1 g1 np hp => ?_
    refine s_asgZ (K := K) g1.tabs (ei_add ei_i (ei_mul ei_i (ei_lenL (ei_var rfl (.ptr a)) (hL.up g1)) (.inl (by decide)))) fun H2 g2 => ?_
    -- the loop over the script
    refine ⟨.ref a, rfl, a, rfl, ⟨_, (g1.trans g2).seqL hS⟩, for_list (xs := ns.map V.int) (fun i σ H' => ∃ sd v4 v5 v6, σ = [some (.ref a), some (.int m), some (.ref p), some (.int sd), v4, v5, v6] ∧ -10000000 < sd ∧ sd < 10000000 ∧ G τ [] H H' ∧ Gl K H' p (60 * i)) ?_ (fun i σ H' _ hP => ?_) (fun i x σ H' hx hP => ?_) fun σ H' hP => ?_⟩
    · refine ⟨_, none, none, none, rfl, ?_, ?_, g1.trans g2, [], (hp.up0 g2), Nat.zero_le _⟩
      · rw [List.length_map]; omega
      · rw [List.length_map]; omega
    · obtain ⟨_, _, _, _, _, _, _, g, _⟩ := hP
      exact g.seqL hS
    · obtain ⟨sd, v4, v5, v6, rfl, s0, s1, g, cs, hc, hcl⟩ := hP
      rw [List.getElem?_map] at hx
      obtain ⟨c, hc1, rfl⟩ : ∃ c, ns[i]? = some c ∧ x = .int c := by
        cases e : ns[i]? with
        | none => rw [e] at hx; cases hx
        | some c => rw [e] at hx; exact ⟨c, rfl, (Option.some.inj hx).symm⟩
      have hi : i < 63 := by
        have := (List.getElem?_eq_some_iff.mp hc1).1
        omega
      -- left, seed
      refine s_asgZ (K := K) g.tabs (ei_abs (ei_intI (ei_var (i := 4) rfl (.int c)))) fun H3 g3 => ?_
      refine s_asgZ (K := K) g3.tabs (ei_mod (ei_intI (ei_add (ei_mul (ei_var (i := 3) rfl (.int sd)) ei_i (.inl (by omega))) (ei_var (i := 4) rfl (.int c)))) ei_i (by decide)) fun H4 g4 => ?_
      generalize hsd : (sd * 1031 + c) % 1000037 = sd'
      have sd0 : 0 ≤ sd' ∧ sd' < 1000037 := by rw [← hsd]; omega
      have hc4 := (hc.up0 g3).up0 g4
      have g04 := (g.trans g3).trans g4
      refine s_if g4.tabs (et_test (K := K) (ei_ge (ei_var (i := 6) rfl (.int _)) (ei_pow ei_i ei_i ⟨by decide, by decide, by decide⟩))) (fun e H5 g5 => ?_) fun e H5 g5 => ?_
      · -- a great number: sixty turns
        refine ⟨60, rfl, by decide, by decide, for_range (lo := 0) (n := 60) (fun j σ H' => ∃ v5 lf, σ = [some (.ref a), some (.int m), some (.ref p), some (.int sd'), some (.int c), v5, some (.int lf)] ∧ G τ [] H H' ∧ Gl K H' p (60 * i + j)) ⟨v5, _, rfl, g04.trans g5, cs, hc4.up0 g5, hcl⟩ (fun j σ H' hj hP => ?_) fun σ H' hP => ?_⟩
        · obtain ⟨v5, lf, rfl, g6, ds, hd, hdl⟩ := hP
          refine s_if g6.tabs (et_test (K := K) (ei_gt (ei_var (i := 6) rfl (.int lf)) ei_i)) (fun e H7 g7 => ?_) fun e H7 g7 => ?_
          · refine s_app (K := K) g7.tabs (ei_var (i := 2) rfl (.ptr p)) (ei_mod (ei_intI (ei_var (i := 6) rfl (.int lf))) ei_i (by decide)) (hd.up0 g7) (by rw [List.length_map]; omega) fun H8 g8 h8 => ?_
            refine s_asgZ (K := K) g8.tabs (ei_div (ei_var (i := 6) rfl (.int lf)) ei_i ⟨by decide, by decide⟩) fun H9 g9 => ?_
            refine ⟨_, _, rfl, (((g6.trans g7).wide.trans g8).less np).trans g9, (Gl.add h8 hdl).up0 g9⟩
          · exact ⟨_, _, rfl, g6.trans g7, ds, hd.up0 g7, by omega⟩
        · obtain ⟨v5, lf, rfl, g6, hd⟩ := hP
          exact ⟨sd', _, _, _, rfl, by omega, by omega, g6, hd⟩
      · have hcb : c.natAbs < 10 ^ 18 := by
          have e' := of_decide_eq_false e
          have e2 : ¬ ((10 : Int) ^ (18 : Int).toNat ≤ (c.natAbs : Int)) := e'
          have e3 : (10 : Int) ^ (18 : Int).toNat = ((10 ^ 18 : Nat) : Int) := by decide
          rw [e3] at e2
          omega
        have hc5 := hc4.up0 g5
        refine s_app (K := K) g5.tabs (ei_var (i := 2) rfl (.ptr p)) (ei_call (ea_cons (ei_intI (ei_var (i := 4) rfl (.int c))) (ea_cons (ei_lenL (ei_var (i := 2) rfl (.ptr p)) hc5.lr) ea_nil)) ⟨c, _, rfl, hcb, by rw [List.length_map]; omega, rfl⟩) hc5 (by rw [List.length_map]; omega) fun H8 g8 h8 => ?_
        refine ⟨sd', _, _, _, rfl, by omega, by omega, ((g04.trans g5).wide.trans g8).less np, ?_⟩
        obtain ⟨es, q1, q2⟩ := Gl.add h8 hcl
        exact ⟨es, q1, by omega⟩
    · obtain ⟨sd, v4, v5, v6, rfl, s0, s1, g, hg⟩ := hP
      rw [List.length_map] at hg
      refine ⟨.int m, rfl, m, rfl, by omega, by omega, for_range (lo := 0) (n := m.toNat) (fun j σ H' => ∃ v5, σ = [some (.ref a), some (.int m), some (.ref p), some (.int sd), v4, v5, v6] ∧ G τ [] H H' ∧ Gl K H' p (60 * ns.length + j)) ⟨v5, rfl, g, hg⟩ (fun j σ H' hj hP => ?_) fun σ H' hP => ?_⟩
      · obtain ⟨v5, rfl, g6, ds, hd, hdl⟩ := hP
        refine s_app (K := K) g6.tabs (ei_var (i := 2) rfl (.ptr p)) (ei_call (ea_cons (ei_var (i := 3) rfl (.int sd)) (ea_cons (ei_add ei_i (ei_var (i := 5) rfl (.int _))) ea_nil)) ⟨sd, _, rfl, ?_, ?_, rfl⟩) hd (by rw [List.length_map]; omega) fun H8 g8 h8 => ?_
        · show sd.natAbs < 1000000000000000000
          omega
        · show (97 + (0 + (j : Int))).natAbs < 1000000
          omega
        · exact ⟨_, rfl, (g6.wide.trans g8).less np, Gl.add h8 hdl⟩
      · obtain ⟨v5, rfl, g6, ds, hd, hdl⟩ := hP
        refine s_retN (K := K) g6.tabs (en_lstRev (ei_var (i := 2) rfl (.ptr p)) hd.lr) fun r H2 g2 nr hr => q r H2 (g6.trans g2) (nr.back0 g6) ⟨ds.reverse, ?_⟩
        rw [List.map_reverse]
        exact hr
end
end K02
namespace K02
open PySem PySem.Spec PyProof.Rows L2 LamX NdefX Clo LRev U
section
variable {P : Program} {w : World} {K : PySem.W.Frag} {mg : Str → Option Value} {base : Heap} {τ : TL}
theorem Cl.put {H : Hp} {p q : Addr} {vs ys : List V} (h : Cl K H p) (n : p ≠ q) (hq : H q = some (.lst vs)) : Cl K (upd H q (.lst ys)) p := by
  obtain ⟨cs, ws, h1, h2⟩ := h
  exact ⟨cs, ws, by rw [upd_ne n]; exact h1, h2.putH hq⟩
theorem lsPut {H : Hp} {p q : Addr} {vs ys : List V} {ds : List D} (h : Ls K H p ds) (n : p ≠ q) (hq : H q = some (.lst vs)) : Ls K (upd H q (.lst ys)) p ds := by
  obtain ⟨ws, h1, h2⟩ := h
  exact ⟨ws, by rw [upd_ne n]; exact h1, h2.putH hq⟩
theorem Nw.neLs {H : Hp} {p q : Addr} {ds : List D} (h : Nw H q) (hp : Ls K H p ds) : p ≠ q := let ⟨_, e, _⟩ := hp; h.ne e
theorem Nw.neCl {H : Hp} {p q : Addr} (h : Nw H q) (hp : Cl K H p) : p ≠ q := let ⟨_, hp⟩ := hp; Nw.neLs h hp
/-- a comprehension over a range whose turns draw from the list at p -/
theorem rn_lcC {σ : L2.St} {H : Hp} {te : TE} {j : Nat} {vs : List Nat} {n : Int} {ta : TA} {p : Addr} (B : D → Prop) (h : EvA τ K ta σ H [.int n]) (hn : n ≤ 1000000) (hw : ∀ x, wipe ((wipe σ vs).set j (some x)) vs = wipe σ vs) (hp : Cl K H p) (tb : Tabs τ H)
    (he : ∀ (i : Nat) H1, G τ [p] H H1 → Cl K H1 p → (i : Int) < n → Rn τ [p] te ((wipe σ vs).set j (some (.int (i : Int)))) H1 fun z H2 => ∃ d, Im K H2 z d ∧ B d ∧ Cl K H2 p)
    (h0 : -(2 ^ 62) ≤ n := by omega) : Rn τ [p] (tLc (iRng1 ta) (gName j) tYes te vs) σ H fun z H2 => ∃ q es, z = .ref q ∧ Nw H q ∧ q ≠ p ∧ Ls K H2 q es ∧ es.length = n.toNat ∧ (∀ x ∈ es, B x) ∧ Cl K H2 p := fun Q q => h H (.refl tb) _ fun ws H1 g1 hws => by
  have e1 : ws = [.int n] := ima_ints (ns := [n]) hws
  have hp1 := hp.up0 g1
  refine ⟨n, e1, h0, by omega, fun Dl hD => ?_⟩
  have nD : Nw H Dl := (Nw.of hD).back0 g1
  have nDp : Dl ≠ p := (Nw.neCl (Nw.of hD) hp1).symm
  refine lc_range (lo := 0) (n := n.toNat) (fun i H' => G τ [p] H H' ∧ Cl K H' p ∧ ∃ es, Ls K H' Dl es ∧ es.length = i ∧ ∀ x ∈ es, B x) ?_ (fun i H' hi p => ?_) fun H' p => ?_
  · have gn : G τ [] H1 (upd H1 Dl (.lst [])) := .new g1.tabs hD
    exact ⟨g1.wide.trans gn.wide, hp1.up0 gn, [], ⟨[], upd_same, .nil⟩, rfl, fun x hx => by cases hx⟩
  · obtain ⟨p1, p2, es, p3, p4, p5⟩ := p
    rw [Int.zero_add]
    refine ⟨hw _, ?_⟩
    unfold tYes
    refine iteT ?_
    refine he i H' p1 p2 (by omega) _ fun z H4 g4 hz => ?_
    obtain ⟨d, z1, z2, z3⟩ := hz
    obtain ⟨ys, y1, y2⟩ := p3.up g4 (by simpa using nDp)
    refine ⟨ys, y1, ?_, (p1.trans g4).put (.inr nD) y1, z3.put nDp.symm y1, es ++ [d], ⟨ys ++ [z], upd_same, (y2.append (.cons z1 .nil)).putH y1⟩, by rw [List.length_append, List.length_singleton, p4], fun x hx => ?_⟩
    · rw [y2.length, p4]
      exact Nat.lt_of_lt_of_le (show i < 1000001 by omega) (by decide)
    · rcases List.mem_append.mp hx with hx | hx
      · exact p5 x hx
      · rw [List.mem_singleton.mp hx]
        exact z2
  · obtain ⟨p1, p2, es, p3, p4, p5⟩ := p
    exact q _ H' p1 ⟨Dl, es, rfl, nD, nDp, p3, p4, p5, p2⟩
/-- .. whose tests draw -/
theorem rn_lcF {σ : L2.St} {H : Hp} {te : TE} {tt : TT} {j : Nat} {vs : List Nat} {n : Int} {ta : TA} {p : Addr} (v : Nat → D) (h : EvA τ K ta σ H [.int n]) (hn : n ≤ 1000000) (hw : ∀ x, wipe ((wipe σ vs).set j (some x)) vs = wipe σ vs) (hp : Cl K H p) (tb : Tabs τ H)
    (ht : ∀ (i : Nat) H1, G τ [p] H H1 → Cl K H1 p → (i : Int) < n → ∀ Q, (∀ b H2, G τ [p] H1 H2 → Cl K H2 p → Q b H2) → tt ((wipe σ vs).set j (some (.int (i : Int)))) H1 Q)
    (he : ∀ (i : Nat) H1, G τ [p] H H1 → (i : Int) < n → EvI τ K te ((wipe σ vs).set j (some (.int (i : Int)))) H1 (v i))
    (h0 : -(2 ^ 62) ≤ n := by omega) : Rn τ [p] (tLc (iRng1 ta) (gName j) tt te vs) σ H fun z H2 => ∃ q f, z = .ref q ∧ Nw H q ∧ q ≠ p ∧ Ls K H2 q (outs f v n.toNat) ∧ Cl K H2 p := fun Q q => h H (.refl tb) _ fun ws H1 g1 hws => by
  have e1 : ws = [.int n] := ima_ints (ns := [n]) hws
  have hp1 := hp.up0 g1
  refine ⟨n, e1, h0, by omega, fun Dl hD => ?_⟩
  have nD : Nw H Dl := (Nw.of hD).back0 g1
  have nDp : Dl ≠ p := (Nw.neCl (Nw.of hD) hp1).symm
  refine lc_range (lo := 0) (n := n.toNat) (fun i H' => G τ [p] H H' ∧ Cl K H' p ∧ ∃ f, Ls K H' Dl (outs f v i)) ?_ (fun i H' hi p => ?_) fun H' p => ?_
  · have gn : G τ [] H1 (upd H1 Dl (.lst [])) := .new g1.tabs hD
    exact ⟨g1.wide.trans gn.wide, hp1.up0 gn, fun _ => true, [], upd_same, .nil⟩
  · obtain ⟨p1, p2, f, p3⟩ := p
    rw [Int.zero_add]
    refine ⟨hw _, ?_⟩
    refine ht i H' p1 p2 (by omega) _ fun b H3 g3 h3 => ?_
    have same : ∀ (g : Nat → Bool), (∀ k, k < i → g k = f k) → outs g v i = outs f v i := fun g hg => by
      unfold outs
      rw [List.filter_congr fun k hk => hg k (List.mem_range.mp hk)]
    have p3' := p3.up g3 (by simpa using nDp)
    cases b with
    | true =>
      refine iteT ?_
      refine he i H3 (p1.trans g3) (by omega) H3 (.refl g3.tabs) _ fun z H4 g4 hz => ?_
      obtain ⟨ys, y1, y2⟩ := p3'.up0 g4
      have s1 := same (fun k => if k = i then true else f k) fun k hk => if_neg (by omega)
      refine ⟨ys, y1, ?_, ((p1.trans g3).trans g4.wide).put (.inr nD) y1, (h3.up0 g4).put nDp.symm y1, fun k => if k = i then true else f k, ys ++ [z], upd_same, ?_⟩
      · rw [y2.length]
        exact Nat.lt_of_le_of_lt (outs_len f v i) (Nat.lt_of_lt_of_le (show i < 1000001 by omega) (by decide))
      · rw [outs_yes (if_pos rfl), s1]
        exact (y2.append (.cons hz .nil)).putH y1
    | false =>
      refine iteF ?_
      have s1 := same (fun k => if k = i then false else f k) fun k hk => if_neg (by omega)
      refine ⟨p1.trans g3, h3, fun k => if k = i then false else f k, ?_⟩
      rw [outs_no (if_pos rfl), s1]
      exact p3'
  · obtain ⟨p1, p2, f, p3⟩ := p
    exact q _ H' p1 ⟨Dl, f, rfl, nD, nDp, p3, p2⟩
theorem s_forR {σ : L2.St} {H : Hp} {tu : TS} {Dn : Ends} {j : Nat} {n : Int} {ta : TA} (tb : Tabs τ H) (h : EvA τ K ta σ H [.int n]) (hn : n ≤ 1000000) (Pv : Nat → L2.St → Hp → Prop) (h0 : ∀ H1, G τ [] H H1 → Pv 0 σ H1)
    (hs : ∀ (i : Nat) σ' H', (i : Int) < n → Pv i σ' H' → tu { Dn with nx := Pv (i + 1), ct := Pv (i + 1), bk := Dn.nx } (σ'.set j (some (.int (i : Int)))) H') (hd : ∀ σ' H', Pv n.toNat σ' H' → Dn.nx σ' H') (hl : -(2 ^ 62) ≤ n := by omega) : tFor (iRng1 ta) (gName j) tu Dn σ H :=
  h H (.refl tb) _ fun ws H1 g1 hws => by
    have e1 : ws = [.int n] := ima_ints (ns := [n]) hws
    refine ⟨n, e1, hl, by omega, for_range (lo := 0) (n := n.toNat) Pv (h0 H1 g1) (fun i σ' H' hi p => ?_) hd⟩
    rw [Int.zero_add]
    exact hs i σ' H' (by omega) p
theorem s_forL {σ : L2.St} {H : Hp} {tu : TS} {Dn : Ends} {j : Nat} {tl : TE} {a : Addr} {ds : List D} (tb : Tabs τ H) (h : EvI τ K tl σ H (.ptr a)) (hx : Lr K H a ds) (Pv : Nat → L2.St → Hp → Prop) (h0 : ∀ H1, G τ [] H H1 → Pv 0 σ H1)
    (hl : ∀ i σ' H' , Pv i σ' H' → ∃ vs, SqL K H' a vs ∧ ImA K H' vs ds) (hs : ∀ (i : Nat) d v σ' H', ds[i]? = some d → Im K H' v d → Pv i σ' H' → tu { Dn with nx := Pv (i + 1), ct := Pv (i + 1), bk := Dn.nx } (σ'.set j (some v)) H') (hd : ∀ σ' H', Pv ds.length σ' H' → Dn.nx σ' H') : tFor (iList K tl) (gName j) tu Dn σ H :=
  h H (.refl tb) _ fun v H1 g1 hv => by
    obtain ⟨xs, h1, h2⟩ := hx.up g1
    refine ⟨a, im_ptr hv, ⟨xs, h1⟩, ?_⟩
    refine ⟨fun i m σ H => m = ds.length - i ∧ i ≤ ds.length ∧ Pv i σ H, ⟨ds.length, by simp, Nat.zero_le _, h0 H1 g1⟩, ?_⟩
    rintro i m σ' H' ⟨rfl, hi, p⟩
    obtain ⟨vs, q1, q2⟩ := hl i σ' H' p
    have hlen := q2.length
    by_cases hlt : i < ds.length
    · refine .inr ⟨⟨vs, vs[i], q1, by simp [hlen, hlt]⟩, Pv (i + 1), fun σ' H' p' => ⟨ds.length - (i + 1), by omega, rfl, hlt, p'⟩, fun x H2 y => ?_⟩
      obtain ⟨e, y⟩ := y
      subst e
      obtain ⟨d, d1, d2⟩ := q2.getV (y vs q1)
      exact hs i d x σ' _ d1 d2 p
    · have e : i = ds.length := by omega
      subst e
      exact .inl ⟨⟨vs, q1, by omega⟩, hd σ' H' p⟩
theorem r_call {σ : L2.St} {H : Hp} {sp : Sp} {tr : TA} {ds : List D} {Q : VK} (tb : Tabs τ H) (h : EvA τ K tr σ H ds) (q : ∀ vs H1, G τ [] H H1 → ImA K H1 vs ds → sp vs H1 Q L2.E0) : tCall sp [] L2.E0 tr σ H Q :=
  h H (.refl tb) _ fun vs H1 g hvs => by
    rw [List.append_nil]
    exact q vs H1 g hvs
/-! ### dealt -/
def spDealt (τ : TL) (K : PySem.W.Frag) : Sp := fun vs H Q _ => ∃ p t ds, vs = [.ref p, .ref t] ∧ Tabs τ H ∧ Cl K H p ∧ Ls K H t ds ∧ p ≠ t ∧ ds.length ≤ 1000 ∧ ∀ o es H2, G τ [p] H H2 → Nw H o → Ls K H2 o es → es.length = ds.length → (∀ x ∈ es, x ∈ ds) → Cl K H2 p → Q (.ref o) H2
theorem ok__law_dealt (T : Txt K mg) : FnOk P w K mg base L2.CX0 2 T._law_dealt.f T._law_dealt.fd ["_law_cells_here", "_law_things"] (spDealt τ K) := by
  have G__law_pick : FnOk P w K mg base L2.CX0 1 T._law_pick.f T._law_pick.fd _ _ := ok__law_pick (τ := τ) T
  refine T._law_dealt.F.ok sc__law_dealt (fun vs H Q E h => ?_) (fun cdv A outer s H vs Q E hr h => ?_)
  · obtain ⟨_, _, _, rfl, _⟩ := h
    rfl
  · obtain ⟨p, t, ds, rfl, tb, hc, ht, npt, hl, q⟩ := h
    refine ⟨_, (pss_cons (ps_set (i := 2) sc__law_dealt.nd rfl (by first | exact .inl rfl | exact .inr rfl) (pe_callTy (r := rLstQ K) call_list_of (by rfl) T.z_list (by decide +kernel) (pa_cons (pv 1) pa_nil)))
      (pss_cons (ps_set (i := 3) sc__law_dealt.nd rfl (by first | exact .inl rfl | exact .inr rfl) (pe_lst pa_nil))
      (pss_cons (ps_for PassesOwn.never rfl (pi_range1 (by rfl) T.z_range (pa_cons (pe_callB (r := rLenQ K) call_len_seq (by rfl) T.z_len (by decide +kernel) (pa_cons (pv 1) pa_nil)) pa_nil)) (pg_name (i := 4) sc__law_dealt.nd rfl (by first | exact .inl rfl | exact .inr rfl)) (pss_one (ps_expr (pe_bm PySem.F.plainAttrs_list PySem.F.slot_list_append PySem.F.type_list_append mt_append (pv 3) (pa_cons (pe_bm PySem.F.plainAttrs_list PySem.F.slot_list_pop PySem.F.type_list_pop mt_popAt (pv 2) (pa_cons (pc T._law_pick G__law_pick (hr.mono (by decide)) (by rfl) (pa_cons (pv 0) (pa_cons (pe_callB (r := rLenQ K) call_len_seq (by rfl) T.z_len (by decide +kernel) (pa_cons (pv 2) pa_nil)) pa_nil))) pa_nil)) pa_nil)))))
      (pss_one (ps_ret (pv 3)))))), ?_⟩
    refine s_asgN (K := K) tb (en_lstL (ei_var (i := 1) rfl (.ptr t)) ht.lr) fun r H1 g1 nr hr1 => ?_
    refine s_asgN (K := K) (ds := []) g1.tabs (en_lst ea_nil (by decide)) fun o H2 g2 no ho => ?_
    have g02 := g1.trans g2
    have hr2 := hr1.up0 g2
    have nro : r ≠ o := Nw.neLs no hr1
    have npr : p ≠ r := Nw.neCl nr hc
    have no0 : Nw H o := no.back0 g1
    have npo : p ≠ o := Nw.neCl no0 hc
    refine s_forR (K := K) (n := (ds.length : Int)) g2.tabs (ea_cons (ei_lenL (ei_var (i := 1) rfl (.ptr t)) (ht.up0 g02).lr) ea_nil) (by omega)
      (fun i σ H' => ∃ v4 rs es, σ = [some (.ref p), some (.ref t), some (.ref r), some (.ref o), v4] ∧ G τ [p, r, o] H H' ∧ Cl K H' p ∧ Ls K H' r rs ∧ Ls K H' o es ∧ rs.length + i = ds.length ∧ es.length = i ∧ (∀ x ∈ rs, x ∈ ds) ∧ ∀ x ∈ es, x ∈ ds) (fun H3 g3 => ?_) (fun i σ H3 hi hP => ?_) fun σ H3 hP => ?_
    · exact ⟨none, ds, [], rfl, (g02.trans g3).wide, (hc.up0 g02).up0 g3, hr2.up0 g3, ho.up0 g3, rfl, rfl, fun x hx => hx, fun x hx => by cases hx⟩
    · obtain ⟨v4, rs, es, rfl, g, c3, r3, o3, l1, l2, m1, m2⟩ := hP
      refine r_app (ms := [p, r]) (A := fun z H2 => ∃ (k : Nat) (d : D), rs[k]? = some d ∧ Im K H2 z d ∧ Ls K H2 r (rs.eraseIdx k) ∧ Cl K H2 p) g.tabs (ei_var (i := 3) rfl (.ptr o)) o3 (by simp [npo.symm, nro.symm]) (by omega) (fun H4 g4 Q2 q2 => ?_) fun z vs H4 g4 hz ho4 hvs => ?_
      · have r4 := r3.up0 g4
        refine r_popAt (ms := [p]) (A := fun z H2 => ∃ k : Int, z = .int k ∧ 0 ≤ k ∧ k < (rs.length : Int) ∧ Cl K H2 p) g4.tabs (ei_var (i := 2) rfl (.ptr r)) r4 (by simp [npr.symm]) (by omega)
          (fun H5 g5 => rn_pick g5.tabs (ea_cons (ei_var (i := 0) rfl (.ptr p)) (ea_cons (ei_lenL (ei_var (i := 2) rfl (.ptr r)) (r4.up0 g5).lr) ea_nil)) (by omega) ((c3.up0 g4).up0 g5))
          (fun z H5 hz => ?_) fun k d z vs H5 g5 hz h5 hvs hd hzd => ?_
        · obtain ⟨k, rfl, k0, k1, _⟩ := hz
          exact ⟨k.toNat, by rw [Int.toNat_of_nonneg k0], by omega⟩
        · obtain ⟨_, _, _, _, c5⟩ := hz
          exact q2 z _ ((g5.more (by simp)).put (.inl (by simp)) h5) ⟨k, d, hd, hzd.put h5, ⟨vs.eraseIdx k, upd_same, (hvs.erase k).putH h5⟩, c5.put npr h5⟩
      · obtain ⟨k, d, hd, hz, r4, c4⟩ := hz
        have hk := (List.getElem?_eq_some_iff.mp hd).1
        refine ⟨_, rs.eraseIdx k, es ++ [d], rfl, (g.trans (g4.more (by simp))).put (.inl (by simp)) ho4, c4.put npo ho4, lsPut r4 nro ho4, ⟨vs ++ [z], upd_same, (hvs.append (.cons hz .nil)).putH ho4⟩, ?_, ?_, fun x hx => m1 x (List.mem_of_mem_eraseIdx hx), fun x hx => ?_⟩
        · rw [List.length_eraseIdx, if_pos hk]
          omega
        · rw [List.length_append, List.length_singleton, l2]
        · rcases List.mem_append.mp hx with hx | hx
          · exact m2 x hx
          · rw [List.mem_singleton.mp hx]
            exact m1 d (List.mem_of_getElem? hd)
    · obtain ⟨v4, rs, es, rfl, g, c3, r3, o3, l1, l2, m1, m2⟩ := hP
      refine s_ret (K := K) g.tabs (ei_var (i := 3) rfl (.ptr o)) fun v H4 g4 hv => ?_
      rw [im_ptr hv]
      have gp : G τ [p] H H4 := by
        have z : G τ [r, o, p] H H4 := (g.more (by simp)).trans g4.wide
        exact (z.less nr).less no0
      exact q o es H4 gp no0 (o3.up0 g4) (by rw [l2]; omega) m2 (c3.up0 g4)
end
end K02
namespace K02
open PySem PySem.Spec PyProof.Rows L2 LamX NdefX Clo LRev U
section
variable {P : Program} {w : World} {K : PySem.W.Frag} {mg : Str → Option Value} {base : Heap} {τ : TL}
theorem ints_of {B : Int → Prop} : ∀ {es : List D}, (∀ x ∈ es, ∃ i, x = .int i ∧ B i) → ∃ ws : List Int, es = ws.map D.int ∧ ∀ i ∈ ws, B i
  | [], _ => ⟨[], rfl, fun i h => by cases h⟩
  | e :: es, h => by
    obtain ⟨i, rfl, hi⟩ := h e List.mem_cons_self
    obtain ⟨ws, rfl, hw⟩ := ints_of (es := es) fun x hx => h x (List.mem_cons_of_mem _ hx)
    exact ⟨i :: ws, rfl, fun k hk => by
      rcases List.mem_cons.mp hk with rfl | hk
      · exact hi
      · exact hw k hk⟩
theorem prs_of {B : Int × Int → Prop} : ∀ {es : List D}, (∀ x ∈ es, ∃ i, x = prD i ∧ B i) → ∃ ws : List (Int × Int), es = ws.map prD ∧ ∀ i ∈ ws, B i
  | [], _ => ⟨[], rfl, fun i h => by cases h⟩
  | e :: es, h => by
    obtain ⟨i, rfl, hi⟩ := h e List.mem_cons_self
    obtain ⟨ws, rfl, hw⟩ := prs_of (es := es) fun x hx => h x (List.mem_cons_of_mem _ hx)
    exact ⟨i :: ws, rfl, fun k hk => by
      rcases List.mem_cons.mp hk with rfl | hk
      · exact hi
      · exact hw k hk⟩
theorem imaIns {H : Hp} : ∀ {vs : List V} {ds : List D} {z : V} {d : D} (i : Nat), ImA K H vs ds → Im K H z d → ImA K H (vs.take i ++ [z] ++ vs.drop i) (ds.take i ++ [d] ++ ds.drop i) := fun i h hz => ((h.take i).append (.cons hz .nil)).append (h.drop i)
abbrev inI (n i : Int) : Prop := 0 ≤ i ∧ i < n
abbrev inR (n : Int) (l : Int × Int) : Prop := inI n l.1 ∧ inI n l.2
def spRing (τ : TL) (K : PySem.W.Frag) : Sp := fun vs H Q _ => ∃ (p : Addr) (n x : Int), vs = [.ref p, .int n, .int x] ∧ Tabs τ H ∧ Cl K H p ∧ 1 ≤ n ∧ n ≤ 10 ∧ 0 ≤ x ∧ x ≤ 30 ∧ ∀ (o : Addr) (ls : List (Int × Int)) (H2 : Hp), G τ [p] H H2 → Nw H o → Ls K H2 o (ls.map prD) → 1 ≤ ls.length → ls.length ≤ 40 → (∀ l ∈ ls, inR n l) → Cl K H2 p → Q (.ref o) H2
theorem ok__law_ring (T : Txt K mg) : FnOk P w K mg base L2.CX0 3 T._law_ring.f T._law_ring.fd ["_law_cells_here", "_law_size", "_law_extra"] (spRing τ K) := by
  have G__law_pick : FnOk P w K mg base L2.CX0 1 T._law_pick.f T._law_pick.fd _ _ := ok__law_pick (τ := τ) T
  have G__law_dealt : FnOk P w K mg base L2.CX0 2 T._law_dealt.f T._law_dealt.fd _ _ := ok__law_dealt (τ := τ) T
  refine T._law_ring.F.ok sc__law_ring (fun vs H Q E h => ?_) (fun cdv A outer s H vs Q E hr h => ?_)
  · obtain ⟨_, _, _, rfl, _⟩ := h
    rfl
  · obtain ⟨p, n, x, rfl, tb, hc, n0, n1, x0, x1, q⟩ := h
    refine ⟨_, (pss_cons (ps_set (i := 3) sc__law_ring.nd rfl (by first | exact .inl rfl | exact .inr rfl) (pe_lc (own := [("_law_k", 6)]) (g := (gName 6)) (tt := tYes) rfl sc__law_ring.nd (pi_range1 (by rfl) T.z_range (pa_cons (pv 2) pa_nil)) (blkOk_by (own := [("_law_k", 6)]) (N := ["_law_cells_here", "_law_size", "_law_extra", "_law_walk", "_law_w", "_law_leaves", "_law_k"]) (sc := defScope s__law_ring) (by decide +kernel)) (fun _ _ _ _ _ => (pg_name (i := 6) sc__law_ring.nd rfl (by first | exact .inl rfl | exact .inr rfl))) (fun _ _ _ _ _ => pts_nil) (fun _ _ _ _ _ => (pc T._law_pick G__law_pick (hr.mono (by decide)) (by rfl) (pa_cons (pv 0) (pa_cons (pv 1) pa_nil))))))
      (pss_cons (ps_for PassesOwn.never rfl (pi_range1 (by rfl) T.z_range (pa_cons (pv 1) pa_nil)) (pg_name (i := 4) sc__law_ring.nd rfl (by first | exact .inl rfl | exact .inr rfl)) (pss_one (ps_if (pt_cmpR (r := rIn K true) op_notIn_seq (pv 4) (pv 3) (by rfl)) (pss_one (ps_expr (pe_bm PySem.F.plainAttrs_list PySem.F.slot_list_insert PySem.F.type_list_insert mt_insert (pv 3) (pa_cons (pc T._law_pick G__law_pick (hr.mono (by decide)) (by rfl) (pa_cons (pv 0) (pa_cons (pe_op op_add (pe_callB (r := rLenQ K) call_len_seq (by rfl) T.z_len (by decide +kernel) (pa_cons (pv 3) pa_nil)) pe_int) pa_nil))) (pa_cons (pv 4) pa_nil))))) pss_nil)))
      (pss_cons (ps_setLc (i := 5) (own := [("_law_k", 6)]) (g := (gName 6)) (tt := tYes) rfl sc__law_ring.nd rfl rfl (sw_true rfl rfl rfl (by decide +kernel)) (pi_range1 (by rfl) T.z_range (pa_cons (pe_callB (r := rLenQ K) call_len_seq (by rfl) T.z_len (by decide +kernel) (pa_cons (pv 3) pa_nil)) pa_nil)) (blkOk_by (own := [("_law_k", 6)]) (N := ["_law_cells_here", "_law_size", "_law_extra", "_law_walk", "_law_w", "_law_leaves", "_law_k"]) (sc := defScope s__law_ring) (by decide +kernel)) (fun _ _ _ _ _ => (pg_name (i := 6) sc__law_ring.nd rfl (by first | exact .inl rfl | exact .inr rfl))) (fun _ _ _ _ _ => pts_nil) (fun _ _ _ _ _ => (pe_tup (pa_cons (pe_ix (r := rIx K) ix_seq (pv 3) (pv 6) (fun _ _ => rfl)) (pa_cons (pe_ix (r := rIx K) ix_seq (pv 3) (pe_op op_mod (pe_callTy call_int1 (by rfl) T.z_int (by decide +kernel) (pa_cons (pe_op op_add (pv 6) pe_int) pa_nil)) (pe_callB (r := rLenQ K) call_len_seq (by rfl) T.z_len (by decide +kernel) (pa_cons (pv 3) pa_nil))) (fun _ _ => rfl)) pa_nil)))))
      (pss_one (ps_ret (pc T._law_dealt G__law_dealt (hr.mono (by decide)) (by rfl) (pa_cons (pv 0) (pa_cons (pv 5) pa_nil)))))))), ?_⟩
    -- walk
    refine s_asg (rn_lcC (fun d => ∃ i, d = .int i ∧ inI n i) (ea_cons (ei_var (i := 2) rfl (.int x)) ea_nil) (by omega) (fun _ => rfl) hc tb fun i H1 g1 c1 hi => ?_) fun v H1 g1 hv => ?_
    · refine fun Q2 q2 => rn_pick g1.tabs (ea_cons (ei_var (i := 0) rfl (.ptr p)) (ea_cons (ei_var (i := 1) rfl (.int n)) ea_nil)) (by omega) c1 Q2 fun z H2 g2 hz => ?_
      obtain ⟨r, rfl, r0, r1, c2⟩ := hz
      exact q2 _ H2 g2 ⟨.int r, .int r, ⟨r, rfl, r0, r1⟩, c2⟩
    obtain ⟨m, es, rfl, nm, nmp, hm, hl, hb, c1⟩ := hv
    obtain ⟨ws, rfl, hbI⟩ := ints_of hb
    rw [List.length_map] at hl
    -- every word
    refine s_forR (K := K) (n := n) g1.tabs (ea_cons (ei_var (i := 1) rfl (.int n)) ea_nil) (by omega)
      (fun i σ H' => ∃ (v4 v5 v6 : Option V) (ws : List Int), σ = [some (.ref p), some (.int n), some (.int x), some (.ref m), v4, v5, v6] ∧ G τ [p, m] H H' ∧ Cl K H' p ∧ Ls K H' m (ws.map D.int) ∧ (∀ i ∈ ws, inI n i) ∧ ws.length ≤ x.toNat + i ∧ (1 ≤ i → 1 ≤ ws.length)) (fun H2 g2 => ?_) (fun i σ H2 hi hP => ?_) fun σ H2 hP => ?_
    · exact ⟨none, none, none, ws, rfl, (g1.trans g2.wide).more (by simp), c1.up0 g2, hm.up0 g2, hbI, by omega, fun h => by omega⟩
    · obtain ⟨v4, v5, v6, ws, rfl, g, c2, m2, hb, hl, _⟩ := hP
      refine s_if g.tabs (et_test (K := K) (ei_ninL (ei_var (i := 4) rfl (.int _)) (ei_var (i := 3) rfl (.ptr m)) m2.lr)) (fun e H3 g3 => ?_) fun e H3 g3 => ?_
      · have m3 := m2.up0 g3
        refine r_ins (ms := [p]) (A := fun z H2 => ∃ k : Int, z = .int k ∧ 0 ≤ k ∧ k < (ws.length : Int) + 1 ∧ Cl K H2 p) g3.tabs (ei_var (i := 3) rfl (.ptr m)) m3 (by simp [nmp]) (by rw [List.length_map]; omega)
          (fun H4 g4 => rn_pick g4.tabs (ea_cons (ei_var (i := 0) rfl (.ptr p)) (ea_cons (ei_is (ei_add (ei_lenL (ei_var (i := 3) rfl (.ptr m)) (m3.up0 g4).lr) ei_i) (by rw [List.length_map])) ea_nil)) (by omega) ((c2.up0 g3).up0 g4))
          (fun z H4 hz => ?_) (fun H4 g4 => ei_var (i := 4) rfl (.int _)) (fun z H4 H5 hz g5 => ?_) fun k z vs H4 g4 hz hm4 hvs hzd => ?_
        · obtain ⟨k, rfl, k0, k1, _⟩ := hz
          exact ⟨k.toNat, by rw [Int.toNat_of_nonneg k0], by omega⟩
        · obtain ⟨k, rfl, k0, k1, c4⟩ := hz
          exact ⟨k, rfl, k0, k1, c4.up0 g5⟩
        · obtain ⟨_, _, _, _, c4⟩ := hz
          refine ⟨_, v5, v6, ws.take k ++ [(i : Int)] ++ ws.drop k, rfl, ((g.trans g3.wide).trans (g4.more (by simp))).put (.inl (by simp)) hm4, c4.put nmp.symm hm4, ⟨_, upd_same, ?_⟩, fun j hj => ?_, ?_, fun _ => ?_⟩
          · have z1 := (imaIns k hvs hzd).putH (o := .lst (vs.take k ++ [z] ++ vs.drop k)) hm4
            rw [← List.map_take, ← List.map_drop] at z1
            rw [List.map_append, List.map_append]
            exact z1
          · rcases List.mem_append.mp hj with hj | hj
            · rcases List.mem_append.mp hj with hj | hj
              · exact hb j (List.mem_of_mem_take hj)
              · rw [List.mem_singleton.mp hj]
                exact ⟨by omega, hi⟩
            · exact hb j (List.mem_of_mem_drop hj)
          · rw [List.length_append, List.length_append, List.length_singleton, List.length_take, List.length_drop]
            omega
          · rw [List.length_append, List.length_append, List.length_singleton]
            omega
      · refine ⟨_, v5, v6, ws, rfl, g.trans g3.wide, c2.up0 g3, m2.up0 g3, hb, by omega, fun _ => ?_⟩
        have hmem : ((i : Int)) ∈ ws := by
          have e' : (!decide (((i : Nat) : Int) ∈ ws)) = false := e
          rw [Bool.not_eq_false', decide_eq_true_eq] at e'
          exact e'
        exact List.length_pos_of_mem hmem
    · obtain ⟨v4, v5, v6, ws, rfl, g, c2, m2, hb, hl, hl1⟩ := hP
      have hl1 := hl1 (by omega)
      have hat : ∀ k : Nat, k < ws.length → atI (ws.map D.int) ((k : Nat) : Int) = some (.int (ws.getD k 0)) := fun k hk => by
        refine at_nat rfl ?_
        rw [List.getElem?_map, getD_of (z := 0) hk]
        rfl
      have hwl : (ws.map D.int).length = ws.length := List.length_map ..
      -- leaves
      refine s_asgN (ds := ((List.range ws.length).map fun k => (ws.getD k 0, ws.getD ((k + 1) % ws.length) 0)).map prD) g.tabs (en_is (en_lcR (fun _ => true) (fun k => prD (ws.getD k 0, ws.getD ((k + 1) % ws.length) 0)) (ea_cons (ei_lenL (ei_var (i := 3) rfl (.ptr m)) m2.lr) ea_nil) (by rw [hwl]; omega) (fun _ => rfl)
        (fun k H3 g3 hk => et_yes) fun k H3 g3 hk _ => ?_) ?_) fun t H3 g3 nt ht => ?_
      · rw [hwl] at hk
        have m3 := m2.up0 g3
        refine ei_tup (ea_cons (ei_ixL (ei_var (i := 3) rfl (.ptr m)) m3.lr (ei_var (i := 6) rfl (.int _)) (hat k (by omega))) (ea_cons (ei_ixL (ei_var (i := 3) rfl (.ptr m)) m3.lr (ei_mod (ei_intI (ei_add (ei_var (i := 6) rfl (.int _)) ei_i)) (ei_lenL (ei_var (i := 3) rfl (.ptr m)) m3.lr) (by rw [hwl]; omega)) ?_) ea_nil)) (show 2 ≤ 100000 by decide)
        have e : (((k : Nat) : Int) + 1) % ((ws.map D.int).length : Int) = (((k + 1) % ws.length : Nat) : Int) := by rw [hwl]; norm_cast
        rw [e]
        exact hat _ (Nat.mod_lt _ (by omega))
      · rw [outs_all, hwl, Int.toNat_natCast, List.map_map]
        rfl
      · have npt : p ≠ t := Nw.neCl nt c2
        refine r_call (K := K) g3.tabs (ea_cons (ei_var (i := 0) rfl (.ptr p)) (ea_cons (ei_var (i := 5) rfl (.ptr t)) ea_nil)) fun vs H4 g4 hvs => ?_
        obtain ⟨a, b, rfl, h1, h2⟩ := ima2 hvs
        rw [im_ptr h1, im_ptr h2]
        refine ⟨p, t, _, rfl, g4.tabs, (c2.up0 g3).up0 g4, ht.up0 g4, npt, by rw [List.length_map, List.length_map, List.length_range]; omega, fun o es H5 g5 no ho hle hsub c5 => ?_⟩
        have gpm : G τ [p, m] H H4 := (g.trans g3.wide).trans g4.wide
        have g5' : G τ [m, p] H H5 := (gpm.more (by simp)).trans (g5.more (by simp))
        obtain ⟨ls, rfl, hb2⟩ := prs_of (B := inR n) (es := es) fun y hy => by
          obtain ⟨l, hl, rfl⟩ := List.mem_map.mp (hsub y hy)
          obtain ⟨k, hk, rfl⟩ := List.mem_map.mp hl
          have hk := List.mem_range.mp hk
          have hg : ∀ j, j < ws.length → inI n (ws.getD j 0) := fun j hj => hb _ (List.mem_of_getElem? (getD_of hj))
          exact ⟨_, rfl, hg k hk, hg _ (Nat.mod_lt _ (by omega))⟩
        rw [List.length_map, List.length_map, List.length_map, List.length_range] at hle
        refine q o ls H5 (g5'.less nm) (?_ : Nw H o) ho (by omega) (by omega) hb2 c5
        have n4 : Nw H4 o := no
        intro u hu
        by_cases hop : o ∈ [p, m]
        · exfalso
          rcases List.mem_cons.mp hop with e | hop
          · obtain ⟨cs, ws', z, _⟩ := (c2.up0 g3).up0 g4
            rw [e] at n4
            obtain ⟨ps, z'⟩ := n4 _ z
            cases z'
          · have e := List.mem_singleton.mp hop
            obtain ⟨ws', z, _⟩ := (m2.up0 g3).up0 g4
            rw [e] at n4
            obtain ⟨ps, z'⟩ := n4 _ z
            cases z'
        · exact n4.back gpm hop u hu
end
end K02
/-! Words joined by leaves, either way; ascending lists. -/
namespace Gr
abbrev Pr := Int × Int
/-- a leaf between the two, either way -/
def Adj (ls : List Pr) (a b : Int) : Prop := (a, b) ∈ ls ∨ (b, a) ∈ ls
inductive Conn (ls : List Pr) (w : Int) : Int → Prop
  | here : Conn ls w w
  | step {a b : Int} : Conn ls w a → Adj ls a b → Conn ls w b
theorem Adj.symm {ls : List Pr} {a b : Int} (h : Adj ls a b) : Adj ls b a := Or.symm h
theorem Conn.trans {ls : List Pr} {a b c : Int} (h : Conn ls a b) (k : Conn ls b c) : Conn ls a c := by
  induction k with
  | here => exact h
  | step _ e ih => exact .step ih e
theorem Conn.one {ls : List Pr} {a b : Int} (h : Adj ls a b) : Conn ls a b := .step .here h
theorem Conn.symm {ls : List Pr} {a b : Int} (h : Conn ls a b) : Conn ls b a := by
  induction h with
  | here => exact .here
  | step _ e ih => exact (Conn.one e.symm).trans ih
theorem Conn.mono {ls ms : List Pr} {a b : Int} (s : ∀ l ∈ ls, l ∈ ms) (h : Conn ls a b) : Conn ms a b := by
  induction h with
  | here => exact .here
  | step _ e ih => exact .step ih (e.elim (fun q => .inl (s _ q)) fun q => .inr (s _ q))
/-- what is closed under the leaves -/
theorem Conn.closed {ls : List Pr} {S : Int → Prop} (hc : ∀ l ∈ ls, S l.1 ↔ S l.2) {a b : Int} (ha : S a) (h : Conn ls a b) : S b := by
  induction h with
  | here => exact ha
  | step _ e ih =>
    rcases e with e | e
    · exact (hc _ e).mp ih
    · exact (hc _ e).mpr ih
theorem Conn.in {ls : List Pr} {n : Int} (hl : ∀ l ∈ ls, (0 ≤ l.1 ∧ l.1 < n) ∧ 0 ≤ l.2 ∧ l.2 < n) {a b : Int} (ha : 0 ≤ a ∧ a < n) (h : Conn ls a b) : 0 ≤ b ∧ b < n :=
  h.closed (S := fun v => 0 ≤ v ∧ v < n) (fun l hm => ⟨fun _ => (hl l hm).2, fun _ => (hl l hm).1⟩) ha
/-! ### ascending lists -/
abbrev Asc (l : List Int) : Prop := l.Pairwise (· < ·)
theorem asc_ext : ∀ {l m : List Int}, Asc l → Asc m → (∀ x, x ∈ l ↔ x ∈ m) → l = m
  | [], [], _, _, _ => rfl
  | [], b :: m, _, _, h => absurd ((h b).mpr List.mem_cons_self) (by simp)
  | a :: l, [], _, _, h => absurd ((h a).mp List.mem_cons_self) (by simp)
  | a :: l, b :: m, hl, hm, h => by
    have hl1 := List.pairwise_cons.mp hl
    have hm1 := List.pairwise_cons.mp hm
    have e : a = b := by
      rcases List.mem_cons.mp ((h a).mp List.mem_cons_self) with e | e
      · exact e
      · rcases List.mem_cons.mp ((h b).mpr List.mem_cons_self) with e2 | e2
        · exact e2.symm
        · have := hm1.1 a e
          have := hl1.1 b e2
          omega
    subst e
    rw [asc_ext hl1.2 hm1.2 fun x => ?_]
    constructor
    · intro hx
      rcases List.mem_cons.mp ((h x).mp (List.mem_cons_of_mem _ hx)) with e | e
      · have := hl1.1 x hx
        omega
      · exact e
    · intro hx
      rcases List.mem_cons.mp ((h x).mpr (List.mem_cons_of_mem _ hx)) with e | e
      · have := hm1.1 x hx
        omega
      · exact e
theorem asc_of {l : List Int} (h : l.Pairwise (· ≤ ·)) (nd : l.Nodup) : Asc l := by
  have := List.Pairwise.and h nd
  exact this.imp fun q => by omega
theorem Asc.nodup {l : List Int} (h : Asc l) : l.Nodup := h.imp fun q => by omega
theorem len_le : ∀ {S T : List Int}, S.Nodup → (∀ x ∈ S, x ∈ T) → S.length ≤ T.length
  | [], _, _, _ => Nat.zero_le _
  | a :: S, T, nd, h => by
    have nd1 := List.nodup_cons.mp nd
    have ha : a ∈ T := h a List.mem_cons_self
    have ih := len_le (S := S) (T := T.erase a) nd1.2 fun x hx => (List.mem_erase_of_ne (fun e => nd1.1 (by rw [← e]; exact hx))).mpr (h x (List.mem_cons_of_mem _ hx))
    rw [List.length_erase_of_mem ha] at ih
    have : 0 < T.length := List.length_pos_of_mem ha
    rw [List.length_cons]
    omega
/-- the words below n -/
def wordsI (n : Int) : List Int := (List.range n.toNat).map fun i => ((i : Nat) : Int)
theorem mem_words {n v : Int} : v ∈ wordsI n ↔ 0 ≤ v ∧ v < n := by
  unfold wordsI
  rw [List.mem_map]
  constructor
  · rintro ⟨i, hi, rfl⟩
    have := List.mem_range.mp hi
    omega
  · rintro ⟨h0, h1⟩
    exact ⟨v.toNat, List.mem_range.mpr (by omega), by omega⟩
theorem asc_words (n : Int) : Asc (wordsI n) := List.Pairwise.map _ (fun a b h => by omega) List.pairwise_lt_range
theorem len_words (n : Int) : (wordsI n).length = n.toNat := by
  unfold wordsI
  rw [List.length_map, List.length_range]
open Classical in
noncomputable def compL (n : Int) (ls : List Pr) (w : Int) : List Int := (wordsI n).filter fun v => decide (Conn ls w v)
theorem mem_comp {n w v : Int} {ls : List Pr} : v ∈ compL n ls w ↔ (0 ≤ v ∧ v < n) ∧ Conn ls w v := by
  unfold compL
  rw [List.mem_filter, mem_words]
  simp
theorem asc_comp (n w : Int) (ls : List Pr) : Asc (compL n ls w) := List.Pairwise.filter _ (asc_words n)
theorem len_comp (n w : Int) (ls : List Pr) : (compL n ls w).length ≤ n.toNat := by
  have h : (compL n ls w).length ≤ (wordsI n).length := List.length_filter_le _ _
  rwa [len_words] at h
theorem eq_comp {n w : Int} {ls : List Pr} {l : List Int} (h : Asc l) (hm : ∀ x, x ∈ l ↔ (0 ≤ x ∧ x < n) ∧ Conn ls w x) : l = compL n ls w := asc_ext h (asc_comp n w ls) fun x => by rw [hm, mem_comp]
theorem comp_congr {n w : Int} {ls ms : List Pr} (h : ∀ l, l ∈ ls ↔ l ∈ ms) : compL n ls w = compL n ms w := asc_ext (asc_comp ..) (asc_comp ..) fun x => by
  rw [mem_comp, mem_comp]
  exact ⟨fun q => ⟨q.1, q.2.mono fun l hl => (h l).mp hl⟩, fun q => ⟨q.1, q.2.mono fun l hl => (h l).mpr hl⟩⟩
/-- what is joined to a word -/
def nb (ls : List Pr) (k : Int) : List Int := ls.flatMap fun l => (if l.1 = k then [l.2] else []) ++ (if l.2 = k then [l.1] else [])
theorem mem_nb {ls : List Pr} {k v : Int} : v ∈ nb ls k ↔ Adj ls k v := by
  unfold nb Adj
  rw [List.mem_flatMap]
  constructor
  · rintro ⟨⟨a, b⟩, hl, hv⟩
    rcases List.mem_append.mp hv with hv | hv
    · by_cases e : a = k
      · rw [if_pos e] at hv
        rw [List.mem_singleton.mp hv, ← e]
        exact .inl hl
      · rw [if_neg e] at hv
        cases hv
    · by_cases e : b = k
      · rw [if_pos e] at hv
        rw [List.mem_singleton.mp hv, ← e]
        exact .inr hl
      · rw [if_neg e] at hv
        cases hv
  · rintro (h | h)
    · exact ⟨_, h, List.mem_append.mpr (.inl (by rw [if_pos rfl]; exact List.mem_singleton.mpr rfl))⟩
    · exact ⟨_, h, List.mem_append.mpr (.inr (by rw [if_pos rfl]; exact List.mem_singleton.mpr rfl))⟩
theorem nb_app (ls : List Pr) (l : Pr) (k : Int) : nb (ls ++ [l]) k = nb ls k ++ ((if l.1 = k then [l.2] else []) ++ (if l.2 = k then [l.1] else [])) := by
  unfold nb
  rw [List.flatMap_append]
  simp
theorem len_nb (ls : List Pr) (k : Int) : (nb ls k).length ≤ 2 * ls.length := by
  unfold nb
  induction ls with
  | nil => exact Nat.le_refl _
  | cons l r ih =>
    rw [List.flatMap_cons, List.length_append, List.length_append, List.length_cons]
    have h1 : (if l.1 = k then [l.2] else []).length ≤ 1 := by split <;> simp
    have h2 : (if l.2 = k then [l.1] else []).length ≤ 1 := by split <;> simp
    omega
end Gr
namespace K02
open PySem PySem.Spec PyProof.Rows L2 LamX NdefX Clo LRev U Gr
section
variable {P : Program} {w : World} {K : PySem.W.Frag} {mg : Str → Option Value} {base : Heap} {τ : TL}
/-! ### dicts -/
theorem tabs_putD {H : Hp} {p : Addr} {o : HO} {kvs : List (Key × V)} (t : Tabs τ H) (h : H p = some (.dK kvs)) : Tabs τ (upd H p o) := fun q hq => by
  obtain ⟨ps, e1, e2, e3⟩ := t q hq
  refine ⟨ps, ?_, e2, fun pos cv hc => ?_⟩
  · rw [upd_ne (ne_of e1 h (by intro z; cases z))]
    exact e1
  · obtain ⟨c, z1, z2⟩ := e3 pos cv hc
    refine ⟨c, z1, ?_⟩
    rw [upd_ne (ne_of z2 h (by intro z; unfold CodeO at z; cases z))]
    exact z2
theorem G.putD {ms : List Addr} {H H1 : Hp} {p : Addr} {kvs : List (Key × V)} {o : HO} (x : G τ ms H H1) (hp : p ∈ ms ∨ Nw H p) (h : H1 p = some (.dK kvs)) : G τ ms H (upd H1 p o) := by
  refine ⟨fun a u e n z => ?_, fun a u e z => ?_, tabs_putD x.tabs h⟩
  · have ne : a ≠ p := by
      rintro rfl
      rcases hp with hp | hp
      · exact n hp
      · obtain ⟨ps, q⟩ := hp _ e
        exact z ps q
    rw [upd_ne ne]
    exact x.keep a u e n z
  · rw [upd_ne (ne_of (x.fix a u e z) h (by intro q; subst q; cases z))]
    exact x.fix a u e z
theorem ima_putDK {H : Hp} {p : Addr} {kvs : List (Key × V)} {o : HO} {vs : List V} {ds : List D} (hp : H p = some (.dK kvs)) (h : ImA K H vs ds) : ImA K (upd H p o) vs ds := h.fix fun a ys q => by
  rcases q with (q | ⟨ob, q⟩) | q
  · exact .inl (.inl (by rw [upd_ne (ne_of q hp (by intro z; cases z))]; exact q))
  · exact .inl (.inr ⟨ob, by rw [upd_ne (ne_of q hp (by intro z; cases z))]; exact q⟩)
  · exact .inr q
theorem lsPutD {H : Hp} {p q : Addr} {kvs : List (Key × V)} {o : HO} {ds : List D} (h : Ls K H p ds) (hq : H q = some (.dK kvs)) : Ls K (upd H q o) p ds := by
  obtain ⟨vs, h1, h2⟩ := h
  exact ⟨vs, by rw [upd_ne (ne_of h1 hq (by intro z; cases z))]; exact h1, ima_putDK hq h2⟩
/-- a dict of lists: under k the list R k -/
def Bes (K : PySem.W.Frag) (H0 H : Hp) (d : Addr) (m : Nat) (R : Int → List Int) : Prop := ∃ (kvs : List (Key × V)) (A : Int → Option Addr), H d = some (.dK kvs) ∧ kvs.length ≤ m ∧ (∀ k, valV kvs (.inl k) = (A k).map V.ref) ∧ (∀ k k' a, A k = some a → A k' = some a → k = k') ∧
  (∀ k a, A k = some a → Ls K H a ((R k).map D.int) ∧ Nw H0 a) ∧ ∀ k, A k = none → R k = []
theorem Bes.up {H0 H H' : Hp} {d : Addr} {m : Nat} {R : Int → List Int} (g : G τ [] H H') (h : Bes K H0 H d m R) : Bes K H0 H' d m R := by
  obtain ⟨kvs, A, h1, h2, h3, h4, h5, h6⟩ := h
  exact ⟨kvs, A, g.keep d _ h1 (by simp) (fun _ z => by cases z), h2, h3, h4, fun k a e => ⟨(h5 k a e).1.up0 g, (h5 k a e).2⟩, h6⟩
theorem bes_add {σ : L2.St} {H0 H : Hp} {d : Addr} {m i0 i j : Nat} {R : Int → List Int} {k v : Int} {Dn : Ends} (g0 : G τ [] H0 H) (nd : Nw H0 d) (h : Bes K H0 H d m R) (h2 : σ[i0]? = some (some (.ref d))) (hk : σ[i]? = some (some (.int k))) (hv : σ[j]? = some (some (.int v))) (hm : m < 1000000) (hl : (R k).length < 1000000)
    (c : ∀ H', G τ [] H0 H' → Bes K H0 H' d (m + 1) (fun x => if x = k then R k ++ [v] else R x) → Dn.nx σ H') : tDrop (tBM K "list" rAppend (tDSetd (tVar i0) (tVar i) (tLst tNil)) (tCons (tVar j) tNil)) Dn σ H := by
  obtain ⟨kvs, A, h1, hlen, h3, h4, h5, h6⟩ := h
  refine ⟨.ref d, h2, d, rfl, .inl ⟨kvs, .inl h1⟩, .int k, hk, (Nat.zero_le _), fun q hq => ?_⟩
  have gn : G τ [] H (upd H q (.lst [])) := .new g0.tabs hq
  have g1 := g0.trans gn
  have nq : Nw H0 q := (Nw.of hq).back0 g0
  have qd : q ≠ d := fun z => by
    rw [z, h1] at hq
    cases hq
  have h1' : upd H q (.lst []) d = some (.dK kvs) := by
    rw [upd_ne qd.symm]
    exact h1
  refine ⟨kvs, .inl k, h1', rfl, Nat.lt_of_le_of_lt hlen (Nat.lt_of_lt_of_le hm (by decide)), fun u hu => ?_, fun hn => ?_⟩
  · -- the key is there
    rw [h3 k] at hu
    obtain ⟨a, ha, rfl⟩ := Option.map_eq_some_iff.mp hu
    obtain ⟨l5, n5⟩ := h5 k a ha
    obtain ⟨vs, e1, e2⟩ := l5.up0 gn
    refine ⟨.inl ⟨rfl, _, SqL.of e1⟩, .int v, hv, a, vs, .int v, rfl, rfl, e1, Nat.lt_of_lt_of_le (by rw [e2.length, List.length_map]; exact hl) (by decide), ?_⟩
    refine c _ (g1.put (.inr n5) e1) ⟨kvs, A, ?_, Nat.le_succ_of_le hlen, h3, h4, fun x b hb => ⟨?_, (h5 x b hb).2⟩, fun x hx => ?_⟩
    · rw [upd_ne (fun z => by rw [← z, h1'] at e1; cases e1)]
      exact h1'
    · dsimp only
      by_cases hx : x = k
      · subst hx
        rw [ha] at hb
        cases hb
        rw [if_pos rfl, List.map_append]
        exact ⟨_, upd_same, (e2.append (.cons (.int v) .nil)).putH e1⟩
      · rw [if_neg hx]
        exact lsPut ((h5 x b hb).1.up0 gn) (fun z => hx (h4 x k a (by rw [← z]; exact hb) ha)) e1
    · dsimp only
      by_cases hxk : x = k
      · rw [hxk, ha] at hx
        cases hx
      · rw [if_neg hxk]
        exact h6 x hx
  · -- the key is new
    rw [h3 k] at hn
    have hA : A k = none := Option.map_eq_none_iff.mp hn
    have g2 : G τ [] H0 (upd (upd H q (.lst [])) d (.dK (putK kvs (.inl k) (.ref q)))) := G.putD g1 (.inr nd) h1'
    have e1 : upd (upd H q (.lst [])) d (.dK (putK kvs (.inl k) (.ref q))) q = some (.lst []) := by
      rw [upd_ne qd]
      exact upd_same
    refine ⟨.inl ⟨rfl, _, SqL.of e1⟩, .int v, hv, q, [], .int v, rfl, rfl, e1, (by decide), ?_⟩
    refine c _ (g2.put (.inr nq) e1) ⟨putK kvs (.inl k) (.ref q), fun x => if x = k then some q else A x, ?_, ?_, fun x => ?_, fun x x' a hx hx' => ?_, fun x b hb => ?_, fun x hx => ?_⟩
    · rw [upd_ne qd.symm]
      exact upd_same
    · rw [putK_new _ (by rw [h3 k]; exact hn), List.length_append]
      exact Nat.succ_le_succ hlen
    · dsimp only
      rw [valV_put]
      by_cases hx : x = k
      · rw [hx, if_pos rfl, if_pos rfl]
        rfl
      · rw [if_neg (fun z => hx (Sum.inl.inj z)), if_neg hx]
        exact h3 x
    · have old : ∀ {y a}, A y = some a → a ≠ q := fun {y a} hy z => by
        obtain ⟨ws, z1, _⟩ := (h5 y a hy).1
        rw [z, hq] at z1
        cases z1
      dsimp only at hx hx'
      by_cases h : x = k
      · by_cases h' : x' = k
        · rw [h, h']
        · rw [if_pos h] at hx
          rw [if_neg h'] at hx'
          cases hx
          exact absurd rfl (old hx')
      · rw [if_neg h] at hx
        by_cases h' : x' = k
        · rw [if_pos h'] at hx'
          cases hx'
          exact absurd rfl (old hx)
        · rw [if_neg h'] at hx'
          exact h4 x x' a hx hx'
    · dsimp only at hb ⊢
      by_cases h : x = k
      · rw [if_pos h] at hb
        cases hb
        rw [if_pos h]
        refine ⟨?_, nq⟩
        rw [h6 k hA]
        exact ⟨_, upd_same, .cons (.int v) .nil⟩
      · rw [if_neg h] at hb
        rw [if_neg h]
        refine ⟨?_, (h5 x b hb).2⟩
        refine lsPut (lsPutD ((h5 x b hb).1.up0 gn) h1') (fun z => ?_) e1
        obtain ⟨ws, z1, _⟩ := (h5 x b hb).1
        rw [z, hq] at z1
        cases z1
    · dsimp only at hx ⊢
      by_cases h : x = k
      · rw [if_pos h] at hx
        cases hx
      · rw [if_neg h] at hx ⊢
        exact h6 x hx
/-! ### loops with another target -/
theorem s_forGL {σ : L2.St} {H : Hp} {tu : TS} {Dn : Ends} {tg : TG} {tl : TE} {ds : List D} (Z : Addr → Prop) (h : ∀ Q : VK, (∀ a H1, G τ [] H H1 → Ls K H1 a ds → Z a → Q (.ref a) H1) → tl σ H Q) (Pv : Addr → Nat → L2.St → Hp → Prop) (h0 : ∀ a H1, G τ [] H H1 → Ls K H1 a ds → Z a → Pv a 0 σ H1)
    (hl : ∀ a i σ' H' , Pv a i σ' H' → Lr K H' a ds) (hs : ∀ a (i : Nat) d v σ' H', ds[i]? = some d → Im K H' v d → Pv a i σ' H' → tg v σ' H' fun σ2 H2 => tu { Dn with nx := Pv a (i + 1), ct := Pv a (i + 1), bk := Dn.nx } σ2 H2) (hd : ∀ a σ' H', Pv a ds.length σ' H' → Dn.nx σ' H') : tFor (iList K tl) tg tu Dn σ H :=
  h _ fun a H1 g1 hL hZ => by
    obtain ⟨xs, h1, h2⟩ := hL.lr
    refine ⟨a, rfl, ⟨xs, h1⟩, ?_⟩
    refine ⟨fun i m σ H => m = ds.length - i ∧ i ≤ ds.length ∧ Pv a i σ H, ⟨ds.length, by simp, Nat.zero_le _, h0 a H1 g1 hL hZ⟩, ?_⟩
    rintro i m σ' H' ⟨rfl, hi, p⟩
    obtain ⟨vs, q1, q2⟩ := hl a i σ' H' p
    have hlen := q2.length
    by_cases hlt : i < ds.length
    · refine .inr ⟨⟨vs, vs[i], q1, by simp [hlen, hlt]⟩, Pv a (i + 1), fun σ' H' p' => ⟨ds.length - (i + 1), by omega, rfl, hlt, p'⟩, fun x H2 y => ?_⟩
      obtain ⟨e, y⟩ := y
      subst e
      obtain ⟨d, d1, d2⟩ := q2.getV (y vs q1)
      exact hs a i d x σ' _ d1 d2 p
    · have e : i = ds.length := by omega
      subst e
      exact .inl ⟨⟨vs, q1, by omega⟩, hd a σ' H' p⟩
theorem s_forGT {σ : L2.St} {H : Hp} {tu : TS} {Dn : Ends} {tg : TG} {tl : TE} {ds : List D} (Z : V → Prop) (h : ∀ Q : VK, (∀ v H1, G τ [] H H1 → Im K H1 v (.tup ds) → Z v → Q v H1) → tl σ H Q) (Pv : V → Nat → L2.St → Hp → Prop) (h0 : ∀ v H1, G τ [] H H1 → Im K H1 v (.tup ds) → Z v → Pv v 0 σ H1)
    (hl : ∀ v i σ' H' , Pv v i σ' H' → Im K H' v (.tup ds)) (hs : ∀ u (i : Nat) d v σ' H', ds[i]? = some d → Im K H' v d → Pv u i σ' H' → tg v σ' H' fun σ2 H2 => tu { Dn with nx := Pv u (i + 1), ct := Pv u (i + 1), bk := Dn.nx } σ2 H2) (hd : ∀ u σ' H', Pv u ds.length σ' H' → Dn.nx σ' H') : tFor (iTup K tl) tg tu Dn σ H :=
  h _ fun v H1 g1 hv hZ => by
    obtain ⟨a, xs, rfl, h1, h2⟩ := im_tup hv
    refine ⟨a, rfl, ⟨xs, h1⟩, ?_⟩
    refine ⟨fun i m σ H => m = ds.length - i ∧ i ≤ ds.length ∧ Pv (.ref a) i σ H, ⟨ds.length, by simp, Nat.zero_le _, h0 _ H1 g1 hv hZ⟩, ?_⟩
    rintro i m σ' H' ⟨rfl, hi, p⟩
    obtain ⟨a', vs, ea, q1, q2⟩ := im_tup (hl _ i σ' H' p)
    cases ea
    have hlen := q2.length
    by_cases hlt : i < ds.length
    · refine .inr ⟨⟨vs, vs[i], q1, by simp [hlen, hlt]⟩, Pv (.ref a) (i + 1), fun σ' H' p' => ⟨ds.length - (i + 1), by omega, rfl, hlt, p'⟩, fun x H2 y => ?_⟩
      obtain ⟨e, y⟩ := y
      subst e
      obtain ⟨d, d1, d2⟩ := q2.getV (y vs q1)
      exact hs _ i d x σ' _ d1 d2 p
    · have e : i = ds.length := by omega
      subst e
      exact .inl ⟨⟨vs, q1, by omega⟩, hd _ σ' H' p⟩
end
end K02
namespace K02
open PySem PySem.Spec PyProof.Rows L2 LamX NdefX Clo LRev U Gr
section
variable {P : Program} {w : World} {K : PySem.W.Frag} {mg : Str → Option Value} {base : Heap} {τ : TL}
/-! ### reached_from -/
def seenK (S : List Int) : List (Key × V) := S.map fun k => (.inl k, .bl true)
theorem valV_seen : ∀ (S : List Int) (k : Int), valV (seenK S) (.inl k) = if k ∈ S then some (.bl true) else none
  | [], k => rfl
  | a :: S, k => by
    have ih := valV_seen S k
    unfold valV seenK at ih ⊢
    rw [List.map_cons, List.find?_cons]
    by_cases h : a = k
    · subst h
      simp
    · rw [decide_eq_false (fun z => h (Sum.inl.inj z))]
      dsimp only
      rw [ih]
      by_cases hk : k ∈ S
      · rw [if_pos hk, if_pos (List.mem_cons_of_mem _ hk)]
      · rw [if_neg hk, if_neg fun z => (List.mem_cons.mp z).elim (fun q => h q.symm) hk]
theorem put_seen {S : List Int} {k : Int} (h : k ∉ S) : putK (seenK S) (.inl k) (.bl true) = seenK (S ++ [k]) := by
  rw [putK_new _ (by rw [valV_seen, if_neg h])]
  unfold seenK
  rw [List.map_append]
  rfl
theorem len_seen (S : List Int) : (seenK S).length = S.length := List.length_map ..
def spReach (τ : TL) (K : PySem.W.Frag) : Sp := fun vs H Q _ => ∃ (x : V) (w n : Int) (ls : List Pr), vs = [x, .int w] ∧ Tabs τ H ∧ inI n w ∧ n ≤ 60 ∧ ls.length ≤ 1000 ∧ (∀ l ∈ ls, inR n l) ∧ (Im K H x (.tup (ls.map prD)) ∨ ∃ a, x = .ref a ∧ Ls K H a (ls.map prD)) ∧
  ∀ v H2, G τ [] H H2 → Im K H2 v (.tup ((compL n ls w).map D.int)) → Q v H2
theorem nb_step (ls : List Pr) (l : Pr) : (fun x => if x = l.2 then (fun x => if x = l.1 then nb ls l.1 ++ [l.2] else nb ls x) l.2 ++ [l.1] else (fun x => if x = l.1 then nb ls l.1 ++ [l.2] else nb ls x) x) = nb (ls ++ [l]) := by
  funext x
  rw [nb_app]
  dsimp only
  by_cases h1 : x = l.1
  · by_cases h2 : x = l.2
    · rw [if_pos h2, if_pos (h2.symm.trans h1), if_pos h1.symm, if_pos h2.symm, ← h1]
      simp
    · rw [if_neg h2, if_pos h1, if_pos h1.symm, if_neg (fun z => h2 z.symm), ← h1]
      simp
  · by_cases h2 : x = l.2
    · rw [if_pos h2, if_neg (fun z => h1 (h2.trans z)), if_neg (fun z => h1 z.symm), if_pos h2.symm, ← h2]
      simp
    · rw [if_neg h2, if_neg h1, if_neg (fun z => h1 z.symm), if_neg (fun z => h2 z.symm)]
      simp
theorem unpack_pr {H : Hp} {v : V} {l : Pr} {σ : L2.St} {i j : Nat} {Q : L2.St → Hp → Prop} (h : Im K H v (prD l)) (q : Q ((σ.set i (some (.int l.1))).set j (some (.int l.2))) H) : gTup K 2 (gCons (gName i) (gCons (gName j) gNil)) v σ H Q := by
  obtain ⟨a, xs, rfl, h1, h2⟩ := im_tup h
  obtain ⟨x, y, rfl, h3, h4⟩ := ima2 h2
  rw [im_int h3, im_int h4] at h1
  exact ⟨a, _, rfl, h1, rfl, .int l.1, _, rfl, .int l.2, _, rfl, rfl, q⟩
theorem s_newD {σ : L2.St} {H : Hp} {i : Nat} {Dn : Ends} (c : ∀ p, H p = none → Dn.nx (σ.set i (some (.ref p))) (upd H p (.dK []))) : tAsg tDNewK (gName i) Dn σ H := fun p hp => c p hp
theorem s_newD1 {σ : L2.St} {H : Hp} {i j : Nat} {k : Int} {b : Bool} {Dn : Ends} (hj : σ[j]? = some (some (.int k))) (c : ∀ p, H p = none → Dn.nx (σ.set i (some (.ref p))) (upd (upd H p (.dK [])) p (.dK [(.inl k, .bl b)]))) : tAsg (tDisp [(tVar j, tC (.bl b))]) (gName i) Dn σ H := fun p hp => ⟨.int k, hj, upd_same, [(.inl k, .bl b)], rfl, (by decide : 1 ≤ 15), c p hp⟩
theorem seq_go {t u : TS} {Dn : Ends} {σ : L2.St} {H : Hp} (h : t { Dn with nx := u Dn } σ H) : tSeq t u Dn σ H := h
theorem take_next {ls : List Pr} {i : Nat} {l : Pr} (h : ls[i]? = some l) : ls.take (i + 1) = ls.take i ++ [l] := by
  rw [List.take_succ, h]
  rfl
/-- what is met, what waits, what is being looked at -/
structure Dfs (ls : List Pr) (w : Int) (S Wt : List Int) (opn : Int → Prop) : Prop where
  nd : S.Nodup
  start : w ∈ S
  conn : ∀ x ∈ S, Conn ls w x
  sub : ∀ x ∈ Wt, x ∈ S
  done : ∀ x ∈ S, x ∈ Wt ∨ opn x ∨ ∀ y, Adj ls x y → y ∈ S
theorem Dfs.add {ls : List Pr} {w x y : Int} {S Wt : List Int} (h : Dfs ls w S Wt (fun z => z = x)) (hx : x ∈ S) (ha : Adj ls x y) (hy : y ∉ S) : Dfs ls w (S ++ [y]) (Wt ++ [y]) (fun z => z = x) := by
  refine ⟨?_, List.mem_append_left _ h.start, fun z hz => ?_, fun z hz => ?_, fun z hz => ?_⟩
  · rw [List.nodup_append]
    exact ⟨h.nd, by simp, fun a ha' b hb e => hy (by rw [← List.mem_singleton.mp hb, ← e]; exact ha')⟩
  · rcases List.mem_append.mp hz with hz | hz
    · exact h.conn z hz
    · rw [List.mem_singleton.mp hz]
      exact .step (h.conn x hx) ha
  · rcases List.mem_append.mp hz with hz | hz
    · exact List.mem_append_left _ (h.sub z hz)
    · exact List.mem_append_right _ hz
  · rcases List.mem_append.mp hz with hz | hz
    · rcases h.done z hz with q | q | q
      · exact .inl (List.mem_append_left _ q)
      · exact .inr (.inl q)
      · exact .inr (.inr fun y hy => List.mem_append_left _ (q y hy))
    · exact .inl (List.mem_append_right _ hz)
theorem Dfs.len {ls : List Pr} {w n : Int} {S Wt : List Int} {opn : Int → Prop} (h : Dfs ls w S Wt opn) (hb : ∀ l ∈ ls, inR n l) (hw : inI n w) : S.length ≤ n.toNat := by
  have := len_le h.nd (T := wordsI n) fun x hx => mem_words.mpr ((h.conn x hx).in hb hw)
  rwa [len_words] at this
theorem Dfs.all {ls : List Pr} {w n : Int} {S : List Int} (h : Dfs ls w S [] (fun _ => False)) (hb : ∀ l ∈ ls, inR n l) (hw : inI n w) (v : Int) : v ∈ S ↔ inI n v ∧ Conn ls w v := by
  constructor
  · intro hv
    exact ⟨(h.conn v hv).in hb hw, h.conn v hv⟩
  · rintro ⟨hi, hc⟩
    clear hi
    induction hc with
    | here => exact h.start
    | step _ e ih =>
      rcases h.done _ ih with q | q | q
      · cases q
      · exact q.elim
      · exact q _ e
theorem perm_comp {ls : List Pr} {w n : Int} {S ys : List Int} (nd : S.Nodup) (hv : ∀ v, v ∈ S ↔ inI n v ∧ Conn ls w v) (hp : ys.Perm S) (hs : ys.Pairwise (· ≤ ·)) : ys = compL n ls w :=
  eq_comp (asc_of hs (hp.nodup_iff.mpr nd)) fun x => by
    rw [hp.mem_iff]
    exact hv x
theorem ok_reached_from (T : Txt K mg) : FnOk P w K mg base L2.CX0 1 T.reached_from.f T.reached_from.fd ["pairs", "word"] (spReach τ K) := by
  refine T.reached_from.F.ok sc_reached_from (fun vs H Q E h => ?_) (fun cdv A outer s H vs Q E hr h => ?_)
  · obtain ⟨_, _, _, _, rfl, _⟩ := h
    rfl
  · obtain ⟨x, w, n, ls, rfl, tb, hw, n60, l1, hb, hx, q⟩ := h
    have bes0 : ∀ {d}, H d = none → Bes K H (upd H d (.dK [])) d (2 * 0) (nb (ls.take 0)) := fun {d} hd => ⟨[], fun _ => none, upd_same, Nat.zero_le _, fun _ => rfl, (fun _ _ _ z => by cases z), (fun _ _ z => by cases z), fun _ _ => rfl⟩
    obtain hx | ⟨a, ex, hx⟩ := hx
    refine ⟨_, (pss_cons (ps_set (i := 2) sc_reached_from.nd rfl (by first | exact .inl rfl | exact .inr rfl) pe_dnewK)
      (pss_cons (ps_for PassesOwn.never rfl (pi_tup (pv 0)) (pg_tup rfl (pgs_cons (pg_name (i := 5) sc_reached_from.nd rfl (by first | exact .inl rfl | exact .inr rfl)) (pgs_cons (pg_name (i := 6) sc_reached_from.nd rfl (by first | exact .inl rfl | exact .inr rfl)) pgs_nil))) (pss_cons (ps_expr (pe_bm PySem.F.plainAttrs_list PySem.F.slot_list_append PySem.F.type_list_append mt_append (pe_dsetd (pv 2) (pv 5) (pe_lst pa_nil) ⟨rfl, rfl, rfl, rfl⟩) (pa_cons (pv 6) pa_nil)))
      (pss_one (ps_expr (pe_bm PySem.F.plainAttrs_list PySem.F.slot_list_append PySem.F.type_list_append mt_append (pe_dsetd (pv 2) (pv 6) (pe_lst pa_nil) ⟨rfl, rfl, rfl, rfl⟩) (pa_cons (pv 5) pa_nil))))))
      (pss_cons (ps_set (i := 3) sc_reached_from.nd rfl (by first | exact .inl rfl | exact .inr rfl) (pe_disp (pps_cons (pv 1) pe_bl pps_nil) rfl rfl (by simp) (by decide)))
      (pss_cons (ps_set (i := 4) sc_reached_from.nd rfl (by first | exact .inl rfl | exact .inr rfl) (pe_lst (pa_cons (pv 1) pa_nil)))
      (pss_cons (ps_while PassesOwn.never (pt_truth (pv 4) (by intro _; rfl)) (pss_cons (ps_set (i := 7) sc_reached_from.nd rfl (by first | exact .inl rfl | exact .inr rfl) (pe_bm0 PySem.F.plainAttrs_list PySem.F.slot_list_pop PySem.F.type_list_pop mt_pop (pv 4)))
      (pss_one (ps_for PassesOwn.never rfl (pi_list (pe_dget2 (hu_of hr) (pv 2) (pv 7) (pe_lst pa_nil) ⟨rfl, rfl, rfl, rfl⟩)) (pg_name (i := 8) sc_reached_from.nd rfl (by first | exact .inl rfl | exact .inr rfl)) (pss_one (ps_if (pt_cmp (pc_dnotin (hu_of hr) (pv 8) (pv 3))) (pss_cons (ps_asg pe_bl (pg_sub (pv 3) (pv 8) (set_dict (hu_of hr))))
      (pss_one (ps_expr (pe_bm PySem.F.plainAttrs_list PySem.F.slot_list_append PySem.F.type_list_append mt_append (pv 4) (pa_cons (pv 8) pa_nil))))) pss_nil))))))
      (pss_one (ps_ret (pe_callTy (r := rTupQ K) call_tuple_of (by rfl) T.z_tuple (by decide +kernel) (pa_cons (pe_callB (call_sortedDI rfl) (by rfl) T.z_sorted (by decide +kernel) (pa_cons (pv 3) pa_nil)) pa_nil))))))))), ?_⟩
    refine s_newD fun d hd => ?_
    have nd : Nw H d := .of hd
    have g1 : G τ [] H (upd H d (.dK [])) := .new tb hd
    dsimp only
    refine s_forGT (τ := τ) (K := K) (ds := ls.map prD) (fun u => u = x) (fun Q q => ?_) (fun u i σ H' => ∃ v5 v6, σ = [some x, some (.int w), some (.ref d), none, none, v5, v6, none, none] ∧ G τ [] H H' ∧ Bes K H H' d (2 * i) (nb (ls.take i)) ∧ u = x)
      (fun u H1 g hu hZ => ?_) (fun u i σ H' hP => ?_) (fun u i dd v σ H' hdd hv hP => ?_) ?_
    · exact ⟨x, rfl, q x _ (.refl g1.tabs) (hx.up g1) rfl⟩
    · exact ⟨none, none, rfl, g1.trans g, (bes0 hd).up g, hZ⟩
    · obtain ⟨_, _, _, g, _, rfl⟩ := hP
      exact hx.up g
    · obtain ⟨v5, v6, rfl, g, hB, hu⟩ := hP
      rw [List.getElem?_map] at hdd
      obtain ⟨l, hl, rfl⟩ := Option.map_eq_some_iff.mp hdd
      have hi := (List.getElem?_eq_some_iff.mp hl).1
      have hn := len_nb (ls.take i)
      have ht : (ls.take i).length ≤ i := by rw [List.length_take]; omega
      refine unpack_pr (K := K) hv ?_
      refine bes_add (i0 := 2) (i := 5) (j := 6) g nd hB rfl rfl rfl (by omega) (Nat.lt_of_le_of_lt (hn _) (by omega)) fun H3 g3 hB3 => ?_
      refine bes_add (i0 := 2) (i := 6) (j := 5) g3 nd hB3 rfl rfl rfl (by omega) ?_ fun H4 g4 hB4 => ?_
      · split
        · rw [List.length_append, List.length_singleton]
          have := hn l.1
          omega
        · have := hn l.2
          omega
      · refine ⟨_, _, rfl, g4, ?_, hu⟩
        rw [take_next hl, ← nb_step]
        exact hB4
    rotate_left
    refine ⟨_, (pss_cons (ps_set (i := 2) sc_reached_from.nd rfl (by first | exact .inl rfl | exact .inr rfl) pe_dnewK)
      (pss_cons (ps_for PassesOwn.never rfl (pi_list (pv 0)) (pg_tup rfl (pgs_cons (pg_name (i := 5) sc_reached_from.nd rfl (by first | exact .inl rfl | exact .inr rfl)) (pgs_cons (pg_name (i := 6) sc_reached_from.nd rfl (by first | exact .inl rfl | exact .inr rfl)) pgs_nil))) (pss_cons (ps_expr (pe_bm PySem.F.plainAttrs_list PySem.F.slot_list_append PySem.F.type_list_append mt_append (pe_dsetd (pv 2) (pv 5) (pe_lst pa_nil) ⟨rfl, rfl, rfl, rfl⟩) (pa_cons (pv 6) pa_nil)))
      (pss_one (ps_expr (pe_bm PySem.F.plainAttrs_list PySem.F.slot_list_append PySem.F.type_list_append mt_append (pe_dsetd (pv 2) (pv 6) (pe_lst pa_nil) ⟨rfl, rfl, rfl, rfl⟩) (pa_cons (pv 5) pa_nil))))))
      (pss_cons (ps_set (i := 3) sc_reached_from.nd rfl (by first | exact .inl rfl | exact .inr rfl) (pe_disp (pps_cons (pv 1) pe_bl pps_nil) rfl rfl (by simp) (by decide)))
      (pss_cons (ps_set (i := 4) sc_reached_from.nd rfl (by first | exact .inl rfl | exact .inr rfl) (pe_lst (pa_cons (pv 1) pa_nil)))
      (pss_cons (ps_while PassesOwn.never (pt_truth (pv 4) (by intro _; rfl)) (pss_cons (ps_set (i := 7) sc_reached_from.nd rfl (by first | exact .inl rfl | exact .inr rfl) (pe_bm0 PySem.F.plainAttrs_list PySem.F.slot_list_pop PySem.F.type_list_pop mt_pop (pv 4)))
      (pss_one (ps_for PassesOwn.never rfl (pi_list (pe_dget2 (hu_of hr) (pv 2) (pv 7) (pe_lst pa_nil) ⟨rfl, rfl, rfl, rfl⟩)) (pg_name (i := 8) sc_reached_from.nd rfl (by first | exact .inl rfl | exact .inr rfl)) (pss_one (ps_if (pt_cmp (pc_dnotin (hu_of hr) (pv 8) (pv 3))) (pss_cons (ps_asg pe_bl (pg_sub (pv 3) (pv 8) (set_dict (hu_of hr))))
      (pss_one (ps_expr (pe_bm PySem.F.plainAttrs_list PySem.F.slot_list_append PySem.F.type_list_append mt_append (pv 4) (pa_cons (pv 8) pa_nil))))) pss_nil))))))
      (pss_one (ps_ret (pe_callTy (r := rTupQ K) call_tuple_of (by rfl) T.z_tuple (by decide +kernel) (pa_cons (pe_callB (call_sortedDI rfl) (by rfl) T.z_sorted (by decide +kernel) (pa_cons (pv 3) pa_nil)) pa_nil))))))))), ?_⟩
    refine s_newD fun d hd => ?_
    have nd : Nw H d := .of hd
    have g1 : G τ [] H (upd H d (.dK [])) := .new tb hd
    dsimp only
    refine s_forGL (τ := τ) (K := K) (ds := ls.map prD) (fun u => u = a) (fun Q q => ?_) (fun u i σ H' => ∃ v5 v6, σ = [some x, some (.int w), some (.ref d), none, none, v5, v6, none, none] ∧ G τ [] H H' ∧ Bes K H H' d (2 * i) (nb (ls.take i)) ∧ u = a)
      (fun u H1 g hu hZ => ?_) (fun u i σ H' hP => ?_) (fun u i dd v σ H' hdd hv hP => ?_) ?_
    · refine ⟨x, rfl, ?_⟩
      rw [ex]
      exact q a _ (.refl g1.tabs) (hx.up0 g1) rfl
    · exact ⟨none, none, rfl, g1.trans g, (bes0 hd).up g, hZ⟩
    · obtain ⟨_, _, _, g, _, rfl⟩ := hP
      exact (hx.up0 g).lr
    · obtain ⟨v5, v6, rfl, g, hB, hu⟩ := hP
      rw [List.getElem?_map] at hdd
      obtain ⟨l, hl, rfl⟩ := Option.map_eq_some_iff.mp hdd
      have hi := (List.getElem?_eq_some_iff.mp hl).1
      have hn := len_nb (ls.take i)
      have ht : (ls.take i).length ≤ i := by rw [List.length_take]; omega
      refine unpack_pr (K := K) hv ?_
      refine bes_add (i0 := 2) (i := 5) (j := 6) g nd hB rfl rfl rfl (by omega) (Nat.lt_of_le_of_lt (hn _) (by omega)) fun H3 g3 hB3 => ?_
      refine bes_add (i0 := 2) (i := 6) (j := 5) g3 nd hB3 rfl rfl rfl (by omega) ?_ fun H4 g4 hB4 => ?_
      · split
        · rw [List.length_append, List.length_singleton]
          have := hn l.1
          omega
        · have := hn l.2
          omega
      · refine ⟨_, _, rfl, g4, ?_, hu⟩
        rw [take_next hl, ← nb_step]
        exact hB4
    all_goals (
      intro u σ H2 hP
      obtain ⟨v5, v6, rfl, g2, hB, _⟩ := hP
      rw [List.length_map, List.take_length] at hB
      obtain ⟨kvs, A, b1, b2, b3, b4, b5, b6⟩ := hB
      -- seen
      refine s_newD1 rfl fun e he => ?_
      have ge : G τ [] H2 (upd H2 e (.dK [])) := .new g2.tabs he
      have ge2 : G τ [] H2 (upd (upd H2 e (.dK [])) e (.dK (seenK [w]))) := G.putD ge (.inr (.of he)) upd_same
      have he3 : upd (upd H2 e (.dK [])) e (.dK (seenK [w])) e = some (.dK (seenK [w])) := upd_same
      generalize hH3 : upd (upd H2 e (.dK [])) e (.dK (seenK [w])) = H3 at ge2 he3
      have eH3 : upd (upd H2 e (.dK [])) e (.dK [(.inl w, .bl true)]) = H3 := hH3
      rw [eH3]
      refine s_asgN (K := K) (ds := [D.int w]) ge2.tabs (en_lst (ea_cons (ei_var (i := 1) rfl (.int w)) ea_nil) (show 1 ≤ 100000 by decide)) fun f H4 g4 nf hf => ?_
      have dK3 : ∀ {a kv}, H2 a = some (.dK kv) → a ≠ e := fun {a kv} h z => by rw [z, he] at h; cases h
      have nwd : ∀ {a kv}, H3 a = some (.dK kv) → a ≠ f := fun {a kv} h z => by
        rw [z] at h
        obtain ⟨ps, q⟩ := nf _ h
        cases q
      have hd3 : H3 d = some (.dK kvs) := ge2.keep d _ b1 (by simp) fun _ z => by cases z
      have he4 : H4 e = some (.dK (seenK [w])) := g4.keep e _ he3 (by simp) fun _ z => by cases z
      have hd4 : H4 d = some (.dK kvs) := g4.keep d _ hd3 (by simp) fun _ z => by cases z
      have nde := dK3 b1
      have ndf := nwd hd3
      have nef := nwd he3
      have adj : ∀ k, (∃ a, valV kvs (.inl k) = some (.ref a) ∧ Ls K H4 a ((nb ls k).map D.int) ∧ a ≠ e ∧ a ≠ f) ∨ (valV kvs (.inl k) = none ∧ nb ls k = []) := fun k => by
        cases hA : A k with
        | none => exact .inr ⟨by rw [b3, hA]; rfl, b6 k hA⟩
        | some a =>
          have l2 := (b5 k a hA).1
          have l3 := l2.up0 ge2
          refine .inl ⟨a, by rw [b3, hA]; rfl, l3.up0 g4, fun z => ?_, Nw.neLs nf l3⟩
          obtain ⟨vs, z1, _⟩ := l2
          rw [z, he] at z1
          cases z1
      have Ne : Nw H e := (Nw.of he).back0 g2
      have Nf : Nw H f := nf.back0 (g2.trans ge2)
      have g04 : G τ [] H H4 := (g2.trans ge2).trans g4
      dsimp only
      refine ⟨fun m σ H' => ∃ (v5 v6 v7 v8 : Option V) (S Wt : List Int), σ = [some x, some (.int w), some (.ref d), some (.ref e), some (.ref f), v5, v6, v7, v8] ∧ G τ [e, f] H4 H' ∧ H' e = some (.dK (seenK S)) ∧ Ls K H' f (Wt.map D.int) ∧ Dfs ls w S Wt (fun _ => False) ∧ Wt.length ≤ S.length ∧ m = 2 * (n.toNat - S.length) + Wt.length, ⟨_, _, _, _, _, [w], [w], rfl, .refl g4.tabs, he4, hf, ⟨by simp, by simp, fun z hz => by rw [List.mem_singleton.mp hz]; exact .here, fun z hz => hz, fun z hz => .inl hz⟩, Nat.le_refl _, rfl⟩, fun m σ H5 hW => ?_⟩
      obtain ⟨v5, v6, v7, v8, S, Wt, rfl, g5, e5, f5, hS, hWS, rfl⟩ := hW
      have lS := hS.len hb hw
      obtain ⟨us, f5a, f5b⟩ := f5
      have eus := ima_ints f5b
      subst eus
      refine ⟨.ref f, rfl, !(Wt.map V.int).isEmpty, .inl ⟨_, SqL.of f5a, rfl⟩, ?_⟩
      have hd5 : H5 d = some (.dK kvs) := g5.keep d _ hd4 (by simp [nde, ndf]) fun _ z => by cases z
      rcases List.eq_nil_or_concat Wt with rfl | ⟨Wt', y, rfl⟩
      · -- nothing waits
        refine iteF ?_
        dsimp only
        refine ⟨.ref e, rfl, e, seenK S, S, rfl, .inl e5, by unfold seenK; rw [List.map_map]; rfl, by omega, fun ys p hp hs hn => ?_⟩
        have ey := perm_comp hS.nd (hS.all hb hw) hp hs
        subst ey
        refine ⟨p, _, rfl, .inl ⟨SqL.of upd_same, fun l hl => ?_⟩⟩
        have g5' : G τ [] H H5 := G.less (G.less (g04.wide.trans g5) Ne) Nf
        have gp : G τ [] H5 (upd H5 p (.lst ((compL n ls w).map V.int))) := .new g5.tabs hn
        have gl : G τ [] (upd H5 p (.lst ((compL n ls w).map V.int))) (upd (upd H5 p (.lst ((compL n ls w).map V.int))) l (.tup ((compL n ls w).map V.int))) := .new gp.tabs hl
        exact q _ _ ((g5'.trans gp).trans gl) (.tup (SqT.of upd_same) (ints_ima _))
      · -- the next one
        rw [List.concat_eq_append] at f5a f5b hS hWS ⊢
        rw [show (!(List.map V.int (Wt' ++ [y])).isEmpty) = true by rw [List.map_append]; cases Wt'.map V.int <;> rfl]
        refine iteT ?_
        have yS : y ∈ S := hS.sub y (by simp)
        rw [List.length_append, List.length_singleton]
        refine ⟨fun σ H' => ∃ (v5 v6 v7 v8 : Option V) (S' Wt : List Int), σ = [some x, some (.int w), some (.ref d), some (.ref e), some (.ref f), v5, v6, v7, v8] ∧ G τ [e, f] H4 H' ∧ H' e = some (.dK (seenK S')) ∧ Ls K H' f (Wt.map D.int) ∧ Dfs ls w S' Wt (fun _ => False) ∧ Wt.length ≤ S'.length ∧ 2 * (n.toNat - S'.length) + Wt.length < 2 * (n.toNat - S.length) + (Wt'.length + 1), fun σ' H' hN => ?_, ?_⟩
        · obtain ⟨v5, v6, v7, v8, S', Wt, e1, e2, e3, e4, e5, e6, e7⟩ := hN
          exact ⟨_, e7, v5, v6, v7, v8, S', Wt, e1, e2, e3, e4, e5, e6, rfl⟩
        rw [List.length_append, List.length_singleton] at hWS
        refine s_asg (rn_pop (K := K) (d := .int y) (ds := Wt'.map D.int) g5.tabs (ei_var (i := 4) rfl (.ptr f)) ⟨_, f5a, by have z := f5b; rw [List.map_append (f := D.int)] at z; exact z⟩) fun v H6 g6 hv => ?_
        obtain ⟨hv, f6⟩ := hv
        rw [im_int hv]
        have g46 : G τ [e, f] H4 H6 := g5.trans (g6.more (by simp))
        have e6 : H6 e = some (.dK (seenK S)) := g6.keep e _ e5 (by simp [nef]) fun _ z => by cases z
        have hd6 : H6 d = some (.dK kvs) := g6.keep d _ hd5 (by simp [ndf]) fun _ z => by cases z
        dsimp only
        refine s_forGL (τ := τ) (K := K) (ds := (nb ls y).map D.int) (fun a => a ≠ e ∧ a ≠ f) (fun Q q => ?_) (fun a j σ H' => ∃ (v8 : Option V) (S' Wt : List Int), σ = [some x, some (.int w), some (.ref d), some (.ref e), some (.ref f), v5, v6, some (.int y), v8] ∧ G τ [e, f] H4 H' ∧ H' e = some (.dK (seenK S')) ∧ Ls K H' f (Wt.map D.int) ∧ Dfs ls w S' Wt (fun z => z = y) ∧ Wt.length ≤ S'.length ∧ 2 * (n.toNat - S'.length) + Wt.length < 2 * (n.toNat - S.length) + (Wt'.length + 1) ∧ (∀ z ∈ (nb ls y).take j, z ∈ S') ∧ y ∈ S' ∧ Ls K H' a ((nb ls y).map D.int) ∧ a ≠ e ∧ a ≠ f) (fun a H7 g7 hL hZ => ?_) (fun a j σ H7 hP => ?_) (fun a j dd u σ H7 hdd hu hP => ?_) fun a σ H7 hP => ?_
        · -- what is beside
          refine ⟨.ref d, rfl, d, rfl, .inl ⟨kvs, .inl hd6⟩, .int y, rfl, Nat.zero_le _, fun z hz => ?_⟩
          have gz : G τ [] H6 (upd H6 z (.lst [])) := .new g6.tabs hz
          have hdz : upd H6 z (.lst []) d = some (.dK kvs) := gz.keep d _ hd6 (by simp) fun _ z => by cases z
          refine ⟨valV kvs (.inl y), DGet.k (k := .inl y) hdz, ?_⟩
          rcases adj y with ⟨a, h1, h2, h3, h4⟩ | ⟨h1, h2⟩
          · rw [h1]
            exact q a _ gz ((h2.up g46 (by simp [h3, h4])).up0 gz) ⟨h3, h4⟩
          · rw [h1]
            refine q z _ gz ?_ ⟨(fun zz => by rw [zz, e6] at hz; cases hz), fun zz => ?_⟩
            · rw [h2]
              exact ⟨_, upd_same, .nil⟩
            · obtain ⟨ws, w1, _⟩ := f6
              rw [zz, w1] at hz
              cases hz
        · refine ⟨_, S, Wt', rfl, g46.trans g7.wide, g7.keep e _ e6 (by simp) (fun _ z => by cases z), f6.up0 g7, ⟨hS.nd, hS.start, hS.conn, fun z hz => hS.sub z (by simp [hz]), fun z hz => ?_⟩, by omega, by omega, (fun z hz => by simp at hz), yS, hL, hZ⟩
          rcases hS.done z hz with q | q | q
          · rcases List.mem_append.mp q with q | q
            · exact .inl q
            · exact .inr (.inl (List.mem_singleton.mp q))
          · exact q.elim
          · exact .inr (.inr q)
        · obtain ⟨_, _, _, _, _, _, _, _, _, _, _, _, h, _⟩ := hP
          exact h.lr
        · obtain ⟨v8, S', Wt, rfl, g7, e7, f7, hS', hWS', hm, hT, yS', hL, hae, haf⟩ := hP
          rw [List.getElem?_map] at hdd
          obtain ⟨t, ht, rfl⟩ := Option.map_eq_some_iff.mp hdd
          rw [im_int hu]
          have hadj : Adj ls y t := mem_nb.mp (List.mem_of_getElem? ht)
          have hTn : ∀ S'' : List Int, (∀ z ∈ S', z ∈ S'') → t ∈ S'' → ∀ z ∈ (nb ls y).take (j + 1), z ∈ S'' := fun S'' h1 h2 z hz => by
            rw [List.take_succ, ht] at hz
            rcases List.mem_append.mp hz with hz | hz
            · exact h1 z (hT z hz)
            · rw [show z = t by simpa using hz]
              exact h2
          have lS' := hS'.len hb hw
          refine ⟨.int t, rfl, .ref e, rfl, e, valV (seenK S') (.inl t), rfl, DGet.k (k := .inl t) e7, _, rfl, ?_⟩
          rw [valV_seen]
          by_cases hts : t ∈ S'
          · rw [if_pos hts]
            refine iteF ?_
            exact ⟨_, S', Wt, rfl, g7, e7, f7, hS', hWS', hm, hTn S' (fun _ h => h) hts, yS', hL, hae, haf⟩
          · rw [if_neg hts]
            refine iteT ?_
            have hS'' := hS'.add yS' hadj hts
            have lS'' := hS''.len hb hw
            rw [List.length_append, List.length_singleton] at lS''
            refine ⟨.ref e, rfl, .int t, rfl, e, _, rfl, DPut.k (k := .inl t) e7 (Nat.lt_of_le_of_lt (by rw [len_seen]; exact lS') (Nat.lt_of_lt_of_le (show n.toNat < 61 by omega) (by decide))), ?_⟩
            rw [show ((Sum.inl t : Key)) = .inl t from rfl, put_seen hts]
            have g8 : G τ [e, f] H4 (upd H7 e (.dK (seenK (S' ++ [t])))) := G.putD g7 (.inl (by simp)) e7
            dsimp only
            refine s_app (K := K) g8.tabs (ei_var (i := 4) rfl (.ptr f)) (ei_var (i := 8) rfl (.int t)) (lsPutD f7 e7) (by rw [List.length_map]; omega) fun H9 g9 h9 => ?_
            refine ⟨_, S' ++ [t], Wt ++ [t], rfl, g8.trans (g9.more (by simp)), g9.keep e _ upd_same (by simp [nef]) (fun _ z => by cases z), by rw [List.map_append]; exact h9, hS'', by rw [List.length_append, List.length_append]; simp; omega, by rw [List.length_append, List.length_append, List.length_singleton]; (try rw [List.length_singleton]); omega, hTn _ (fun _ h => List.mem_append_left _ h) (by simp), List.mem_append_left _ yS', (lsPutD hL e7).up g9 (by simp [haf]), hae, haf⟩
        · obtain ⟨v8, S', Wt, rfl, g7, e7, f7, hS', hWS', hm, hT, yS', hL, hae, haf⟩ := hP
          rw [List.length_map, List.take_length] at hT
          refine ⟨_, _, _, _, S', Wt, rfl, g7, e7, f7, ⟨hS'.nd, hS'.start, hS'.conn, hS'.sub, fun z hz => ?_⟩, hWS', hm⟩
          rcases hS'.done z hz with q | q | q
          · exact .inl q
          · refine .inr (.inr fun t ht => hT t (mem_nb.mpr ?_))
            rw [← q]
            exact ht
          · exact .inr (.inr q)
      )
end
end K02
namespace K02
open PySem PySem.Spec PyProof.Rows L2 LamX NdefX Clo LRev U Gr
section
variable {P : Program} {w : World} {K : PySem.W.Frag} {mg : Str → Option Value} {base : Heap} {τ : TL}
/-! ### rows of ints compared -/
theorem lay_ints : ∀ ns : List Int, PyData.canLayAll0 (ns.map PyData.int) = true
  | [] => by simp [PyData.canLayAll0]
  | n :: ns => by simp [PyData.canLayAll0, PyData.canLay0, lay_ints ns]
theorem depth_ints : ∀ ns : List Int, PyData.depthAll (ns.map PyData.int) = 0
  | [] => by simp [PyData.depthAll]
  | n :: ns => by simp [PyData.depthAll, PyData.depth, depth_ints ns]
theorem eqv_ints : ∀ as bs : List Int, PyData.eqvAll (as.map PyData.int) (bs.map PyData.int) = decide (as = bs)
  | [], [] => by simp [PyData.eqvAll]
  | [], b :: bs => by simp [PyData.eqvAll]
  | a :: as, [] => by simp [PyData.eqvAll]
  | a :: as, b :: bs => by
    rw [List.map_cons, List.map_cons]
    simp only [PyData.eqvAll, PyData.eqv]
    rw [eqv_ints as bs]
    by_cases h : a = b <;> by_cases h2 : as = bs <;> simp [h, h2]
theorem shaped_tup (ns : List Int) : SeqAt.shaped (.tuple (ns.map PyData.int)) = true := by
  unfold SeqAt.shaped
  rw [show (PyData.tuple (ns.map PyData.int)).canLay0 = true by simp [PyData.canLay0, lay_ints], show (PyData.tuple (ns.map PyData.int)).depth = 1 by simp [PyData.depth, depth_ints]]
  rfl
theorem shaped_lst (ns : List Int) : SeqAt.shaped (.list (ns.map PyData.int)) = true := by
  unfold SeqAt.shaped
  rw [show (PyData.list (ns.map PyData.int)).canLay0 = true by simp [PyData.canLay0, lay_ints], show (PyData.list (ns.map PyData.int)).depth = 1 by simp [PyData.depth, depth_ints]]
  rfl
theorem dp_ints {H : Hp} : ∀ ns : List Int, DpAll K H (ns.map V.int) (ns.map PyData.int)
  | [] => .nil
  | n :: ns => .cons (.int n) (dp_ints ns)
theorem ei_eqT {σ : L2.St} {H : Hp} {ta tb : TE} {as bs : List Int} (ha : EvI τ K ta σ H (.tup (as.map D.int))) (hb : EvI τ K tb σ H (.tup (bs.map D.int))) : EvI τ K (tOp (rEqD K) ta tb) σ H (.bl (decide (as = bs))) :=
  ei_op ha hb fun H1 g1 v w hv hw Q q => by
    have dp : ∀ {v : V} {as : List Int}, Im K H1 v (.tup (as.map D.int)) → Dp K H1 v (.tuple (as.map PyData.int)) := fun {v as} h => by
      obtain ⟨p, xs, rfl, h1, h2⟩ := im_tup h
      rw [ima_ints h2] at h1
      exact .tup h1 (dp_ints as)
    refine ⟨_, _, dp hv, dp hw, shaped_tup as, shaped_tup bs, ?_⟩
    rw [show PyData.eqv (.tuple (as.map PyData.int)) (.tuple (bs.map PyData.int)) = decide (as = bs) by simp [PyData.eqv, eqv_ints]]
    exact q _ H1 (.refl g1.tabs) (.bl _)
/-! ### hangs_together, pieces_of -/
theorem ei_reach {σ : L2.St} {H : Hp} {tr : TA} {w n : Int} {ls : List Pr} (h : EvA τ K tr σ H [.tup (ls.map prD), .int w]) (hw : inI n w) (n60 : n ≤ 60) (l1 : ls.length ≤ 1000) (hb : ∀ l ∈ ls, inR n l) : EvI τ K (tCall (spReach τ K) [] L2.E0 tr) σ H (.tup ((compL n ls w).map D.int)) := fun H1 g Q q =>
  h H1 g _ fun vs H2 g2 hvs => by
    obtain ⟨x, y, rfl, hx, hy⟩ := ima2 hvs
    rw [im_int hy]
    exact ⟨x, w, n, ls, rfl, g2.tabs, hw, n60, l1, hb, .inl hx, fun v H3 g3 hv => q v H3 (g2.trans g3) hv⟩
theorem ei_reachL {σ : L2.St} {H : Hp} {tr : TA} {w n : Int} {ls : List Pr} {a : Addr} (h : EvA τ K tr σ H [.ptr a, .int w]) (ha : Ls K H a (ls.map prD)) (hw : inI n w) (n60 : n ≤ 60) (l1 : ls.length ≤ 1000) (hb : ∀ l ∈ ls, inR n l) : EvI τ K (tCall (spReach τ K) [] L2.E0 tr) σ H (.tup ((compL n ls w).map D.int)) := fun H1 g Q q =>
  h H1 g _ fun vs H2 g2 hvs => by
    obtain ⟨x, y, rfl, hx, hy⟩ := ima2 hvs
    rw [im_int hy, im_ptr hx]
    exact ⟨_, w, n, ls, rfl, g2.tabs, hw, n60, l1, hb, .inr ⟨a, rfl, (ha.up0 g).up0 g2⟩, fun v H3 g3 hv => q v H3 (g2.trans g3) hv⟩
theorem range_get {α β : Type} (l : List α) (z : α) (g : α → β) : (List.range l.length).map (fun k => g (l.getD k z)) = l.map g := by
  refine List.ext_getElem? fun i => ?_
  rw [List.getElem?_map, List.getElem?_map]
  by_cases h : i < l.length
  · rw [List.getElem?_range h, getD_of (z := z) h]
    rfl
  · rw [List.getElem?_eq_none (by rw [List.length_range]; omega), List.getElem?_eq_none (by omega)]
    rfl
/-- the leaves with p -/
def inn (p : Pr → Bool) (ls : List Pr) : List Pr := (idx p ls).map fun i => ls.getD i.toNat (0, 0)
theorem mem_idx {p : Pr → Bool} {ls : List Pr} {i : Int} : i ∈ idx p ls ↔ ∃ k : Nat, i = k ∧ k < ls.length ∧ p (ls.getD k (0, 0)) = true := by
  unfold idx
  rw [List.mem_map]
  constructor
  · rintro ⟨k, hk, rfl⟩
    have h := List.mem_filter.mp hk
    exact ⟨k, rfl, List.mem_range.mp h.1, h.2⟩
  · rintro ⟨k, rfl, h1, h2⟩
    exact ⟨k, List.mem_filter.mpr ⟨List.mem_range.mpr h1, h2⟩, rfl⟩
theorem mem_inn {p : Pr → Bool} {ls : List Pr} {l : Pr} : l ∈ inn p ls ↔ l ∈ ls ∧ p l = true := by
  unfold inn
  rw [List.mem_map]
  constructor
  · rintro ⟨i, hi, rfl⟩
    obtain ⟨k, rfl, h1, h2⟩ := mem_idx.mp hi
    rw [Int.toNat_natCast]
    exact ⟨List.mem_of_getElem? (getD_of h1), h2⟩
  · rintro ⟨hl, hp⟩
    obtain ⟨k, hk⟩ := List.mem_iff_getElem?.mp hl
    have h1 := (List.getElem?_eq_some_iff.mp hk).1
    have e : ls.getD k (0, 0) = l := by
      have := getD_of (z := ((0, 0) : Pr)) h1
      rw [hk] at this
      exact (Option.some.inj this).symm
    exact ⟨k, mem_idx.mpr ⟨k, rfl, h1, by rw [e]; exact hp⟩, by rw [Int.toNat_natCast]; exact e⟩
theorem len_idx (p : Pr → Bool) (ls : List Pr) : (idx p ls).length ≤ ls.length := by
  unfold idx
  rw [List.length_map]
  have h := List.length_filter_le (fun k => p (ls.getD k (0, 0))) (List.range ls.length)
  rwa [List.length_range] at h
theorem len_inn (p : Pr → Bool) (ls : List Pr) : (inn p ls).length ≤ ls.length := by
  unfold inn
  rw [List.length_map]
  exact len_idx p ls
/-- the leaves with both ends in it -/
noncomputable def hangs (n : Int) (ls : List Pr) (lot : List Int) : Bool := !decide (lot = []) && decide (compL n (inn (pCross lot true true) ls) (lot.getD 0 0) = lot)
def FHangs (ds : List D) (r : D) : Prop := ∃ n ls lot, ds = [hD n ls, .tup (lot.map D.int)] ∧ lotOk n lot = true ∧ lot.length ≤ 1000000 ∧ ls.length ≤ 1000 ∧ n ≤ 60 ∧ (∀ l ∈ ls, inR n l) ∧ r = .bl (hangs n ls lot)
theorem lot_in {n : Int} {lot : List Int} (h : lotOk n lot = true) {x : Int} (hx : x ∈ lot) : inI n x := by
  unfold lotOk at h
  rw [Bool.and_eq_true, List.all_eq_true] at h
  have := h.1 x hx
  rw [Bool.and_eq_true] at this
  exact ⟨of_decide_eq_true this.1, of_decide_eq_true this.2⟩
theorem ok_hangs_together (T : Txt K mg) {c Pt : Addr} (L : Lm T base τ c Pt) : FnOk P w K mg base L2.CX0 11 T.hangs_together.f T.hangs_together.fd ["heap", "lot"] (spF τ K FHangs) := by
  have G_is_lot : FnOk P w K mg base L2.CX0 8 T.is_lot.f T.is_lot.fd _ _ := ok_is_lot T L
  have G_need : FnOk P w K mg base L2.CX0 1 T.need.f T.need.fd _ _ := ok_need (τ := τ) T
  have G_within : FnOk P w K mg base L2.CX0 10 T.within.f T.within.fd _ _ := ok_within T L
  have G_reached_from : FnOk P w K mg base L2.CX0 1 T.reached_from.f T.reached_from.fd _ _ := ok_reached_from (τ := τ) T
  refine T.hangs_together.F.ok sc_hangs_together (fun vs H Q E h => ?_) (fun cdv A outer s H vs Q E hr h => ?_)
  · obtain ⟨ds, r, h1, _, ⟨_, _, _, rfl, _⟩, _⟩ := h
    exact h1.length
  · obtain ⟨ds, r, hv, tb, ⟨n, ls, lot, rfl, hw, hz, hl, n60, hb, rfl⟩, q⟩ := h
    obtain ⟨y, x, rfl, h0, h1⟩ := ima2 hv
    refine ⟨_, (pss_cons (ps_expr (pc T.need G_need (hr.mono (by decide)) (by rfl) (pa_cons (pc T.is_lot G_is_lot (hr.mono (by decide)) (by rfl) (pa_cons (pv 0) (pa_cons (pv 1) pa_nil))) (pa_cons pe_str pa_nil))))
      (pss_cons (ps_if (pt_cmpR (r := rEqD K) (op_eqD hr.units) (pv 1) (pe_tup pa_nil) (nomark _)) (pss_one (ps_ret pe_bl)) pss_nil)
      (pss_cons (ps_setLc (i := 2) (own := [("at", 3)]) (g := (gName 3)) (tt := tYes) rfl sc_hangs_together.nd rfl rfl (sw_true rfl rfl rfl (by decide +kernel)) (pi_tup (pc T.within G_within (hr.mono (by decide)) (by rfl) (pa_cons (pv 0) (pa_cons (pv 1) pa_nil)))) (blkOk_by (own := [("at", 3)]) (N := ["heap", "lot", "inside", "at"]) (sc := defScope s_hangs_together) (by decide +kernel)) (fun _ _ _ _ _ => (pg_name (i := 3) sc_hangs_together.nd rfl (by first | exact .inl rfl | exact .inr rfl))) (fun _ _ _ _ _ => pts_nil) (fun _ _ _ _ _ => (pe_ix (r := rIx K) ix_seq (pe_ix (r := rIx K) ix_seq (pv 0) pe_int (fun _ _ => rfl)) (pv 3) (fun _ _ => rfl))))
      (pss_one (ps_ret (pe_cmpR (r := rEqD K) (op_eqD hr.units) (pc T.reached_from G_reached_from (hr.mono (by decide)) (by rfl) (pa_cons (pv 2) (pa_cons (pe_ix (r := rIx K) ix_seq (pv 1) pe_int (fun _ _ => rfl)) pa_nil))) (pv 1) (nomark _))))))), ?_⟩
    refine s_drop (K := K) tb (ei_call (ea_cons (ei_is (ei_call (ea_cons (ei_var rfl h0) (ea_cons (ei_var rfl h1) ea_nil)) ⟨n, ls, _, rfl, hz, rfl⟩) (by rw [hw])) (ea_cons ei_s ea_nil)) ⟨_, rfl, rfl⟩) fun H1 g1 => ?_
    refine s_if g1.tabs (et_test (K := K) (ei_eqT (bs := []) (ei_var (i := 1) rfl (h1.up g1)) (ei_tup ea_nil (by decide)))) (fun e H2 g2 => ?_) fun e H2 g2 => ?_
    · have e' : lot = [] := of_decide_eq_true e
      refine s_ret (K := K) g2.tabs (d := .bl false) ei_b fun v H3 g3 hv2 => q v H3 ((g1.trans g2).trans g3) ?_
      subst e'
      exact hv2
    · have e' : lot ≠ [] := of_decide_eq_false e
      have h12 := g1.trans g2
      have hll : (ls.map prD).length = ls.length := List.length_map ..
      refine s_asgN (K := K) (ds := (inn (pCross lot true true) ls).map prD) g2.tabs (en_is (en_lcT (fun _ => true) (fun k => prD (ls.getD ((idx (pCross lot true true) ls).getD k 0).toNat (0, 0))) (ei_call (ea_cons (ei_var (i := 0) rfl (h0.up h12)) (ea_cons (ei_var (i := 1) rfl (h1.up h12)) ea_nil)) ⟨n, ls, lot, rfl, hw, hz, by omega, rfl⟩) (by rw [List.length_map]; have := len_idx (pCross lot true true) ls; omega) (fun _ => rfl)
        (fun _ _ _ _ _ _ _ => et_yes) fun k d z H3 g3 hd hm _ => ?_) ?_) fun a H3 g3 na ha => ?_
      · rw [List.getElem?_map] at hd
        obtain ⟨i, hi, rfl⟩ := Option.map_eq_some_iff.mp hd
        rw [im_int hm]
        obtain ⟨j, rfl, hj, _⟩ := mem_idx.mp (List.mem_of_getElem? hi)
        have hk := (List.getElem?_eq_some_iff.mp hi).1
        have ej : (idx (pCross lot true true) ls).getD k 0 = (j : Int) := by
          have := getD_of (z := (0 : Int)) hk
          rw [hi] at this
          exact (Option.some.inj this).symm
        rw [ej, Int.toNat_natCast]
        exact ei_ixT (ei_ixT (ei_var (i := 0) rfl ((h0.up h12).up g3)) ei_i rfl) (ei_var (i := 3) rfl (.int _)) (at_leaf hj)
      · rw [outs_all, List.length_map, range_get (idx (pCross lot true true) ls) 0 fun i => prD (ls.getD i.toNat (0, 0))]
        unfold inn
        rw [List.map_map]
        rfl
      · have h13 := h12.trans g3
        have l0 : 0 < lot.length := List.length_pos_iff.mpr e'
        have hm : lot.getD 0 0 ∈ lot := List.mem_of_getElem? (getD_of l0)
        refine s_ret (K := K) g3.tabs (ei_is (ei_eqT (ei_reachL (n := n) (ea_cons (ei_var (i := 2) rfl (.ptr a)) (ea_cons (ei_ixT (ei_var (i := 1) rfl (h1.up h13)) ei_i (at_nat (j := 0) rfl (by rw [List.getElem?_map, getD_of (z := (0 : Int)) l0]; rfl))) ea_nil)) ha (lot_in hw hm) n60 (Nat.le_trans (len_inn _ _) hl) fun l hl => hb l (mem_inn.mp hl).1) (ei_var (i := 1) rfl (h1.up h13))) ?_) fun v H4 g4 hv => q v H4 (h13.trans g4) hv
        unfold hangs
        rw [decide_eq_false e']
        rfl
noncomputable def pieces (n : Int) (ls : List Pr) : List (List Int) := ((List.range n.toNat).filter fun i => decide ((compL n ls ((i : Nat) : Int)).getD 0 0 = ((i : Nat) : Int))).map fun i => compL n ls ((i : Nat) : Int)
def tsD (xs : List (List Int)) : List D := xs.map fun l => .tup (l.map D.int)
def FPieces (ds : List D) (r : D) : Prop := ∃ n ls, ds = [hD n ls] ∧ 0 ≤ n ∧ n ≤ 60 ∧ ls.length ≤ 1000 ∧ (∀ l ∈ ls, inR n l) ∧ r = .tup (tsD (pieces n ls))
theorem comp_pos {n w : Int} {ls : List Pr} (hw : inI n w) : 0 < (compL n ls w).length := List.length_pos_of_mem (mem_comp.mpr ⟨hw, .here⟩)
theorem ok_pieces_of (T : Txt K mg) : FnOk P w K mg base L2.CX0 2 T.pieces_of.f T.pieces_of.fd ["heap"] (spF τ K FPieces) := by
  have G_reached_from : FnOk P w K mg base L2.CX0 1 T.reached_from.f T.reached_from.fd _ _ := ok_reached_from (τ := τ) T
  refine T.pieces_of.F.ok sc_pieces_of (fun vs H Q E h => ?_) (fun cdv A outer s H vs Q E hr h => ?_)
  · obtain ⟨ds, r, h1, _, ⟨_, _, rfl, _⟩, _⟩ := h
    exact h1.length
  · obtain ⟨ds, r, hv, tb, ⟨n, ls, rfl, n0, n60, hl, hb, rfl⟩, q⟩ := h
    obtain ⟨y, rfl, h0⟩ := ima1 hv
    refine ⟨_, (pss_cons (ps_set (i := 1) sc_pieces_of.nd rfl (by first | exact .inl rfl | exact .inr rfl) (pe_lc (own := [("word", 2)]) (g := (gName 2)) (tt := tYes) rfl sc_pieces_of.nd (pi_range1 (by rfl) T.z_range (pa_cons (pe_ix (r := rIx K) ix_seq (pv 0) pe_int (fun _ _ => rfl)) pa_nil)) (blkOk_by (own := [("word", 2)]) (N := ["heap", "reached", "word"]) (sc := defScope s_pieces_of) (by decide +kernel)) (fun _ _ _ _ _ => (pg_name (i := 2) sc_pieces_of.nd rfl (by first | exact .inl rfl | exact .inr rfl))) (fun _ _ _ _ _ => pts_nil) (fun _ _ _ _ _ => (pc T.reached_from G_reached_from (hr.mono (by decide)) (by rfl) (pa_cons (pe_ix (r := rIx K) ix_seq (pv 0) pe_int (fun _ _ => rfl)) (pa_cons (pv 2) pa_nil))))))
      (pss_one (ps_ret (pe_callTy (r := rTupQ K) call_tuple_of (by rfl) T.z_tuple (by decide +kernel) (pa_cons (pe_lc (own := [("word", 2)]) (g := (gName 2)) (tt := _) rfl sc_pieces_of.nd (pi_range1 (by rfl) T.z_range (pa_cons (pe_ix (r := rIx K) ix_seq (pv 0) pe_int (fun _ _ => rfl)) pa_nil)) (blkOk_by (own := [("word", 2)]) (N := ["heap", "reached", "word"]) (sc := defScope s_pieces_of) (by decide +kernel)) (fun _ _ _ _ _ => (pg_name (i := 2) sc_pieces_of.nd rfl (by first | exact .inl rfl | exact .inr rfl))) (fun _ _ _ _ _ => pts_one (pt_cmpR op_eq (pe_ix (r := rIx K) ix_seq (pe_ix (r := rIx K) ix_seq (pv 1) (pv 2) (fun _ _ => rfl)) pe_int (fun _ _ => rfl)) (pv 2) (nomark _))) (fun _ _ _ _ _ => (pe_ix (r := rIx K) ix_seq (pv 1) (pv 2) (fun _ _ => rfl)))) pa_nil))))), ?_⟩
    refine s_asgN (K := K) (ds := (List.range n.toNat).map fun i => .tup ((compL n ls ((i : Nat) : Int)).map D.int)) tb (en_is (en_lcR (fun _ => true) (fun i => .tup ((compL n ls ((i : Nat) : Int)).map D.int)) (ea_cons (ei_ixT (ei_var (i := 0) rfl h0) ei_i rfl) ea_nil) (by omega) (fun _ => rfl)
      (fun i H3 g3 hi => et_yes) fun i H3 g3 hi _ => ?_) (outs_all _ _)) fun p H1 g1 np hp => ?_
    · exact ei_reach (n := n) (ea_cons (ei_ixT (ei_var (i := 0) rfl (h0.up g3)) ei_i rfl) (ea_cons (ei_var (i := 2) rfl (.int _)) ea_nil)) ⟨by omega, hi⟩ n60 hl hb
    · have hat : ∀ i, i < n.toNat → atI ((List.range n.toNat).map fun i => D.tup ((compL n ls ((i : Nat) : Int)).map D.int)) ((i : Nat) : Int) = some (.tup ((compL n ls ((i : Nat) : Int)).map D.int)) := fun i hi => by
        refine at_nat rfl ?_
        rw [List.getElem?_map, List.getElem?_range hi]
        rfl
      refine s_ret (K := K) g1.tabs (ei_tupN (en_is (en_lcR (fun i => decide ((compL n ls ((i : Nat) : Int)).getD 0 0 = ((i : Nat) : Int))) (fun i => .tup ((compL n ls ((i : Nat) : Int)).map D.int)) (ea_cons (ei_ixT (ei_var (i := 0) rfl (h0.up g1)) ei_i rfl) ea_nil) (by omega) (fun _ => rfl)
        (fun i H3 g3 hi => ?_) fun i H3 g3 hi _ => ?_) ?_)) fun v H3 g3 hv => q v H3 (g1.trans g3) hv
      · refine et_test (K := K) (ei_eqI (ei_ixT (ei_ixL (ei_var (i := 1) rfl (.ptr p)) (hp.up0 g3).lr (ei_var (i := 2) rfl (.int _)) (hat i (by omega))) ei_i (at_nat (j := 0) rfl ?_)) (ei_var (i := 2) rfl (.int _)))
        rw [List.getElem?_map, getD_of (z := (0 : Int)) (comp_pos ⟨by omega, hi⟩)]
        rfl
      · exact ei_ixL (ei_var (i := 1) rfl (.ptr p)) (hp.up0 g3).lr (ei_var (i := 2) rfl (.int _)) (hat i (by omega))
      · unfold outs tsD pieces
        rw [List.map_map]
        rfl
end
end K02
namespace K02
open PySem PySem.Spec PyProof.Rows L2 LamX NdefX Clo LRev U Gr
section
variable {P : Program} {w : World} {K : PySem.W.Frag} {mg : Str → Option Value} {base : Heap} {τ : TL}
/-! ### same -/
/-- data of ints and tuples, m storeys at most -/
def OkS : Nat → D → Prop
  | 0, d => ∃ i, d = .int i
  | m + 1, d => (∃ i, d = .int i) ∨ ∃ ds, d = .tup ds ∧ ds.length ≤ 100000 ∧ ∀ x ∈ ds, OkS m x
def FSame : Nat → List D → D → Prop
  | 0, _, _ => False
  | m + 1, ds, r => ∃ d, ds = [d, d] ∧ OkS m d ∧ r = .bl true
theorem ok__law_same (T : Txt K mg) : ∀ m : Nat, FnOk P w K mg base L2.CX0 m T._law_same.f T._law_same.fd ["_law_told", "_law_due"] (spF τ K (FSame m))
  | 0 => ⟨fun vs H Q E h => by obtain ⟨_, _, _, _, h, _⟩ := h; exact h.elim, fun A outer s H args us vs Q E hr e0 hb r h => by obtain ⟨_, _, _, _, h, _⟩ := h; exact h.elim⟩
  | m + 1 => by
    have G__law_same : FnOk P w K mg base L2.CX0 m T._law_same.f T._law_same.fd _ _ := ok__law_same T m
    refine T._law_same.F.ok sc__law_same (fun vs H Q E h => ?_) (fun cdv A outer s H vs Q E hr h => ?_)
    · obtain ⟨ds, r, h1, _, ⟨_, rfl, _⟩, _⟩ := h
      exact h1.length
    · obtain ⟨ds, r, hv, tb, ⟨d, rfl, hd, rfl⟩, q⟩ := h
      obtain ⟨y, x, rfl, h0, h1⟩ := ima2 hv
      refine ⟨_, (pss_cons (ps_if (pt_val (pe_callB (r := rIsi K) call_isi (by rfl) T.z_isinstance (by decide +kernel) (pa_cons (pv 1) (pa_cons (pe_bltn (v := .ty "tuple") (u := .type "tuple") (by rfl) T.z_tuple (by decide +kernel) rfl) pa_nil)))) (pss_cons (ps_if (PW.pt (pw_or (pt_not (pt_val (pe_callB (r := rIsi K) call_isi (by rfl) T.z_isinstance (by decide +kernel) (pa_cons (pv 0) (pa_cons (pe_bltn (v := .ty "tuple") (u := .type "tuple") (by rfl) T.z_tuple (by decide +kernel) rfl) pa_nil))))) (pw_or1 (pt_cmpR op_ne (pe_callB (r := rLenQ K) call_len_seq (by rfl) T.z_len (by decide +kernel) (pa_cons (pv 0) pa_nil)) (pe_callB (r := rLenQ K) call_len_seq (by rfl) T.z_len (by decide +kernel) (pa_cons (pv 1) pa_nil)) (nomark _))))) (pss_one (ps_ret pe_bl)) pss_nil)
      (pss_one (ps_ret (pe_callB (r := rAll K) (cr_all rfl) (by rfl) T.z_all (by decide +kernel) (pa_cons (pe_lc (own := [("_law_k", 2)]) (g := (gName 2)) (tt := tYes) rfl sc__law_same.nd (pi_range1 (by rfl) T.z_range (pa_cons (pe_callB (r := rLenQ K) call_len_seq (by rfl) T.z_len (by decide +kernel) (pa_cons (pv 1) pa_nil)) pa_nil)) (blkOk_by (own := [("_law_k", 2)]) (N := ["_law_told", "_law_due", "_law_k"]) (sc := defScope s__law_same) (by decide +kernel)) (fun _ _ _ _ _ => (pg_name (i := 2) sc__law_same.nd rfl (by first | exact .inl rfl | exact .inr rfl))) (fun _ _ _ _ _ => pts_nil) (fun _ _ _ _ _ => (pc T._law_same G__law_same hr (by rfl) (pa_cons (pe_ix (r := rIx K) ix_seq (pv 0) (pv 2) (fun _ _ => rfl)) (pa_cons (pe_ix (r := rIx K) ix_seq (pv 1) (pv 2) (fun _ _ => rfl)) pa_nil))))) pa_nil))))) pss_nil)
      (pss_one (ps_ret (pe_and (pe_callB (r := rIsi K) call_isi (by rfl) T.z_isinstance (by decide +kernel) (pa_cons (pv 0) (pa_cons (pe_bltn (v := .ty "int") (u := .type "int") (by rfl) T.z_int (by decide +kernel) rfl) pa_nil))) (pe_and (pe_not (pe_callB (r := rIsi K) call_isi (by rfl) T.z_isinstance (by decide +kernel) (pa_cons (pv 0) (pa_cons (pe_bltn (v := .ty "bool") (u := .type "bool") (by rfl) T.z_bool (by decide +kernel) rfl) pa_nil)))) (pe_one (pe_cmpR op_eq (pv 0) (pv 1) (nomark _)))))))), ?_⟩
      have key : (∃ i, d = .int i) ∨ ∃ m' ds, m = m' + 1 ∧ d = .tup ds ∧ ds.length ≤ 100000 ∧ ∀ x ∈ ds, OkS m' x := by
        cases m with
        | zero => exact .inl hd
        | succ m' =>
          rcases hd with h | ⟨ds, h1, h2, h3⟩
          · exact .inl h
          · exact .inr ⟨m', ds, rfl, h1, h2, h3⟩
      rcases key with ⟨i, rfl⟩ | ⟨m', ds, rfl, rfl, hl, ho⟩
      · refine s_if tb (et_B (K := K) (ei_isi (T' := τ) (ei_var (i := 1) rfl h1) (noP_int i) (kit_tuple _))) (fun e => by cases e) fun _ H1 g1 => ?_
        refine s_ret (K := K) g1.tabs (d := .bl true) (ei_and (ei_isi (T' := τ) (ei_var (i := 0) rfl (h0.up g1)) (noP_int i) (kit_int _)) (fun _ => ?_) fun e => by cases e) fun v H2 g2 hv => q v H2 (g1.trans g2) hv
        refine ei_and (ei_not (ei_isi (T' := τ) (ei_var (i := 0) rfl (h0.up g1)) (noP_int i) (kit_bool _))) (fun _ => ?_) fun e => by cases e
        exact ei_is (ei_eqI (ei_var (i := 0) rfl (h0.up g1)) (ei_var (i := 1) rfl (h1.up g1))) (by rw [decide_eq_true rfl])
      · have nt : noP (.tup ds) := fun a z => by cases z
        refine s_if tb (et_B (K := K) (ei_isi (T' := τ) (ei_var (i := 1) rfl h1) nt (kit_tuple _))) (fun _ H1 g1 => ?_) fun e => by cases e
        refine s_if g1.tabs (et_or (et_not (et_B (K := K) (ei_isi (T' := τ) (ei_var (i := 0) rfl (h0.up g1)) nt (kit_tuple _)))) fun _ => et_test (K := K) (ei_neI (ei_lenT (ei_var (i := 0) rfl (h0.up g1))) (ei_lenT (ei_var (i := 1) rfl (h1.up g1))))) (fun e H2 g2 => ?_) fun _ H2 g2 => ?_
        · exfalso
          rw [decide_eq_true rfl] at e
          cases e
        · have g02 := g1.trans g2
          refine s_ret (K := K) g2.tabs (ei_is (ei_allN (bs := (List.range ds.length).map fun _ => true) (en_is (en_lcR (fun _ => true) (fun _ => .bl true) (ea_cons (ei_lenT (ei_var (i := 1) rfl (h1.up g02))) ea_nil) (by omega) (fun _ => rfl) (fun _ _ _ _ => et_yes) fun k H3 g3 hk _ => ?_) (by rw [outs_bl, Int.toNat_natCast]))) (by simp)) fun v H3 g3 hv => q v H3 (g02.trans g3) hv
          have hk' : k < ds.length := by omega
          have ha : atI ds ((k : Nat) : Int) = some ds[k] := at_nat rfl (List.getElem?_eq_getElem hk')
          refine ei_call (ea_cons (ei_ixT (ei_var (i := 0) rfl (h0.up (g02.trans g3))) (ei_var (i := 2) rfl (.int _)) ha) (ea_cons (ei_ixT (ei_var (i := 1) rfl (h1.up (g02.trans g3))) (ei_var (i := 2) rfl (.int _)) ha) ea_nil)) ⟨_, rfl, ho _ (List.getElem_mem hk'), rfl⟩
theorem oks_ints {m : Nat} {ns : List Int} (h : ns.length ≤ 100000) : OkS (m + 1) (.tup (ns.map D.int)) := .inr ⟨_, rfl, by rw [List.length_map]; exact h, fun x hx => by
  obtain ⟨i, _, rfl⟩ := List.mem_map.mp hx
  cases m with
  | zero => exact ⟨i, rfl⟩
  | succ m => exact .inl ⟨i, rfl⟩⟩
theorem oks_ts {m : Nat} {xs : List (List Int)} (h : xs.length ≤ 100000) (h2 : ∀ l ∈ xs, l.length ≤ 100000) : OkS (m + 2) (.tup (tsD xs)) := .inr ⟨_, rfl, by unfold tsD; rw [List.length_map]; exact h, fun x hx => by
  obtain ⟨l, hl, rfl⟩ := List.mem_map.mp hx
  exact oks_ints (h2 l hl)⟩
/-! ### a row of ints, a list or a tuple -/
def Bg (K : PySem.W.Frag) (H : Hp) (v : V) (ns : List Int) : Prop := Im K H v (.tup (ns.map D.int)) ∨ ∃ a, v = .ref a ∧ Lr K H a (ns.map D.int)
theorem Bg.up {H H' : Hp} {v : V} {ns : List Int} (g : G τ [] H H') (h : Bg K H v ns) : Bg K H' v ns := by
  rcases h with h | ⟨a, e, h⟩
  · exact .inl (h.up g)
  · exact .inr ⟨a, e, h.up g⟩
theorem Bg.sq {H : Hp} {v : V} {ns : List Int} (h : Bg K H v ns) : ∃ a, v = .ref a ∧ (SqL K H a (ns.map V.int) ∨ SqT K H a (ns.map V.int)) := by
  rcases h with h | ⟨a, rfl, vs, h1, h2⟩
  · obtain ⟨a, xs, rfl, h1, h2⟩ := im_tup h
    rw [ima_ints h2] at h1
    exact ⟨a, rfl, .inr h1⟩
  · rw [ima_ints h2] at h1
    exact ⟨a, rfl, .inl h1⟩
theorem ei_inB {σ : L2.St} {H : Hp} {ta : TE} {i : Int} {j : Nat} {v : V} {ns : List Int} {neg : Bool} (ha : EvI τ K ta σ H (.int i)) (hv : σ[j]? = some (some v)) (hb : Bg K H v ns) : EvI τ K (tOp (rIn K neg) ta (tVar j)) σ H (.bl (neg != decide (i ∈ ns))) := fun H1 g Q q =>
  ha H1 g _ fun u H2 g2 hu => by
    rw [im_int hu]
    refine ⟨v, hv, ?_⟩
    obtain ⟨a, rfl, hs⟩ := (hb.up (g.trans g2)).sq
    refine ⟨a, _, rfl, hs, rfl, flat_ints ns, ?_⟩
    rw [inV_ints]
    refine q _ H2 g2 ?_
    cases neg <;> cases decide (i ∈ ns) <;> exact .bl _
theorem ei_yinB {σ : L2.St} {H : Hp} {ta : TE} {i : Int} {j : Nat} {v : V} {ns : List Int} (ha : EvI τ K ta σ H (.int i)) (hv : σ[j]? = some (some v)) (hb : Bg K H v ns) : EvI τ K (tOp (rIn K false) ta (tVar j)) σ H (.bl (decide (i ∈ ns))) := ei_is (ei_inB ha hv hb) (by cases decide (i ∈ ns) <;> rfl)
theorem ei_ninB {σ : L2.St} {H : Hp} {ta : TE} {i : Int} {j : Nat} {v : V} {ns : List Int} (ha : EvI τ K ta σ H (.int i)) (hv : σ[j]? = some (some v)) (hb : Bg K H v ns) : EvI τ K (tOp (rIn K true) ta (tVar j)) σ H (.bl (!decide (i ∈ ns))) := ei_is (ei_inB ha hv hb) (by cases decide (i ∈ ns) <;> rfl)
theorem ei_lenB {σ : L2.St} {H : Hp} {j : Nat} {v : V} {ns : List Int} (hv : σ[j]? = some (some v)) (hb : Bg K H v ns) : EvI τ K (tCB (rLenQ K) (tCons (tVar j) tNil)) σ H (.int ns.length) := fun H1 g Q q => by
  obtain ⟨a, rfl, hs⟩ := (hb.up g).sq
  refine ⟨.ref a, hv, a, _, rfl, hs, ?_⟩
  rw [List.length_map]
  exact q _ H1 (.refl g.tabs) (.int _)
/-- the leaves with p, by going through -/
theorem outs_pr (p : Pr → Bool) (ls : List Pr) : outs (fun k => p (ls.getD k (0, 0))) (fun k => prD (ls.getD k (0, 0))) ls.length = (ls.filter p).map prD := by
  unfold outs
  have h : ls.filter p = ((List.range ls.length).map fun k => ls.getD k (0, 0)).filter p := by rw [range_get ls (0, 0) fun l => l, List.map_id']
  rw [h, List.filter_map, List.map_map]
  rfl
/-! ### across -/
abbrev pAcr (as bs : List Int) (l : Pr) : Bool := decide (l.1 ∈ as) && decide (l.2 ∈ bs)
def across (ls : List Pr) (as bs : List Int) : Nat := (ls.filter (pAcr as bs)).length
def spAcross (τ : TL) (K : PySem.W.Frag) : Sp := fun vs H Q _ => ∃ (x y z : V) (n : Int) (ls : List Pr) (as bs : List Int), vs = [x, y, z] ∧ Tabs τ H ∧ Im K H x (hD n ls) ∧ Bg K H y as ∧ Bg K H z bs ∧ ls.length ≤ 1000 ∧ ∀ H2, G τ [] H H2 → Q (.int (across ls as bs)) H2
theorem ok__law_across (T : Txt K mg) : FnOk P w K mg base L2.CX0 1 T._law_across.f T._law_across.fd ["_law_pile", "_law_left", "_law_right"] (spAcross τ K) := by
  refine T._law_across.F.ok sc__law_across (fun vs H Q E h => ?_) (fun cdv A outer s H vs Q E hr h => ?_)
  · obtain ⟨_, _, _, _, _, _, _, rfl, _⟩ := h
    rfl
  · obtain ⟨x, y, z, n, ls, as, bs, rfl, tb, hx, hy, hz, hl, q⟩ := h
    refine ⟨_, (pss_one (ps_ret (pe_callB (r := rLenQ K) call_len_seq (by rfl) T.z_len (by decide +kernel) (pa_cons (pe_lc (own := [("_law_pair", 3)]) (g := (gName 3)) (tt := _) rfl sc__law_across.nd (pi_tup (pe_ix (r := rIx K) ix_seq (pv 0) pe_int (fun _ _ => rfl))) (blkOk_by (own := [("_law_pair", 3)]) (N := ["_law_pile", "_law_left", "_law_right", "_law_pair"]) (sc := defScope s__law_across) (by decide +kernel)) (fun _ _ _ _ _ => (pg_name (i := 3) sc__law_across.nd rfl (by first | exact .inl rfl | exact .inr rfl))) (fun _ _ _ _ _ => pts_one (PW.pt (pw_and (pt_cmpR (r := rIn K false) op_in_seq (pe_ix (r := rIx K) ix_seq (pv 3) pe_int (fun _ _ => rfl)) (pv 1) (by rfl)) (pw_and1 (pt_cmpR (r := rIn K false) op_in_seq (pe_ix (r := rIx K) ix_seq (pv 3) pe_int (fun _ _ => rfl)) (pv 2) (by rfl)))))) (fun _ _ _ _ _ => (pv 3))) pa_nil)))), ?_⟩
    have hll : (ls.map prD).length = ls.length := List.length_map ..
    refine s_ret (K := K) tb (ei_is (ei_lenN (ds := (ls.filter (pAcr as bs)).map prD) (en_is (en_lcT (fun k => pAcr as bs (ls.getD k (0, 0))) (fun k => prD (ls.getD k (0, 0))) (ei_ixT (ei_var (i := 0) rfl hx) ei_i rfl) (by omega) (fun _ => rfl) (fun k d z' H3 g3 hd hm => ?_) fun k d z' H3 g3 hd hm _ => ?_) (by rw [hll]; exact outs_pr _ ls))) (show _ = D.int (across ls as bs : Int) by rw [List.length_map]; rfl)) fun v H4 g4 hv => by
      rw [im_int hv]
      exact q H4 g4
    · have hk := (List.getElem?_eq_some_iff.mp hd).1
      rw [hll] at hk
      rw [List.getElem?_map, getD_of (z := ((0, 0) : Pr)) hk] at hd
      cases hd
      exact et_and (et_test (K := K) (ei_yinB (ei_ixT (ei_var (i := 3) rfl hm) ei_i rfl) rfl (hy.up g3))) fun _ => et_test (K := K) (ei_yinB (ei_ixT (ei_var (i := 3) rfl hm) ei_i rfl) rfl (hz.up g3))
    · have hk := (List.getElem?_eq_some_iff.mp hd).1
      rw [hll] at hk
      rw [List.getElem?_map, getD_of (z := ((0, 0) : Pr)) hk] at hd
      cases hd
      exact ei_var (i := 3) rfl hm
end
end K02
namespace K02
open PySem PySem.Spec PyProof.Rows L2 LamX NdefX Clo LRev U Gr
section
variable {P : Program} {w : World} {K : PySem.W.Frag} {mg : Str → Option Value} {base : Heap} {τ : TL}
/-! ### grown -/
abbrev pIn (part : List Int) : Pr → Bool := pCross part true true
theorem pIn_iff {part : List Int} {l : Pr} : pIn part l = true ↔ l.1 ∈ part ∧ l.2 ∈ part := by
  unfold pIn pCross
  simp
/-- met so far, within the part -/
structure Met (ls : List Pr) (part : List Int) (seed : Int) (M : List Int) : Prop where
  nd : M.Nodup
  start : seed ∈ M
  sub : ∀ x ∈ M, x ∈ part
  conn : ∀ x ∈ M, Conn (inn (pIn part) ls) seed x
theorem Met.add {ls : List Pr} {part M : List Int} {seed a b : Int} (h : Met ls part seed M) (ha : a ∈ M) (hb : b ∉ M) (hp : b ∈ part) (hl : (a, b) ∈ ls ∨ (b, a) ∈ ls) : Met ls part seed (M ++ [b]) := by
  refine ⟨?_, List.mem_append_left _ h.start, fun x hx => ?_, fun x hx => ?_⟩
  · rw [List.nodup_append]
    exact ⟨h.nd, by simp, fun a ha' c hc e => hb (by rw [← List.mem_singleton.mp hc, ← e]; exact ha')⟩
  · rcases List.mem_append.mp hx with hx | hx
    · exact h.sub x hx
    · rw [List.mem_singleton.mp hx]
      exact hp
  · rcases List.mem_append.mp hx with hx | hx
    · exact h.conn x hx
    · rw [List.mem_singleton.mp hx]
      refine .step (h.conn a ha) ?_
      rcases hl with hl | hl
      · exact .inl (mem_inn.mpr ⟨hl, pIn_iff.mpr ⟨h.sub a ha, hp⟩⟩)
      · exact .inr (mem_inn.mpr ⟨hl, pIn_iff.mpr ⟨hp, h.sub a ha⟩⟩)
/-- nothing more to meet by this leaf -/
def Okl (part M : List Int) (l : Pr) : Prop := l.1 ∈ part → l.2 ∈ part → (l.1 ∈ M ↔ l.2 ∈ M)
def Shut (ls : List Pr) (part M : List Int) : Prop := ∀ l ∈ ls, Okl part M l
theorem Met.all {ls : List Pr} {part M : List Int} {seed n : Int} (h : Met ls part seed M) (hs : Shut ls part M) (hb : ∀ x ∈ part, inI n x) (x : Int) : x ∈ M ↔ inI n x ∧ Conn (inn (pIn part) ls) seed x := by
  constructor
  · intro hx
    exact ⟨hb x (h.sub x hx), h.conn x hx⟩
  · rintro ⟨_, hc⟩
    refine hc.closed (S := fun v => v ∈ M) (fun l hl => ?_) h.start
    obtain ⟨h1, h2⟩ := mem_inn.mp hl
    obtain ⟨h3, h4⟩ := pIn_iff.mp h2
    exact hs l h1 h3 h4
/-- a round: M0 at its begin -/
structure Rnd (ls : List Pr) (part M0 M : List Int) (j : Nat) : Prop where
  grow : (M = M0 ∧ ∀ l ∈ ls.take j, Okl part M0 l) ∨ M0.length < M.length
  shut : Shut ls part M0 → M = M0
def spGrown (τ : TL) (K : PySem.W.Frag) : Sp := fun vs H Q _ => ∃ (x z : V) (seed n : Int) (ls : List Pr) (part : List Int), vs = [x, .int seed, z] ∧ Tabs τ H ∧ Im K H x (hD n ls) ∧ Bg K H z part ∧ seed ∈ part ∧ (∀ p ∈ part, inI n p) ∧ part.length ≤ 1000 ∧ ls.length ≤ 1000 ∧ ∀ v H2, G τ [] H H2 → Im K H2 v (.tup ((compL n (inn (pIn part) ls) seed).map D.int)) → Q v H2
theorem ok__law_grown (T : Txt K mg) : FnOk P w K mg base L2.CX0 1 T._law_grown.f T._law_grown.fd ["_law_pile", "_law_seed", "_law_part"] (spGrown τ K) := by
  refine T._law_grown.F.ok sc__law_grown (fun vs H Q E h => ?_) (fun cdv A outer s H vs Q E hr h => ?_)
  · obtain ⟨_, _, _, _, _, _, rfl, _⟩ := h
    rfl
  · obtain ⟨x, z, seed, n, ls, part, rfl, tb, hx, hz, hsd, hpb, lp, hl, q⟩ := h
    refine ⟨_, (pss_cons (ps_set (i := 3) sc__law_grown.nd rfl (by first | exact .inl rfl | exact .inr rfl) (pe_lst (pa_cons (pv 1) pa_nil)))
      (pss_cons (ps_for PassesOwn.never rfl (pi_range1 (by rfl) T.z_range (pa_cons (pe_callB (r := rLenQ K) call_len_seq (by rfl) T.z_len (by decide +kernel) (pa_cons (pv 2) pa_nil)) pa_nil)) (pg_name (i := 4) sc__law_grown.nd rfl (by first | exact .inl rfl | exact .inr rfl)) (pss_one (ps_for PassesOwn.never rfl (pi_tup (pe_ix (r := rIx K) ix_seq (pv 0) pe_int (fun _ _ => rfl))) (pg_name (i := 5) sc__law_grown.nd rfl (by first | exact .inl rfl | exact .inr rfl)) (Evl.pss_cut (ps_if (PW.pt (pw_and (pt_cmpR (r := rIn K false) op_in_seq (pe_ix (r := rIx K) ix_seq (pv 5) pe_int (fun _ _ => rfl)) (pv 3) (by rfl)) (pw_and (pt_cmpR (r := rIn K true) op_notIn_seq (pe_ix (r := rIx K) ix_seq (pv 5) pe_int (fun _ _ => rfl)) (pv 3) (by rfl)) (pw_and1 (pt_cmpR (r := rIn K false) op_in_seq (pe_ix (r := rIx K) ix_seq (pv 5) pe_int (fun _ _ => rfl)) (pv 2) (by rfl)))))) (pss_one (ps_expr (pe_bm PySem.F.plainAttrs_list PySem.F.slot_list_append PySem.F.type_list_append mt_append (pv 3) (pa_cons (pe_ix (r := rIx K) ix_seq (pv 5) pe_int (fun _ _ => rfl)) pa_nil)))) pss_nil)
      (pss_one (ps_if (PW.pt (pw_and (pt_cmpR (r := rIn K false) op_in_seq (pe_ix (r := rIx K) ix_seq (pv 5) pe_int (fun _ _ => rfl)) (pv 3) (by rfl)) (pw_and (pt_cmpR (r := rIn K true) op_notIn_seq (pe_ix (r := rIx K) ix_seq (pv 5) pe_int (fun _ _ => rfl)) (pv 3) (by rfl)) (pw_and1 (pt_cmpR (r := rIn K false) op_in_seq (pe_ix (r := rIx K) ix_seq (pv 5) pe_int (fun _ _ => rfl)) (pv 2) (by rfl)))))) (pss_one (ps_expr (pe_bm PySem.F.plainAttrs_list PySem.F.slot_list_append PySem.F.type_list_append mt_append (pv 3) (pa_cons (pe_ix (r := rIx K) ix_seq (pv 5) pe_int (fun _ _ => rfl)) pa_nil)))) pss_nil))))))
      (pss_one (ps_ret (pe_callTy (r := rTupQ K) call_tuple_of (by rfl) T.z_tuple (by decide +kernel) (pa_cons (pe_callB cr_sortedI (by rfl) T.z_sorted (by decide +kernel) (pa_cons (pv 3) pa_nil)) pa_nil)))))), ?_⟩
    refine s_asgN (K := K) (ds := [D.int seed]) tb (en_lst (ea_cons (ei_var (i := 1) rfl (.int seed)) ea_nil) (show 1 ≤ 100000 by decide)) fun m H1 g1 nm hm => ?_
    have hz1 := hz.up g1
    have hx1 := hx.up g1
    have bnd : ∀ {M : List Int}, Met ls part seed M → M.length ≤ part.length := fun h => len_le h.nd h.sub
    refine s_forR (K := K) (n := (part.length : Int)) g1.tabs (ea_cons (ei_lenB (j := 2) rfl hz1) ea_nil) (by omega)
      (fun k σ H' => ∃ (v4 v5 : Option V) (M : List Int), σ = [some x, some (.int seed), some z, some (.ref m), v4, v5] ∧ G τ [] H H' ∧ Ls K H' m (M.map D.int) ∧ Met ls part seed M ∧ (Shut ls part M ∨ k + 1 ≤ M.length)) (fun H2 g2 => ?_) (fun k σ H2 hk hP => ?_) fun σ H2 hP => ?_
    · exact ⟨none, none, [seed], rfl, g1.trans g2, hm.up0 g2, ⟨by simp, by simp, fun y hy => by rw [List.mem_singleton.mp hy]; exact hsd, fun y hy => by rw [List.mem_singleton.mp hy]; exact .here⟩, .inr (Nat.le_refl _)⟩
    · obtain ⟨v4, v5, M0, rfl, g2, hm2, hM0, hsh⟩ := hP
      dsimp only
      refine s_forGT (τ := τ) (K := K) (ds := ls.map prD) (fun _ => True) (fun Q q => ?_) (fun u j σ H' => ∃ (v5 : Option V) (M : List Int), σ = [some x, some (.int seed), some z, some (.ref m), some (.int (k : Int)), v5] ∧ G τ [] H H' ∧ Ls K H' m (M.map D.int) ∧ Met ls part seed M ∧ Rnd ls part M0 M j ∧ Im K H' u (.tup (ls.map prD)))
        (fun u H3 g3 hu _ => ?_) (fun u j σ H3 hP => ?_) (fun u j d v σ H3 hd hv hP => ?_) fun u σ H3 hP => ?_
      · have ev : EvI τ K (tOp (rIx K) (tVar 0) (tC (.int 1))) [some x, some (.int seed), some z, some (.ref m), some (.int (k : Int)), v5] H2 (.tup (ls.map prD)) := ei_ixT (ei_var (i := 0) rfl (hx.up g2)) ei_i rfl
        exact ev H2 (.refl g2.tabs) Q fun v H3 g3 hv => q v H3 g3 hv trivial
      · exact ⟨_, M0, rfl, g2.trans g3, hm2.up0 g3, hM0, ⟨.inl ⟨rfl, fun l hl => by simp at hl⟩, fun _ => rfl⟩, hu⟩
      · obtain ⟨_, _, _, _, _, _, _, h⟩ := hP
        exact h
      · obtain ⟨v5, M, rfl, g3, hm3, hM, hR, hu⟩ := hP
        rw [List.getElem?_map] at hd
        obtain ⟨l, hl', rfl⟩ := Option.map_eq_some_iff.mp hd
        have hlm : (l.1, l.2) ∈ ls := List.mem_of_getElem? hl'
        -- first the catchword
        refine ⟨fun σ H' => ∃ (M' : List Int), σ = [some x, some (.int seed), some z, some (.ref m), some (.int (k : Int)), some v] ∧ G τ [] H H' ∧ Ls K H' m (M'.map D.int) ∧ Met ls part seed M' ∧ Im K H' u (.tup (ls.map prD)) ∧ Im K H' v (prD l) ∧ (M' = M ∨ M.length < M'.length) ∧ (Shut ls part M → M' = M) ∧ (l.1 ∈ M' → l.2 ∈ part → l.2 ∈ M'), ?_, fun σ H4 hP => ?_⟩
        · have e1 : ∀ {H' : Hp}, G τ [] H3 H' → EvI τ K (tOp (rIx K) (tVar 5) (tC (.int 0))) [some x, some (.int seed), some z, some (.ref m), some (.int (k : Int)), some v] H' (.int l.1) := fun g => ei_ixT (ei_var (i := 5) rfl (hv.up g)) ei_i rfl
          have e2 : ∀ {H' : Hp}, G τ [] H3 H' → EvI τ K (tOp (rIx K) (tVar 5) (tC (.int 1))) [some x, some (.int seed), some z, some (.ref m), some (.int (k : Int)), some v] H' (.int l.2) := fun g => ei_ixT (ei_var (i := 5) rfl (hv.up g)) ei_i rfl
          have bm : ∀ {H' : Hp}, G τ [] H3 H' → Bg K H' (.ref m) M := fun g => .inr ⟨m, rfl, (hm3.up0 g).lr⟩
          have g33 : G τ [] H3 H3 := .refl g3.tabs
          refine s_if g3.tabs (et_and (et_test (K := K) (ei_yinB (j := 3) (e1 g33) rfl (bm g33))) fun _ => et_and (et_test (K := K) (ei_ninB (j := 3) (e2 g33) rfl (bm g33))) fun _ => et_test (K := K) (ei_yinB (j := 2) (e2 g33) rfl (hz.up g3))) (fun e H4 g4 => ?_) fun e H4 g4 => ?_
          · rw [Bool.and_eq_true, Bool.and_eq_true] at e
            have h1 : l.1 ∈ M := of_decide_eq_true e.1
            have h2 : l.2 ∉ M := by simpa using e.2.1
            have h3 : l.2 ∈ part := of_decide_eq_true e.2.2
            refine s_app (K := K) g4.tabs (ei_var (i := 3) rfl (.ptr m)) (e2 g4) (hm3.up0 g4) (by rw [List.length_map]; have := bnd hM; omega) fun H5 g5 h5 => ?_
            refine ⟨M ++ [l.2], rfl, G.less ((g3.trans g4).wide.trans g5) nm, by rw [List.map_append]; exact h5, hM.add h1 h2 h3 (.inl hlm), (hu.up g4).up g5, (hv.up g4).up g5, .inr (by rw [List.length_append]; simp), fun hs => ?_, fun _ _ => by simp⟩
            exact absurd ((hs _ hlm (hM.sub _ h1) h3).mp h1) h2
          · refine ⟨M, rfl, g3.trans g4, hm3.up0 g4, hM, hu.up g4, hv.up g4, .inl rfl, fun _ => rfl, fun h1 h3 => ?_⟩
            by_cases h2 : l.2 ∈ M
            · exact h2
            · rw [decide_eq_true h1, decide_eq_false h2, decide_eq_true h3] at e
              cases e
        · obtain ⟨M', rfl, g4, hm4, hM', hu4, hv4, hgr, hsM, hfw⟩ := hP
          have e1 : ∀ {H' : Hp}, G τ [] H4 H' → EvI τ K (tOp (rIx K) (tVar 5) (tC (.int 0))) [some x, some (.int seed), some z, some (.ref m), some (.int (k : Int)), some v] H' (.int l.1) := fun g => ei_ixT (ei_var (i := 5) rfl (hv4.up g)) ei_i rfl
          have e2 : ∀ {H' : Hp}, G τ [] H4 H' → EvI τ K (tOp (rIx K) (tVar 5) (tC (.int 1))) [some x, some (.int seed), some z, some (.ref m), some (.int (k : Int)), some v] H' (.int l.2) := fun g => ei_ixT (ei_var (i := 5) rfl (hv4.up g)) ei_i rfl
          have bm : ∀ {H' : Hp}, G τ [] H4 H' → Bg K H' (.ref m) M' := fun g => .inr ⟨m, rfl, (hm4.up0 g).lr⟩
          have g44 : G τ [] H4 H4 := .refl g4.tabs
          have tk : ls.take (j + 1) = ls.take j ++ [l] := take_next hl'
          -- what a step does to the round
          have fin : ∀ M'' : List Int, (M'' = M' ∨ M'.length < M''.length) → (Shut ls part M' → M'' = M') → (l.2 ∈ M'' → l.1 ∈ part → l.1 ∈ M'') → (M'' = M' → Okl part M' l) → Rnd ls part M0 M'' (j + 1) := fun M'' c1 c2 c3 c4 => by
            refine ⟨?_, fun hs => ?_⟩
            · rcases c1 with rfl | c1
              · rcases hgr with rfl | hgr
                · rcases hR.grow with ⟨r1, r2⟩ | r
                  · refine .inl ⟨r1, fun l' hl2 => ?_⟩
                    rw [tk] at hl2
                    rcases List.mem_append.mp hl2 with hl2 | hl2
                    · exact r2 l' hl2
                    · rw [List.mem_singleton.mp hl2, ← r1]
                      exact c4 rfl
                  · exact .inr r
                · refine .inr ?_
                  rcases hR.grow with ⟨r1, _⟩ | r
                  · rw [← r1]
                    exact hgr
                  · omega
              · refine .inr ?_
                have a1 : M0.length ≤ M.length := by
                  rcases hR.grow with ⟨r1, _⟩ | r
                  · rw [r1]
                    exact Nat.le_refl _
                  · omega
                have a2 : M.length ≤ M'.length := by
                  rcases hgr with r1 | r
                  · rw [r1]
                    exact Nat.le_refl _
                  · omega
                omega
            · have e0 := hR.shut hs
              have e1 := hsM (by rw [e0]; exact hs)
              rw [c2 (by rw [e1, e0]; exact hs), e1, e0]
          refine s_if g4.tabs (et_and (et_test (K := K) (ei_yinB (j := 3) (e2 g44) rfl (bm g44))) fun _ => et_and (et_test (K := K) (ei_ninB (j := 3) (e1 g44) rfl (bm g44))) fun _ => et_test (K := K) (ei_yinB (j := 2) (e1 g44) rfl (hz.up g4))) (fun e H5 g5 => ?_) fun e H5 g5 => ?_
          · rw [Bool.and_eq_true, Bool.and_eq_true] at e
            have h1 : l.2 ∈ M' := of_decide_eq_true e.1
            have h2 : l.1 ∉ M' := by simpa using e.2.1
            have h3 : l.1 ∈ part := of_decide_eq_true e.2.2
            refine s_app (K := K) g5.tabs (ei_var (i := 3) rfl (.ptr m)) (e1 g5) (hm4.up0 g5) (by rw [List.length_map]; have := bnd hM'; omega) fun H6 g6 h6 => ?_
            refine ⟨_, M' ++ [l.1], rfl, G.less ((g4.trans g5).wide.trans g6) nm, by rw [List.map_append]; exact h6, hM'.add h1 h2 h3 (.inr hlm), fin _ (.inr (by rw [List.length_append]; simp)) (fun hs => ?_) (fun _ _ => by simp) (fun e => ?_), (hu4.up g5).up g6⟩
            · exact absurd ((hs _ hlm h3 (hM'.sub _ h1)).mpr h1) h2
            · have := congrArg List.length e
              rw [List.length_append] at this
              simp at this
          · have bw : l.2 ∈ M' → l.1 ∈ part → l.1 ∈ M' := fun h1 h3 => by
              by_cases h2 : l.1 ∈ M'
              · exact h2
              · rw [decide_eq_true h1, decide_eq_false h2, decide_eq_true h3] at e
                cases e
            exact ⟨_, M', rfl, g4.trans g5, hm4.up0 g5, hM', fin _ (.inl rfl) (fun _ => rfl) bw (fun _ p1 p2 => ⟨fun h => hfw h p2, fun h => bw h p1⟩), hu4.up g5⟩
      · obtain ⟨v5, M, rfl, g3, hm3, hM, hR, hu⟩ := hP
        refine ⟨_, _, M, rfl, g3, hm3, hM, ?_⟩
        rw [List.length_map] at hR
        rcases hsh with hs | hs
        · rw [hR.shut hs]
          exact .inl hs
        · rcases hR.grow with ⟨r1, r2⟩ | r
          · rw [r1]
            rw [List.take_length] at r2
            exact .inl r2
          · exact .inr (by omega)
    · obtain ⟨v4, v5, M, rfl, g2, hm2, hM, hsh⟩ := hP
      have hs : Shut ls part M := by
        rcases hsh with hs | hs
        · exact hs
        · have := bnd hM
          omega
      obtain ⟨us, m1, m2⟩ := hm2
      rw [ima_ints m2] at m1
      dsimp only
      refine ⟨.ref m, rfl, m, M, rfl, SqL.of m1, fun ys p hp hso hn => ?_⟩
      have ey : ys = compL n (inn (pIn part) ls) seed := eq_comp (asc_of hso (hp.nodup_iff.mpr hM.nd)) fun y => by
        rw [hp.mem_iff]
        exact hM.all hs hpb y
      subst ey
      refine ⟨p, _, rfl, .inl ⟨SqL.of upd_same, fun t ht => ?_⟩⟩
      have gp : G τ [] H2 (upd H2 p (.lst ((compL n (inn (pIn part) ls) seed).map V.int))) := .new g2.tabs hn
      have gl : G τ [] (upd H2 p (.lst ((compL n (inn (pIn part) ls) seed).map V.int))) (upd (upd H2 p (.lst ((compL n (inn (pIn part) ls) seed).map V.int))) t (.tup ((compL n (inn (pIn part) ls) seed).map V.int))) := .new gp.tabs ht
      exact q _ _ ((g2.trans gp).trans gl) (.tup (SqT.of upd_same) (ints_ima _))
end
end K02
namespace K02
open PySem PySem.Spec PyProof.Rows L2 LamX NdefX Clo LRev U Gr
section
variable {P : Program} {w : World} {K : PySem.W.Frag} {mg : Str → Option Value} {base : Heap} {τ : TL}
/-! ### parted -/
theorem asc_of_asc : ∀ {l : List Int}, ascends l = true → Asc l
  | [], _ => .nil
  | [a], _ => by simp
  | a :: b :: r, h => by
    have h' : (decide (a < b) && ascends (b :: r)) = true := h
    rw [Bool.and_eq_true] at h'
    have ih := asc_of_asc h'.2
    have hab : a < b := of_decide_eq_true h'.1
    refine List.pairwise_cons.mpr ⟨fun x hx => ?_, ih⟩
    rcases List.mem_cons.mp hx with rfl | hx
    · exact hab
    · have := (List.pairwise_cons.mp ih).1 x hx
      omega
theorem lot_asc {n : Int} {lot : List Int} (h : lotOk n lot = true) : Asc lot := by
  unfold lotOk at h
  rw [Bool.and_eq_true] at h
  exact asc_of_asc h.2
def leftR : List Int → Nat → List Int
  | [], _ => []
  | p :: ps, m => (if m % 2 = 0 then [p] else []) ++ leftR ps (m / 2)
open Classical in
noncomputable def mOf (S : Int → Prop) : List Int → Nat
  | [] => 0
  | p :: ps => (if S p then 0 else 1) + 2 * mOf S ps
theorem leftR_sub : ∀ {ps : List Int} {m : Nat} {x : Int}, x ∈ leftR ps m → x ∈ ps
  | [], _, _, h => h
  | p :: ps, m, x, h => by
    rcases List.mem_append.mp h with h | h
    · by_cases e : m % 2 = 0
      · rw [if_pos e] at h
        rw [List.mem_singleton.mp h]
        exact List.mem_cons_self
      · rw [if_neg e] at h
        cases h
    · exact List.mem_cons_of_mem _ (leftR_sub h)
theorem leftR_len : ∀ (ps : List Int) (m : Nat), (leftR ps m).length ≤ ps.length
  | [], _ => Nat.le_refl _
  | p :: ps, m => by
    have ih := leftR_len ps (m / 2)
    show ((if m % 2 = 0 then [p] else []) ++ leftR ps (m / 2)).length ≤ ps.length + 1
    rw [List.length_append]
    have : (if m % 2 = 0 then [p] else []).length ≤ 1 := by split <;> simp
    omega
theorem leftR_out : ∀ {ps : List Int} {m : Nat}, ps.Nodup → 1 ≤ m → m < 2 ^ ps.length → ∃ x, x ∈ ps ∧ x ∉ leftR ps m
  | [], m, _, h1, h2 => by
    simp at h2
    omega
  | p :: ps, m, nd, h1, h2 => by
    have nd1 := List.nodup_cons.mp nd
    by_cases e : m % 2 = 0
    · obtain ⟨x, hx, hn⟩ := leftR_out (ps := ps) (m := m / 2) nd1.2 (by omega) (by rw [List.length_cons, Nat.pow_succ] at h2; omega)
      refine ⟨x, List.mem_cons_of_mem _ hx, fun h => ?_⟩
      rcases List.mem_append.mp h with h | h
      · rw [if_pos e] at h
        exact nd1.1 (by rw [← List.mem_singleton.mp h]; exact hx)
      · exact hn h
    · refine ⟨p, List.mem_cons_self, fun h => ?_⟩
      rcases List.mem_append.mp h with h | h
      · rw [if_neg e] at h
        cases h
      · exact nd1.1 (leftR_sub h)
theorem mOf_lt (S : Int → Prop) : ∀ ps : List Int, mOf S ps < 2 ^ ps.length
  | [] => by simp [mOf]
  | p :: ps => by
    have ih := mOf_lt S ps
    rw [List.length_cons, Nat.pow_succ]
    unfold mOf
    split <;> omega
theorem mOf_pos (S : Int → Prop) : ∀ {ps : List Int} {x : Int}, x ∈ ps → ¬ S x → 1 ≤ mOf S ps
  | [], _, h, _ => by cases h
  | p :: ps, x, h, hs => by
    unfold mOf
    rcases List.mem_cons.mp h with rfl | h
    · rw [if_neg hs]
      omega
    · have := mOf_pos S h hs
      omega
theorem mem_leftR (S : Int → Prop) : ∀ {ps : List Int} {x : Int}, x ∈ leftR ps (mOf S ps) ↔ x ∈ ps ∧ S x
  | [], x => by simp [leftR]
  | p :: ps, x => by
    have ih := mem_leftR S (ps := ps) (x := x)
    unfold leftR mOf
    by_cases h : S p
    · rw [if_pos h, if_pos (by omega), show (0 + 2 * mOf S ps) / 2 = mOf S ps by omega, List.mem_append, ih, List.mem_singleton, List.mem_cons]
      constructor
      · rintro (rfl | h2)
        · exact ⟨.inl rfl, h⟩
        · exact ⟨.inr h2.1, h2.2⟩
      · rintro ⟨rfl | h2, h3⟩
        · exact .inl rfl
        · exact .inr ⟨h2, h3⟩
    · rw [if_neg h, if_neg (by omega), show (1 + 2 * mOf S ps) / 2 = mOf S ps by omega, List.mem_append, ih, List.mem_cons]
      constructor
      · rintro (h2 | h2)
        · cases h2
        · exact ⟨.inr h2.1, h2.2⟩
      · rintro ⟨rfl | h2, h3⟩
        · exact absurd h3 h
        · exact .inr ⟨h2, h3⟩
/-- the leaves within, parted by the number m -/
def sepd (ls : List Pr) (p0 : Int) (ps : List Int) (m : Nat) : List Pr := (ls.filter (pIn (p0 :: ps))).filter fun l => decide (l.1 ∈ p0 :: leftR ps m) != decide (l.2 ∈ p0 :: leftR ps m)
theorem sepd_nil {ls : List Pr} {p0 : Int} {ps : List Int} {m : Nat} : sepd ls p0 ps m = [] ↔ ∀ l ∈ inn (pIn (p0 :: ps)) ls, (l.1 ∈ p0 :: leftR ps m ↔ l.2 ∈ p0 :: leftR ps m) := by
  unfold sepd
  rw [List.filter_eq_nil_iff]
  constructor
  · intro h l hl
    have := h l (List.mem_filter.mpr (mem_inn.mp hl))
    by_cases a : l.1 ∈ p0 :: leftR ps m <;> by_cases b : l.2 ∈ p0 :: leftR ps m <;> simp [a, b] at this ⊢
  · intro h l hl
    have := h l (mem_inn.mpr (List.mem_filter.mp hl))
    by_cases a : l.1 ∈ p0 :: leftR ps m <;> by_cases b : l.2 ∈ p0 :: leftR ps m <;> simp [a, b] at this ⊢
theorem part_yes {n : Int} {ls : List Pr} {p0 : Int} {ps : List Int} {m : Nat} (nd : (p0 :: ps).Nodup) (h1 : 1 ≤ m) (h2 : m < 2 ^ ps.length) (h : sepd ls p0 ps m = []) : compL n (inn (pIn (p0 :: ps)) ls) p0 ≠ p0 :: ps := fun e => by
  have nd1 := List.nodup_cons.mp nd
  obtain ⟨x, hx, hn⟩ := leftR_out nd1.2 h1 h2
  have hc : x ∈ compL n (inn (pIn (p0 :: ps)) ls) p0 := by
    rw [e]
    exact List.mem_cons_of_mem _ hx
  have := (mem_comp.mp hc).2.closed (S := fun v => v ∈ p0 :: leftR ps m) (sepd_nil.mp h) List.mem_cons_self
  rcases List.mem_cons.mp this with e2 | e2
  · exact nd1.1 (by rw [← e2]; exact hx)
  · exact hn e2
theorem part_no {n : Int} {ls : List Pr} {p0 : Int} {ps : List Int} (ha : Asc (p0 :: ps)) (hb : ∀ x ∈ p0 :: ps, inI n x) (h : ∀ m : Nat, 1 ≤ m → m < 2 ^ ps.length → sepd ls p0 ps m ≠ []) : compL n (inn (pIn (p0 :: ps)) ls) p0 = p0 :: ps := by
  let S : Int → Prop := fun v => Conn (inn (pIn (p0 :: ps)) ls) p0 v
  have hS : ∀ x ∈ ps, S x := fun x hx => Classical.byContradiction fun hn => by
    refine h (mOf S ps) (mOf_pos S hx hn) (mOf_lt S ps) (sepd_nil.mpr fun l hl => ?_)
    have hp := pIn_iff.mp (mem_inn.mp hl).2
    have mem : ∀ {v}, v ∈ p0 :: ps → (v ∈ p0 :: leftR ps (mOf S ps) ↔ S v) := fun {v} hv => by
      constructor
      · intro q
        rcases List.mem_cons.mp q with e | q
        · rw [e]
          exact .here
        · exact ((mem_leftR S).mp q).2
      · intro q
        rcases List.mem_cons.mp hv with e | hv
        · rw [e]
          exact List.mem_cons_self
        · exact List.mem_cons_of_mem _ ((mem_leftR S).mpr ⟨hv, q⟩)
    rw [mem hp.1, mem hp.2]
    exact ⟨fun q => .step q (.inl hl), fun q => .step q (.inr hl)⟩
  refine (eq_comp ha fun x => ⟨fun hx => ⟨hb x hx, ?_⟩, fun q => ?_⟩).symm
  · rcases List.mem_cons.mp hx with e | hx
    · rw [e]
      exact .here
    · exact hS x hx
  · exact q.2.closed (S := fun v => v ∈ p0 :: ps) (fun l hl => by
      have hp := pIn_iff.mp (mem_inn.mp hl).2
      exact ⟨fun _ => hp.2, fun _ => hp.1⟩) List.mem_cons_self
theorem ei_neB {σ : L2.St} {H : Hp} {ta tb : TE} {i j : Bool} (ha : EvI τ K ta σ H (.bl i)) (hb : EvI τ K tb σ H (.bl j)) : EvI τ K (tOp rNe ta tb) σ H (.bl (i != j)) :=
  ei_op ha hb fun H1 g1 v w hv hw Q q => by
    rw [im_bl hv, im_bl hw]
    refine ⟨by cases i <;> cases j <;> rfl, q _ H1 (.refl g1.tabs) ?_⟩
    rw [show (!decide (V.bl i = V.bl j)) = (i != j) by cases i <;> cases j <;> rfl]
    exact .bl _
theorem s_forR2 {σ : L2.St} {H : Hp} {tu : TS} {Dn : Ends} {j : Nat} {lo n : Int} {ta : TA} (tb : Tabs τ H) (h : EvA τ K ta σ H [.int lo, .int n]) (hn : n ≤ 1000000) (hlo : 0 ≤ lo ∧ lo ≤ 1000000) (Pv : Nat → L2.St → Hp → Prop) (h0 : ∀ H1, G τ [] H H1 → Pv 0 σ H1)
    (hs : ∀ (i : Nat) σ' H', lo + (i : Int) < n → Pv i σ' H' → tu { Dn with nx := Pv (i + 1), ct := Pv (i + 1), bk := Dn.nx } (σ'.set j (some (.int (lo + (i : Int))))) H') (hd : ∀ σ' H', Pv (n - lo).toNat σ' H' → Dn.nx σ' H') (hl : -(2 ^ 62) ≤ n := by omega) : tFor (iRng2 ta) (gName j) tu Dn σ H :=
  h H (.refl tb) _ fun ws H1 g1 hws => by
    have e1 : ws = [.int lo, .int n] := ima_ints (ns := [lo, n]) hws
    exact ⟨lo, n, e1, ⟨by omega, by omega, hl, by omega⟩, for_range (lo := lo) (n := (n - lo).toNat) Pv (h0 H1 g1) (fun i σ' H' hi p => hs i σ' H' (by omega) p) hd⟩
def FParted (ds : List D) (r : D) : Prop := ∃ n ls p0 ps, ds = [hD n ls, .tup ((p0 :: ps).map D.int)] ∧ Asc (p0 :: ps) ∧ (∀ x ∈ p0 :: ps, inI n x) ∧ ps.length ≤ 10 ∧ ls.length ≤ 1000 ∧ r = .bl (!decide (compL n (inn (pIn (p0 :: ps)) ls) p0 = p0 :: ps))
theorem ok__law_parted (T : Txt K mg) : FnOk P w K mg base L2.CX0 1 T._law_parted.f T._law_parted.fd ["_law_pile", "_law_part"] (spF τ K FParted) := by
  refine T._law_parted.F.ok sc__law_parted (fun vs H Q E h => ?_) (fun cdv A outer s H vs Q E hr h => ?_)
  · obtain ⟨ds, r, h1, _, ⟨_, _, _, _, rfl, _⟩, _⟩ := h
    exact h1.length
  · obtain ⟨ds, r, hv, tb, ⟨n, ls, p0, ps, rfl, ha, hb, lp, hl, rfl⟩, q⟩ := h
    obtain ⟨y, x, rfl, h0, h1⟩ := ima2 hv
    refine ⟨_, (pss_cons (ps_setLc (i := 2) (own := [("_law_pair", 9)]) (g := (gName 9)) (tt := _) rfl sc__law_parted.nd rfl rfl (sw_true rfl rfl rfl (by decide +kernel)) (pi_tup (pe_ix (r := rIx K) ix_seq (pv 0) pe_int (fun _ _ => rfl))) (blkOk_by (own := [("_law_pair", 9)]) (N := ["_law_pile", "_law_part", "_law_inner", "_law_halves", "_law_k", "_law_number", "_law_left", "_law_rest", "_law_between", "_law_pair"]) (sc := defScope s__law_parted) (by decide +kernel)) (fun _ _ _ _ _ => (pg_name (i := 9) sc__law_parted.nd rfl (by first | exact .inl rfl | exact .inr rfl))) (fun _ _ _ _ _ => pts_one (PW.pt (pw_and (pt_cmpR (r := rIn K false) op_in_seq (pe_ix (r := rIx K) ix_seq (pv 9) pe_int (fun _ _ => rfl)) (pv 1) (by rfl)) (pw_and1 (pt_cmpR (r := rIn K false) op_in_seq (pe_ix (r := rIx K) ix_seq (pv 9) pe_int (fun _ _ => rfl)) (pv 1) (by rfl)))))) (fun _ _ _ _ _ => (pv 9)))
      (pss_cons (ps_set (i := 3) sc__law_parted.nd rfl (by first | exact .inl rfl | exact .inr rfl) pe_int)
      (pss_cons (ps_for PassesOwn.never rfl (pi_range1 (by rfl) T.z_range (pa_cons (pe_op op_sub (pe_callB (r := rLenQ K) call_len_seq (by rfl) T.z_len (by decide +kernel) (pa_cons (pv 1) pa_nil)) pe_int) pa_nil)) (pg_name (i := 4) sc__law_parted.nd rfl (by first | exact .inl rfl | exact .inr rfl)) (pss_one (ps_set (i := 3) sc__law_parted.nd rfl (by first | exact .inl rfl | exact .inr rfl) (pe_op op_mul (pv 3) pe_int))))
      (pss_cons (ps_for PassesOwn.never rfl (pi_range2 (by rfl) T.z_range (pa_cons pe_int (pa_cons (pv 3) pa_nil))) (pg_name (i := 5) sc__law_parted.nd rfl (by first | exact .inl rfl | exact .inr rfl)) (pss_cons (ps_set (i := 6) sc__law_parted.nd rfl (by first | exact .inl rfl | exact .inr rfl) (pe_lst (pa_cons (pe_ix (r := rIx K) ix_seq (pv 1) pe_int (fun _ _ => rfl)) pa_nil)))
      (pss_cons (ps_set (i := 7) sc__law_parted.nd rfl (by first | exact .inl rfl | exact .inr rfl) (pv 5))
      (pss_cons (ps_for PassesOwn.never rfl (pi_range2 (by rfl) T.z_range (pa_cons pe_int (pa_cons (pe_callB (r := rLenQ K) call_len_seq (by rfl) T.z_len (by decide +kernel) (pa_cons (pv 1) pa_nil)) pa_nil))) (pg_name (i := 4) sc__law_parted.nd rfl (by first | exact .inl rfl | exact .inr rfl)) (Evl.pss_cut (ps_if (pt_cmpR op_eq (pe_op op_mod (pe_callTy call_int1 (by rfl) T.z_int (by decide +kernel) (pa_cons (pv 7) pa_nil)) pe_int) pe_int (nomark _)) (pss_one (ps_expr (pe_bm PySem.F.plainAttrs_list PySem.F.slot_list_append PySem.F.type_list_append mt_append (pv 6) (pa_cons (pe_ix (r := rIx K) ix_seq (pv 1) (pv 4) (fun _ _ => rfl)) pa_nil)))) pss_nil)
      (pss_one (ps_set (i := 7) sc__law_parted.nd rfl (by first | exact .inl rfl | exact .inr rfl) (pe_op op_fdiv (pv 7) pe_int)))))
      (pss_cons (ps_setLc (i := 8) (own := [("_law_pair", 9)]) (g := (gName 9)) (tt := _) rfl sc__law_parted.nd rfl rfl (sw_true rfl rfl rfl (by decide +kernel)) (pi_list (pv 2)) (blkOk_by (own := [("_law_pair", 9)]) (N := ["_law_pile", "_law_part", "_law_inner", "_law_halves", "_law_k", "_law_number", "_law_left", "_law_rest", "_law_between", "_law_pair"]) (sc := defScope s__law_parted) (by decide +kernel)) (fun _ _ _ _ _ => (pg_name (i := 9) sc__law_parted.nd rfl (by first | exact .inl rfl | exact .inr rfl))) (fun _ _ _ _ _ => pts_one (pt_cmpR op_ne (pe_cmpR (r := rIn K false) op_in_seq (pe_ix (r := rIx K) ix_seq (pv 9) pe_int (fun _ _ => rfl)) (pv 6) (by rfl)) (pe_cmpR (r := rIn K false) op_in_seq (pe_ix (r := rIx K) ix_seq (pv 9) pe_int (fun _ _ => rfl)) (pv 6) (by rfl)) (nomark _))) (fun _ _ _ _ _ => (pv 9)))
      (pss_one (ps_if (pt_cmpR op_eq (pe_callB (r := rLenQ K) call_len_seq (by rfl) T.z_len (by decide +kernel) (pa_cons (pv 8) pa_nil)) pe_int (nomark _)) (pss_one (ps_ret pe_bl)) pss_nil)))))))
      (pss_one (ps_ret pe_bl)))))), ?_⟩
    have hll : (ls.map prD).length = ls.length := List.length_map ..
    have lP : ((p0 :: ps).map D.int).length = ps.length + 1 := by rw [List.length_map, List.length_cons]
    have nd : (p0 :: ps).Nodup := ha.nodup
    -- inner
    refine s_asgN (K := K) (ds := (ls.filter (pIn (p0 :: ps))).map prD) tb (en_is (en_lcT (fun k => pIn (p0 :: ps) (ls.getD k (0, 0))) (fun k => prD (ls.getD k (0, 0))) (ei_ixT (ei_var (i := 0) rfl h0) ei_i rfl) (by omega) (fun _ => rfl) (fun k d z' H3 g3 hd hm => ?_) fun k d z' H3 g3 hd hm _ => ?_) (by rw [hll]; exact outs_pr _ ls)) fun inr H1 g1 ni hi => ?_
    · have hk := (List.getElem?_eq_some_iff.mp hd).1
      rw [hll] at hk
      rw [List.getElem?_map, getD_of (z := ((0, 0) : Pr)) hk] at hd
      cases hd
      refine et_is (et_and (et_test (K := K) (ei_yinB (j := 1) (ei_ixT (ei_var (i := 9) rfl hm) ei_i rfl) rfl (.inl (h1.up g3)))) fun _ => et_test (K := K) (ei_yinB (j := 1) (ei_ixT (ei_var (i := 9) rfl hm) ei_i rfl) rfl (.inl (h1.up g3)))) ?_
      unfold pIn pCross
      cases decide ((ls.getD k (0, 0)).1 ∈ p0 :: ps) <;> cases decide ((ls.getD k (0, 0)).2 ∈ p0 :: ps) <;> rfl
    · have hk := (List.getElem?_eq_some_iff.mp hd).1
      rw [hll] at hk
      rw [List.getElem?_map, getD_of (z := ((0, 0) : Pr)) hk] at hd
      cases hd
      exact ei_var (i := 9) rfl hm
    -- halves
    dsimp only
    refine s_asgZ (K := K) (n := 1) g1.tabs ei_i fun H2 g2 => ?_
    have g12 := g1.trans g2
    have pw : ∀ k, k ≤ ps.length → (2 ^ k : Nat) ≤ 1024 := fun k hk => Nat.le_trans (Nat.pow_le_pow_right (by decide) (show k ≤ 10 by omega)) (by decide)
    refine s_forR (K := K) (n := (ps.length : Int)) g2.tabs (ea_cons (ei_is (ei_sub (ei_lenT (ei_var (i := 1) rfl (h1.up g12))) ei_i) (by rw [lP]; congr 1; omega)) ea_nil) (by omega)
      (fun k σ H' => ∃ (v4 : Option V), σ = [some y, some x, some (.ref inr), some (.int ((2 ^ k : Nat) : Int)), v4, none, none, none, none, none] ∧ G τ [] H1 H') (fun H3 g3 => ⟨none, rfl, g2.trans g3⟩) (fun k σ H3 hk hP => ?_) fun σ H3 hP => ?_
    · obtain ⟨v4, rfl, g3⟩ := hP
      have := pw k (by omega)
      refine s_asgZ (K := K) (n := ((2 ^ (k + 1) : Nat) : Int)) g3.tabs (ei_is (ei_mul (ei_var (i := 3) rfl (.int _)) ei_i (.inr (by decide))) (by rw [Nat.pow_succ]; congr 1)) fun H4 g4 => ⟨_, rfl, g3.trans g4⟩
    obtain ⟨v4, rfl, g3⟩ := hP
    rw [Int.toNat_natCast]
    have hhalf := pw ps.length (Nat.le_refl _)
    generalize ehf : 2 ^ ps.length = hf at hhalf ⊢
    dsimp only
    refine s_forR2 (K := K) (lo := 1) (n := (hf : Int)) g3.tabs (ea_cons ei_i (ea_cons (ei_var (i := 3) rfl (.int _)) ea_nil)) (by omega) ⟨by decide, by decide⟩
      (fun i σ H' => ∃ (v4 v5 v6 v7 v8 : Option V), σ = [some y, some x, some (.ref inr), some (.int (hf : Int)), v4, v5, v6, v7, v8, none] ∧ G τ [] H1 H' ∧ ∀ m : Nat, 1 ≤ m → m < 1 + i → sepd ls p0 ps m ≠ []) (fun H4 g4 => ?_) (fun i σ H4 hi' hP => ?_) fun σ H4 hP => ?_
    · exact ⟨_, _, _, _, _, rfl, g3.trans g4, fun m h1 h2 => by omega⟩
    · obtain ⟨v4, v5, v6, v7, v8, rfl, g4, hN⟩ := hP
      have em : ((1 : Int) + (i : Int)) = ((1 + i : Nat) : Int) := by omega
      rw [em]
      generalize hm : 1 + i = m at *
      have x4 := h1.up (g1.trans g4)
      -- left
      refine s_asgN (K := K) (ds := [D.int p0]) g4.tabs (en_lst (ea_cons (ei_ixT (ei_var (i := 1) rfl x4) ei_i (at_nat (j := 0) rfl rfl)) ea_nil) (show 1 ≤ 100000 by decide)) fun lf H5 g5 nl hlf => ?_
      refine s_asgZ (K := K) (n := (m : Int)) g5.tabs (ei_var (i := 5) rfl (.int _)) fun H6 g6 => ?_
      have g46 := g4.trans (g5.trans g6)
      have Nl : Nw H1 lf := nl.back0 g4
      have lS : (((p0 :: ps).map D.int).length : Int) = (ps.length : Int) + 1 := by rw [lP]; rfl
      refine s_forR2 (K := K) (lo := 1) (n := (ps.length : Int) + 1) g6.tabs (ea_cons ei_i (ea_cons (ei_is (ei_lenT (ei_var (i := 1) rfl (h1.up (g1.trans g46)))) (by rw [lS])) ea_nil)) (by omega) ⟨by decide, by decide⟩
        (fun t σ H' => ∃ (v4 : Option V) (r : Nat) (acc : List Int), σ = [some y, some x, some (.ref inr), some (.int (hf : Int)), v4, some (.int (m : Int)), some (.ref lf), some (.int (r : Int)), v8, none] ∧ G τ [] H1 H' ∧ Ls K H' lf ((p0 :: acc).map D.int) ∧ acc ++ leftR (ps.drop t) r = leftR ps m) (fun H7 g7 => ?_) (fun t σ H7 ht hP => ?_) fun σ H7 hP => ?_
      · exact ⟨_, m, [], rfl, g46.trans g7, (hlf.up0 g6).up0 g7, rfl⟩
      · obtain ⟨v4, r, acc, rfl, g7, h7, hacc⟩ := hP
        have ht' : t < ps.length := by omega
        have ed : ps.drop t = ps.getD t 0 :: ps.drop (t + 1) := by
          rw [List.drop_eq_getElem_cons ht']
          congr 1
          have := getD_of (z := (0 : Int)) ht'
          rw [List.getElem?_eq_getElem ht'] at this
          exact Option.some.inj this
        rw [ed] at hacc
        have hac : acc ++ ((if r % 2 = 0 then [ps.getD t 0] else []) ++ leftR (ps.drop (t + 1)) (r / 2)) = leftR ps m := hacc
        have lacc : acc.length ≤ ps.length := by
          have := congrArg List.length hac
          rw [List.length_append] at this
          have := leftR_len ps m
          omega
        refine ⟨fun σ H' => ∃ (acc' : List Int), σ = [some y, some x, some (.ref inr), some (.int (hf : Int)), some (.int (1 + (t : Int))), some (.int (m : Int)), some (.ref lf), some (.int (r : Int)), v8, none] ∧ G τ [] H1 H' ∧ Ls K H' lf ((p0 :: acc').map D.int) ∧ acc' ++ leftR (ps.drop (t + 1)) (r / 2) = leftR ps m, ?_, fun σ H8 hP => ?_⟩
        · refine s_if g7.tabs (et_test (K := K) (ei_eqI (ei_mod (ei_intI (ei_var (i := 7) rfl (.int _))) ei_i (by decide)) ei_i)) (fun e H8 g8 => ?_) fun e H8 g8 => ?_
          · have e' : (r : Int) % 2 = 0 := of_decide_eq_true e
            rw [if_pos (by omega)] at hac
            have x8 := h1.up (g1.trans (g7.trans g8))
            refine s_app (K := K) (d := .int (ps.getD t 0)) g8.tabs (ei_var (i := 6) rfl (.ptr lf)) (ei_ixT (ei_var (i := 1) rfl x8) (ei_var (i := 4) rfl (.int _)) (at_nat (j := t + 1) (by omega) ?_)) (h7.up0 g8) (by rw [List.length_map, List.length_cons]; omega) fun H9 g9 h9 => ?_
            · rw [List.map_cons, List.getElem?_cons_succ, List.getElem?_map, getD_of (z := (0 : Int)) ht']
              rfl
            · refine ⟨acc ++ [ps.getD t 0], rfl, G.less ((g7.trans g8).wide.trans g9) Nl, ?_, ?_⟩
              · have ee : (p0 :: (acc ++ [ps.getD t 0])).map D.int = (p0 :: acc).map D.int ++ [.int (ps.getD t 0)] := by simp
                rw [ee]
                exact h9
              · rw [List.append_assoc]
                exact hac
          · have e' : ¬ (r : Int) % 2 = 0 := of_decide_eq_false e
            rw [if_neg (by omega)] at hac
            exact ⟨acc, rfl, g7.trans g8, h7.up0 g8, hac⟩
        · obtain ⟨acc', rfl, g8, h8, hac'⟩ := hP
          refine s_asgZ (K := K) (n := ((r / 2 : Nat) : Int)) g8.tabs (ei_is (ei_div (ei_var (i := 7) rfl (.int _)) ei_i ⟨by decide, by decide⟩) (by congr 1)) fun H9 g9 => ?_
          exact ⟨_, r / 2, acc', rfl, g8.trans g9, h8.up0 g9, hac'⟩
      · obtain ⟨v4, r, acc, rfl, g7, h7, hacc⟩ := hP
        rw [show ((ps.length : Int) + 1 - 1).toNat = ps.length by omega, List.drop_length] at hacc
        have eacc : acc = leftR ps m := by
          rw [← hacc]
          exact (List.append_nil acc).symm
        subst eacc
        have hi7 := hi.up0 g7
        have lI : ((ls.filter (pIn (p0 :: ps))).map prD).length = (ls.filter (pIn (p0 :: ps))).length := List.length_map ..
        have lI2 : (ls.filter (pIn (p0 :: ps))).length ≤ ls.length := List.length_filter_le _ _
        have e1 : ∀ {H' : Hp} {σ : L2.St} {l : Pr} {u : V}, σ[9]? = some (some u) → Im K H' u (prD l) → EvI τ K (tOp (rIx K) (tVar 9) (tC (.int 0))) σ H' (.int l.1) := fun h g => ei_ixT (ei_var h g) ei_i rfl
        dsimp only
        refine s_asgN (K := K) (ds := (sepd ls p0 ps m).map prD) g7.tabs (en_is (en_lcL (fun k => decide (((ls.filter (pIn (p0 :: ps))).getD k (0, 0)).1 ∈ p0 :: leftR ps m) != decide (((ls.filter (pIn (p0 :: ps))).getD k (0, 0)).2 ∈ p0 :: leftR ps m)) (fun k => prD ((ls.filter (pIn (p0 :: ps))).getD k (0, 0))) (ei_var (i := 2) rfl (.ptr inr)) hi7.lr (by omega) (fun _ => rfl) (fun k d z' H8 g8 hd hm => ?_) fun k d z' H8 g8 hd hm _ => ?_) (by rw [lI]; exact outs_pr (fun l => decide (l.1 ∈ p0 :: leftR ps m) != decide (l.2 ∈ p0 :: leftR ps m)) (ls.filter (pIn (p0 :: ps))))) fun bt H8 g8 nb' hbt => ?_
        · have hk := (List.getElem?_eq_some_iff.mp hd).1
          rw [lI] at hk
          rw [List.getElem?_map, getD_of (z := ((0, 0) : Pr)) hk] at hd
          cases hd
          exact et_test (K := K) (ei_neB (ei_yinB (j := 6) (ei_ixT (ei_var (i := 9) rfl hm) ei_i rfl) rfl (.inr ⟨lf, rfl, (h7.up0 g8).lr⟩)) (ei_yinB (j := 6) (ei_ixT (ei_var (i := 9) rfl hm) ei_i rfl) rfl (.inr ⟨lf, rfl, (h7.up0 g8).lr⟩)))
        · have hk := (List.getElem?_eq_some_iff.mp hd).1
          rw [lI] at hk
          rw [List.getElem?_map, getD_of (z := ((0, 0) : Pr)) hk] at hd
          cases hd
          exact ei_var (i := 9) rfl hm
        · have hm2 : m < 2 ^ ps.length := by rw [ehf]; omega
          refine s_if g8.tabs (et_test (K := K) (ei_eqI (ei_lenL (ei_var (i := 8) rfl (.ptr bt)) hbt.lr) ei_i)) (fun e H9 g9 => ?_) fun e H9 g9 => ?_
          · have e' : (((sepd ls p0 ps m).map prD).length : Int) = 0 := of_decide_eq_true e
            rw [List.length_map] at e'
            have e2 : sepd ls p0 ps m = [] := List.length_eq_zero_iff.mp (by omega)
            refine s_ret (K := K) g9.tabs (d := .bl true) ei_b fun v H10 g10 hv => q v H10 (g1.trans (((g7.trans g8).trans g9).trans g10)) ?_
            rw [decide_eq_false (part_yes nd (by omega) hm2 e2)]
            exact hv
          · have e' : ¬ (((sepd ls p0 ps m).map prD).length : Int) = 0 := of_decide_eq_false e
            rw [List.length_map] at e'
            refine ⟨_, _, _, _, _, rfl, (g7.trans g8).trans g9, fun m' q1 q2 => ?_⟩
            by_cases hmm : m' = m
            · rw [hmm]
              intro z
              rw [z] at e'
              exact e' rfl
            · exact hN m' q1 (by omega)
    · obtain ⟨v4, v5, v6, v7, v8, rfl, g4, hN⟩ := hP
      dsimp only
      refine s_ret (K := K) g4.tabs (d := .bl false) ei_b fun v H10 g10 hv => q v H10 (g1.trans (g4.trans g10)) ?_
      rw [decide_eq_true (part_no ha hb fun m q1 q2 => hN m q1 (by rw [ehf] at q2; omega))]
      exact hv
end
end K02
namespace K02
open PySem PySem.Spec PyProof.Rows L2 LamX NdefX Clo LRev U Gr
section
variable {P : Program} {w : World} {K : PySem.W.Frag} {mg : Str → Option Value} {base : Heap} {τ : TL}
/-! ### hangs, by the law's way -/
theorem ei_le {σ : L2.St} {H : Hp} {ta tb : TE} {i j : Int} (ha : EvI τ K ta σ H (.int i)) (hb : EvI τ K tb σ H (.int j)) : EvI τ K (tOp (rI0 fun i j => .bl (decide (i ≤ j))) ta tb) σ H (.bl (decide (i ≤ j))) := ei_I0 ha hb fun _ => .bl _
theorem ei_grown {σ : L2.St} {H : Hp} {t1 t2 t3 : TE} {seed n : Int} {ls : List Pr} {part : List Int} (h1 : EvI τ K t1 σ H (hD n ls)) (h2 : EvI τ K t2 σ H (.int seed)) (h3 : Ev τ t3 σ H fun _ v H2 => Bg K H2 v part) (hs : seed ∈ part) (hp : ∀ p ∈ part, inI n p) (lp : part.length ≤ 1000) (hl : ls.length ≤ 1000) :
    EvI τ K (tCall (spGrown τ K) [] L2.E0 (tCons t1 (tCons t2 (tCons t3 tNil)))) σ H (.tup ((compL n (inn (pIn part) ls) seed).map D.int)) := fun H1 g Q q =>
  h1 H1 g _ fun v1 H2 g2 hv1 => h2 H2 (g.trans g2) _ fun v2 H3 g3 hv2 => h3 H3 ((g.trans g2).trans g3) _ fun v3 H4 g4 hv3 => by
    rw [im_int hv2]
    exact ⟨v1, v3, seed, n, ls, part, rfl, g4.tabs, (hv1.up g3).up g4, hv3, hs, hp, lp, hl, fun v H5 g5 hv => q v H5 (((g2.trans g3).trans g4).trans g5) hv⟩
theorem bg_tup {σ : L2.St} {H : Hp} {te : TE} {ns : List Int} (h : EvI τ K te σ H (.tup (ns.map D.int))) : Ev τ te σ H fun _ v H2 => Bg K H2 v ns := fun H1 g Q q => h H1 g Q fun v H2 g2 hv => q v H2 g2 (.inl hv)
theorem bg_new {σ : L2.St} {H : Hp} {te : TE} {ns : List Int} (h : EvN τ K te σ H (ns.map D.int)) : Ev τ te σ H fun _ v H2 => Bg K H2 v ns := fun H1 g Q q => h H1 g Q fun v H2 g2 hv => by
  obtain ⟨p, rfl, _, hl⟩ := hv
  exact q _ H2 g2 (.inr ⟨p, rfl, hl.lr⟩)
theorem bg_lst {σ : L2.St} {H : Hp} {te : TE} {ns : List Int} {a : Addr} (h : EvI τ K te σ H (.ptr a)) (hl : Lr K H a (ns.map D.int)) : Ev τ te σ H fun _ v H2 => Bg K H2 v ns := fun H1 g Q q => h H1 g Q fun v H2 g2 hv => by
  rw [im_ptr hv]
  exact q _ H2 g2 (.inr ⟨a, rfl, hl.up (g.trans g2)⟩)
def FHang1 (ds : List D) (r : D) : Prop := ∃ n ls lot, ds = [hD n ls, .tup (lot.map D.int)] ∧ lotOk n lot = true ∧ lot.length ≤ 10 ∧ ls.length ≤ 1000 ∧ n ≤ 60 ∧ (∀ l ∈ ls, inR n l) ∧ r = .bl true
theorem ok__law_hangs (T : Txt K mg) {c Pt : Addr} (L : Lm T base τ c Pt) : FnOk P w K mg base L2.CX0 12 T._law_hangs.f T._law_hangs.fd ["_law_pile", "_law_part"] (spF τ K FHang1) := by
  have G_hangs_together : FnOk P w K mg base L2.CX0 11 T.hangs_together.f T.hangs_together.fd _ _ := ok_hangs_together T L
  have G__law_parted : FnOk P w K mg base L2.CX0 1 T._law_parted.f T._law_parted.fd _ _ := ok__law_parted (τ := τ) T
  have G__law_grown : FnOk P w K mg base L2.CX0 1 T._law_grown.f T._law_grown.fd _ _ := ok__law_grown (τ := τ) T
  refine T._law_hangs.F.ok sc__law_hangs (fun vs H Q E h => ?_) (fun cdv A outer s H vs Q E hr h => ?_)
  · obtain ⟨ds, r, h1, _, ⟨_, _, _, rfl, _⟩, _⟩ := h
    exact h1.length
  · obtain ⟨ds, r, hv, tb, ⟨n, ls, lot, rfl, hw, hz, hl, n60, hb, rfl⟩, q⟩ := h
    obtain ⟨y, x, rfl, h0, h1⟩ := ima2 hv
    refine ⟨_, (pss_cons (ps_set (i := 2) sc__law_hangs.nd rfl (by first | exact .inl rfl | exact .inr rfl) (pc T.hangs_together G_hangs_together (hr.mono (by decide)) (by rfl) (pa_cons (pv 0) (pa_cons (pv 1) pa_nil))))
      (pss_cons (ps_if (pt_not (pt_val (pe_callB (r := rIsi K) call_isi (by rfl) T.z_isinstance (by decide +kernel) (pa_cons (pv 2) (pa_cons (pe_bltn (v := .ty "bool") (u := .type "bool") (by rfl) T.z_bool (by decide +kernel) rfl) pa_nil))))) (pss_one (ps_ret pe_bl)) pss_nil)
      (pss_cons (ps_if (pt_cmpR op_eq (pe_callB (r := rLenQ K) call_len_seq (by rfl) T.z_len (by decide +kernel) (pa_cons (pv 1) pa_nil)) pe_int (nomark _)) (pss_one (ps_ret (pe_not (pv 2)))) pss_nil)
      (pss_cons (ps_if (pt_cmpR op_le (pe_callB (r := rLenQ K) call_len_seq (by rfl) T.z_len (by decide +kernel) (pa_cons (pv 1) pa_nil)) pe_int (nomark _)) (pss_one (ps_ret (pe_cmpR op_eq (pv 2) (pe_not (pc T._law_parted G__law_parted (hr.mono (by decide)) (by rfl) (pa_cons (pv 0) (pa_cons (pv 1) pa_nil)))) (nomark _)))) pss_nil)
      (pss_one (ps_ret (pe_cmpR op_eq (pv 2) (pe_cmpR (r := rEqD K) (op_eqD hr.units) (pc T._law_grown G__law_grown (hr.mono (by decide)) (by rfl) (pa_cons (pv 0) (pa_cons (pe_ix (r := rIx K) ix_seq (pv 1) pe_int (fun _ _ => rfl)) (pa_cons (pv 1) pa_nil)))) (pv 1) (nomark _)) (nomark _)))))))), ?_⟩
    refine s_asgI (K := K) tb (ei_call (ea_cons (ei_var (i := 0) rfl h0) (ea_cons (ei_var (i := 1) rfl h1) ea_nil)) ⟨n, ls, lot, rfl, hw, by omega, hl, n60, hb, rfl⟩) fun v H1 g1 hv1 => ?_
    rw [im_bl hv1]
    refine s_if g1.tabs (et_not (et_B (K := K) (ei_isi (T' := τ) (ei_var (i := 2) rfl (.bl (hangs n ls lot))) (fun a z => by cases z) (kit_bool _)))) (fun e => by cases e) fun _ H2 g2 => ?_
    have h12 := g1.trans g2
    refine s_if g2.tabs (et_test (K := K) (ei_eqI (ei_lenT (ei_var (i := 1) rfl (h1.up h12))) ei_i)) (fun e H3 g3 => ?_) fun e H3 g3 => ?_
    · have e' : ((lot.map D.int).length : Int) = 0 := of_decide_eq_true e
      rw [List.length_map] at e'
      have e2 : lot = [] := List.length_eq_zero_iff.mp (by omega)
      refine s_ret (K := K) g3.tabs (ei_not (ei_var (i := 2) rfl (.bl _))) fun v H4 g4 hv4 => q v H4 ((h12.trans g3).trans g4) ?_
      rw [show hangs n ls lot = false by unfold hangs; rw [e2]; rfl] at hv4
      exact hv4
    · have e' : ¬ ((lot.map D.int).length : Int) = 0 := of_decide_eq_false e
      rw [List.length_map] at e'
      obtain ⟨p0, ps, rfl⟩ : ∃ p0 ps, lot = p0 :: ps := by
        cases lot with
        | nil => exact absurd rfl e'
        | cons a r => exact ⟨a, r, rfl⟩
      have eh : hangs n ls (p0 :: ps) = decide (compL n (inn (pIn (p0 :: ps)) ls) p0 = p0 :: ps) := rfl
      have h13 := h12.trans g3
      have hin : ∀ x ∈ p0 :: ps, inI n x := fun x hx => lot_in hw hx
      rw [List.length_cons] at hz
      refine s_if g3.tabs (et_test (K := K) (ei_le (ei_lenT (ei_var (i := 1) rfl (h1.up h13))) ei_i)) (fun e H4 g4 => ?_) fun e H4 g4 => ?_
      · refine s_ret (K := K) g4.tabs (ei_eqB (ei_var (i := 2) rfl (.bl _)) (ei_not (ei_call (ea_cons (ei_var (i := 0) rfl (h0.up (h13.trans g4))) (ea_cons (ei_var (i := 1) rfl (h1.up (h13.trans g4))) ea_nil)) ⟨n, ls, p0, ps, rfl, lot_asc hw, hin, by omega, hl, rfl⟩))) fun v H5 g5 hv5 => q v H5 ((h13.trans g4).trans g5) ?_
        rw [eh] at hv5
        cases hd : decide (compL n (inn (pIn (p0 :: ps)) ls) p0 = p0 :: ps) <;> rw [hd] at hv5 <;> exact hv5
      · refine s_ret (K := K) g4.tabs (ei_eqB (ei_var (i := 2) rfl (.bl _)) (ei_eqT (ei_grown (n := n) (part := p0 :: ps) (seed := p0) (ei_var (i := 0) rfl (h0.up (h13.trans g4))) (ei_ixT (ei_var (i := 1) rfl (h1.up (h13.trans g4))) ei_i (at_nat (j := 0) rfl rfl)) (bg_tup (ei_var (i := 1) rfl (h1.up (h13.trans g4)))) List.mem_cons_self hin (by rw [List.length_cons]; omega) hl) (ei_var (i := 1) rfl (h1.up (h13.trans g4))))) fun v H5 g5 hv5 => q v H5 ((h13.trans g4).trans g5) ?_
        rw [eh] at hv5
        cases hd : decide (compL n (inn (pIn (p0 :: ps)) ls) p0 = p0 :: ps) <;> rw [hd] at hv5 <;> exact hv5
end
end K02
namespace K02
open PySem PySem.Spec PyProof.Rows L2 LamX NdefX Clo LRev U Gr
section
variable {P : Program} {w : World} {K : PySem.W.Frag} {mg : Str → Option Value} {base : Heap} {τ : TL}
theorem s_unpack2 {σ : L2.St} {H : Hp} {te : TE} {i j : Nat} {d1 d2 : D} {Dn : Ends} (tb : Tabs τ H) (h : EvI τ K te σ H (.tup [d1, d2])) (k : ∀ v1 v2 H1, G τ [] H H1 → Im K H1 v1 d1 → Im K H1 v2 d2 → Dn.nx ((σ.set i (some v1)).set j (some v2)) H1) : tAsg te (gTup K 2 (gCons (gName i) (gCons (gName j) gNil))) Dn σ H :=
  h H (.refl tb) _ fun v H1 g hv => by
    obtain ⟨a, xs, rfl, h1, h2⟩ := im_tup hv
    obtain ⟨x, y, rfl, h3, h4⟩ := ima2 h2
    exact ⟨a, _, rfl, h1, rfl, x, _, rfl, y, _, rfl, rfl, k x y H1 g h3 h4⟩
theorem asc_pair : ∀ {l : List Int}, l.Pairwise (· < ·) → ascends l = true
  | [], _ => rfl
  | [_], _ => rfl
  | a :: b :: r, h => by
    have h1 := (List.pairwise_cons.mp h).1 b List.mem_cons_self
    have h2 := asc_pair (List.pairwise_cons.mp h).2
    show (decide (a < b) && ascends (b :: r)) = true
    rw [h2, decide_eq_true h1]
    rfl
theorem kb_pieces_of_heap (D : Dfn K mg "pieces_of" s_pieces_of ["heap"]) : ∀ (s : Shared) (ws : List Value), ws.length = (["heap"] : List Str).length → BindsTo s D.fd ⟨[], (["heap"] : List Str).zip ws⟩ ((["heap"] : List Str).zip (perm Value.none [0] ws)) := by
  intro s ws hl
  obtain ⟨oc, od, kV, doc, pm, an, cdv, ct, osl, e, lk, hcd⟩ := D.F.ex
  rw [e]
  match ws, hl with
  | [a], _ => exact .of_eq rfl
/-! ### pieces -/
theorem lot_of {n : Int} {l : List Int} (h : Asc l) (hb : ∀ x ∈ l, inI n x) : lotOk n l = true := by
  unfold lotOk
  rw [asc_pair h, Bool.and_true, List.all_eq_true]
  intro x hx
  have := hb x hx
  rw [decide_eq_true this.1, decide_eq_true this.2]
  rfl
theorem lot_comp (n w : Int) (ls : List Pr) : lotOk n (compL n ls w) = true := lot_of (asc_comp n w ls) fun x hx => (mem_comp.mp hx).1
theorem inn_words {n : Int} {ls : List Pr} (hb : ∀ l ∈ ls, inR n l) (v : Int) : compL n (inn (pIn (wordsI n)) ls) v = compL n ls v := comp_congr fun l => by
  rw [mem_inn, pIn_iff, mem_words, mem_words]
  exact ⟨fun h => h.1, fun h => ⟨h, hb l h⟩⟩
theorem comp_same {n v u : Int} {ls : List Pr} (h : Conn ls v u) : compL n ls u = compL n ls v := asc_ext (asc_comp ..) (asc_comp ..) fun x => by
  rw [mem_comp, mem_comp]
  exact ⟨fun q => ⟨q.1, h.trans q.2⟩, fun q => ⟨q.1, h.symm.trans q.2⟩⟩
theorem asc_head {l : List Int} (h : Asc l) {x : Int} (hx : x ∈ l) : l.getD 0 0 ≤ x := by
  cases l with
  | nil => cases hx
  | cons a r =>
    show a ≤ x
    rcases List.mem_cons.mp hx with rfl | hx
    · exact Int.le_refl _
    · exact Int.le_of_lt ((List.pairwise_cons.mp h).1 x hx)
/-- the first word of its piece -/
noncomputable abbrev Rep (n : Int) (ls : List Pr) (k : Nat) : Bool := decide ((compL n ls ((k : Nat) : Int)).getD 0 0 = ((k : Nat) : Int))
noncomputable def dueP (n : Int) (ls : List Pr) (i : Nat) : List Nat := (List.range i).filter (Rep n ls)
theorem head_mem {n v : Int} {ls : List Pr} (hv : inI n v) : (compL n ls v).getD 0 0 ∈ compL n ls v := List.mem_of_getElem? (getD_of (comp_pos hv))
/-- every word's piece has its first word -/
theorem rep_of {n v : Int} {ls : List Pr} (hv : inI n v) : ∃ k : Nat, (compL n ls v).getD 0 0 = (k : Int) ∧ (k : Int) ≤ v ∧ Rep n ls k = true ∧ Conn ls v (k : Int) := by
  have hm := head_mem (ls := ls) hv
  have hc := mem_comp.mp hm
  obtain ⟨k, ek⟩ : ∃ k : Nat, (compL n ls v).getD 0 0 = (k : Int) := ⟨((compL n ls v).getD 0 0).toNat, by have := hc.1.1; omega⟩
  rw [ek] at hc
  refine ⟨k, ek, ?_, ?_, hc.2⟩
  · rw [← ek]
    exact asc_head (asc_comp ..) (mem_comp.mpr ⟨hv, .here⟩)
  · refine decide_eq_true ?_
    rw [comp_same hc.2]
    exact ek
theorem rep_iff {n : Int} {ls : List Pr} {i : Nat} (hi : (i : Int) < n) : Rep n ls i = true ↔ ∀ k : Nat, k < i → Rep n ls k = true → ((i : Nat) : Int) ∉ compL n ls (k : Int) := by
  constructor
  · intro h k hk _ hm
    have h' : (compL n ls ((i : Nat) : Int)).getD 0 0 = ((i : Nat) : Int) := of_decide_eq_true h
    have := asc_head (asc_comp n ((i : Nat) : Int) ls) (x := (k : Int)) (mem_comp.mpr ⟨⟨by omega, by omega⟩, (mem_comp.mp hm).2.symm⟩)
    omega
  · intro h
    obtain ⟨k, e, hk, hr, hc⟩ := rep_of (ls := ls) (v := ((i : Nat) : Int)) (n := n) ⟨by omega, hi⟩
    by_cases hki : k = i
    · rw [← hki]
      exact hr
    · exact absurd (mem_comp.mpr ⟨⟨by omega, hi⟩, hc.symm⟩) (h k (by omega) hr)
theorem dueP_yes {n : Int} {ls : List Pr} {i : Nat} (h : Rep n ls i = true) : dueP n ls (i + 1) = dueP n ls i ++ [i] := by
  unfold dueP
  rw [List.range_succ, List.filter_append, List.filter_cons_of_pos h]
  rfl
theorem dueP_no {n : Int} {ls : List Pr} {i : Nat} (h : ¬ Rep n ls i = true) : dueP n ls (i + 1) = dueP n ls i := by
  unfold dueP
  rw [List.range_succ, List.filter_append, List.filter_cons_of_neg h]
  simp
theorem mem_due {n : Int} {ls : List Pr} {i k : Nat} : k ∈ dueP n ls i ↔ k < i ∧ Rep n ls k = true := by
  unfold dueP
  rw [List.mem_filter, List.mem_range]
theorem len_due (n : Int) (ls : List Pr) (i : Nat) : (dueP n ls i).length ≤ i := by
  unfold dueP
  have h := List.length_filter_le (Rep n ls) (List.range i)
  rwa [List.length_range] at h
theorem pieces_due (n : Int) (ls : List Pr) : pieces n ls = (dueP n ls n.toNat).map fun k => compL n ls ((k : Nat) : Int) := rfl
theorem piece_of {n : Int} {ls : List Pr} {t : List Int} (h : t ∈ pieces n ls) : ∃ k : Nat, (k : Int) < n ∧ Rep n ls k = true ∧ t = compL n ls ((k : Nat) : Int) := by
  rw [pieces_due] at h
  obtain ⟨k, hk, rfl⟩ := List.mem_map.mp h
  have := mem_due.mp hk
  exact ⟨k, by omega, this.2, rfl⟩
/-- a piece hangs together -/
theorem piece_hangs {n : Int} {ls : List Pr} {k : Nat} (hb : ∀ l ∈ ls, inR n l) (hk : (k : Int) < n) (hr : Rep n ls k = true) : hangs n ls (compL n ls ((k : Nat) : Int)) = true := by
  have h' : (compL n ls ((k : Nat) : Int)).getD 0 0 = ((k : Nat) : Int) := of_decide_eq_true hr
  have hp : inI n ((k : Nat) : Int) := ⟨by omega, hk⟩
  unfold hangs
  rw [h', decide_eq_false (fun e => by have := comp_pos (ls := ls) hp; rw [e] at this; exact absurd this (by decide)), decide_eq_true]
  · rfl
  · refine asc_ext (asc_comp ..) (asc_comp ..) fun x => ?_
    rw [mem_comp, mem_comp]
    constructor
    · rintro ⟨h1, h2⟩
      exact ⟨h1, h2.mono fun l hl => (mem_inn.mp hl).1⟩
    · rintro ⟨h1, h2⟩
      refine ⟨h1, ?_⟩
      clear h1
      induction h2 with
      | here => exact .here
      | @step a b ha e ih =>
        have hb' : Conn ls ((k : Nat) : Int) b := .step ha e
        have ma : a ∈ compL n ls ((k : Nat) : Int) := mem_comp.mpr ⟨ha.in hb hp, ha⟩
        have mb : b ∈ compL n ls ((k : Nat) : Int) := mem_comp.mpr ⟨hb'.in hb hp, hb'⟩
        refine .step ih ?_
        rcases e with e | e
        · exact .inl (mem_inn.mpr ⟨e, pIn_iff.mpr ⟨ma, mb⟩⟩)
        · exact .inr (mem_inn.mpr ⟨e, pIn_iff.mpr ⟨mb, ma⟩⟩)
theorem piece_gates {n : Int} {ls : List Pr} {v : Int} (hb : ∀ l ∈ ls, inR n l) : idx (pCross (compL n ls v) true false) ls = [] := by
  rw [List.eq_nil_iff_forall_not_mem]
  intro i hi
  obtain ⟨k, rfl, h1, h2⟩ := mem_idx.mp hi
  have hl : ls.getD k (0, 0) ∈ ls := List.mem_of_getElem? (getD_of h1)
  unfold pCross at h2
  rw [Bool.and_eq_true] at h2
  have m1 : (ls.getD k (0, 0)).1 ∈ compL n ls v := by simpa using h2.1
  have m2 : (ls.getD k (0, 0)).2 ∉ compL n ls v := by simpa using h2.2
  exact m2 (mem_comp.mpr ⟨(hb _ hl).2, .step (mem_comp.mp m1).2 (.inl hl)⟩)
/-- the leaves within all pieces, piece by piece -/
noncomputable def holds (n : Int) (ls : List Pr) (ts : List (List Int)) : List Int := ts.flatMap fun t => idx (pIn t) ls
theorem holds_nodup (n : Int) (ls : List Pr) : (holds n ls (pieces n ls)).Nodup := by
  unfold holds
  rw [pieces_due, List.flatMap_map]
  have asci : ∀ t, Asc (idx (pIn t) ls) := fun t => List.Pairwise.map _ (fun a b h => by omega) (List.Pairwise.filter _ List.pairwise_lt_range)
  refine List.pairwise_flatMap.mpr ⟨fun k _ => (asci _).nodup, ?_⟩
  have hd : (dueP n ls n.toNat).Pairwise (· < ·) := List.Pairwise.filter _ List.pairwise_lt_range
  refine (List.Pairwise.and_mem.mp hd).imp fun {a b} h x hx y hy e => ?_
  obtain ⟨ha, hb, hab⟩ := h
  subst e
  obtain ⟨i, e1, _, p1⟩ := mem_idx.mp hx
  obtain ⟨j, e2, _, p2⟩ := mem_idx.mp hy
  have eij : i = j := by omega
  subst eij
  have m1 := mem_comp.mp (pIn_iff.mp p1).1
  have m2 := mem_comp.mp (pIn_iff.mp p2).1
  have hc : Conn ls ((a : Nat) : Int) ((b : Nat) : Int) := m1.2.trans m2.2.symm
  have r1 : (compL n ls ((a : Nat) : Int)).getD 0 0 = ((a : Nat) : Int) := of_decide_eq_true (mem_due.mp ha).2
  have r2 : (compL n ls ((b : Nat) : Int)).getD 0 0 = ((b : Nat) : Int) := of_decide_eq_true (mem_due.mp hb).2
  rw [comp_same hc, r1] at r2
  omega
theorem mem_holds {n : Int} {ls : List Pr} (hb : ∀ l ∈ ls, inR n l) (x : Int) : x ∈ holds n ls (pieces n ls) ↔ 0 ≤ x ∧ x < (ls.length : Int) := by
  unfold holds
  rw [List.mem_flatMap]
  constructor
  · rintro ⟨t, _, hx⟩
    obtain ⟨k, rfl, h1, _⟩ := mem_idx.mp hx
    omega
  · rintro ⟨h0, h1⟩
    obtain ⟨k, rfl⟩ : ∃ k : Nat, x = (k : Int) := ⟨x.toNat, by omega⟩
    have hk : k < ls.length := by omega
    have hl : ls.getD k (0, 0) ∈ ls := List.mem_of_getElem? (getD_of hk)
    have hin := hb _ hl
    obtain ⟨r, e, hr1, hr2, hc⟩ := rep_of (ls := ls) hin.1
    have b1 := hin.1.2
    refine ⟨compL n ls ((r : Nat) : Int), ?_, mem_idx.mpr ⟨k, rfl, hk, pIn_iff.mpr ⟨mem_comp.mpr ⟨hin.1, hc.symm⟩, mem_comp.mpr ⟨hin.2, .step hc.symm (.inl hl)⟩⟩⟩⟩
    rw [pieces_due]
    exact List.mem_map.mpr ⟨r, mem_due.mpr ⟨by omega, hr2⟩, rfl⟩
theorem holds_sorted {n : Int} {ls : List Pr} (hb : ∀ l ∈ ls, inR n l) {ys : List Int} (hp : ys.Perm (holds n ls (pieces n ls))) (hs : ys.Pairwise (· ≤ ·)) : ys = wordsI (ls.length : Int) :=
  asc_ext (asc_of hs (hp.nodup_iff.mpr (holds_nodup n ls))) (asc_words _) fun x => by rw [hp.mem_iff, mem_holds hb, mem_words]
theorem en_sorted {σ : L2.St} {H : Hp} {te : TE} {a : Addr} {ns zs : List Int} (h : EvI τ K te σ H (.ptr a)) (hl : Ls K H a (ns.map D.int)) (hu : ∀ ys : List Int, ys.Perm ns → ys.Pairwise (· ≤ ·) → ys = zs) : EvN τ K (tCB (rSortedI K) (tCons te tNil)) σ H (zs.map D.int) := fun H1 g Q q =>
  h H1 g _ fun v H2 g2 hv => by
    rw [im_ptr hv]
    obtain ⟨us, h1, h2⟩ := (hl.up0 g).up0 g2
    rw [ima_ints h2] at h1
    refine ⟨a, ns, rfl, SqL.of h1, fun ys p hp hs hn => ?_⟩
    rw [hu ys hp hs]
    have gn : G τ [] H2 (upd H2 p (.lst (zs.map V.int))) := .new g2.tabs hn
    exact q _ _ (g2.trans gn) ⟨p, rfl, (Nw.of hn).back0 g2, _, upd_same, ints_ima _⟩
theorem ei_eqNN {σ : L2.St} {H : Hp} {ta tb : TE} {as bs : List Int} (ha : EvN τ K ta σ H (as.map D.int)) (hb : EvN τ K tb σ H (bs.map D.int)) : EvI τ K (tOp (rEqD K) ta tb) σ H (.bl (decide (as = bs))) := fun H1 g Q q =>
  ha H1 g _ fun v H2 g2 hv => hb H2 (g.trans g2) _ fun u H3 g3 hu => by
    obtain ⟨p, rfl, _, hp⟩ := hv
    obtain ⟨p', rfl, _, hp'⟩ := hu
    have dp : ∀ {p : Addr} {as : List Int}, Ls K H3 p (as.map D.int) → Dp K H3 (.ref p) (.list (as.map PyData.int)) := fun {p as} h => by
      obtain ⟨xs, h1, h2⟩ := h
      rw [ima_ints h2] at h1
      exact .lst (SqL.of h1) (dp_ints as)
    refine ⟨_, _, dp (hp.up0 g3), dp hp', shaped_lst as, shaped_lst bs, ?_⟩
    rw [show PyData.eqv (.list (as.map PyData.int)) (.list (bs.map PyData.int)) = decide (as = bs) by simp [PyData.eqv, eqv_ints]]
    exact q _ H3 (g2.trans g3) (.bl _)
end
end K02
namespace K02
open PySem PySem.Spec PyProof.Rows L2 LamX NdefX Clo LRev U Gr
section
variable {P : Program} {w : World} {K : PySem.W.Frag} {mg : Str → Option Value} {base : Heap} {τ : TL}
theorem s_ext {σ : L2.St} {H : Hp} {te tr : TE} {p : Addr} {ds es : List D} {Dn : Ends} (tb : Tabs τ H) (hr : EvI τ K tr σ H (.ptr p)) (h : EvN τ K te σ H es) (hp : Ls K H p ds) (hz : ds.length + es.length < 1000000) (k : ∀ H1, G τ [p] H H1 → Ls K H1 p (ds ++ es) → Dn.nx σ H1) : tDrop (tBM K "list" rExtend tr (tCons te tNil)) Dn σ H :=
  hr H (.refl tb) _ fun v H1 g1 hv => by
    rw [im_ptr hv]
    obtain ⟨vs, q1, q2⟩ := hp.up0 g1
    refine ⟨.inl ⟨rfl, _, SqL.of q1⟩, h H1 g1 _ fun w H2 g2 hw => ?_⟩
    obtain ⟨b, rfl, nb, zs, z1, z2⟩ := hw
    obtain ⟨vs, q1, q2⟩ := (hp.up0 g1).up0 g2
    refine ⟨p, b, vs, zs, rfl, rfl, q1, z1, Nat.le_of_lt (Nat.lt_of_le_of_lt (Nat.le_of_eq (by rw [q2.length, z2.length])) (Nat.lt_of_lt_of_le hz (by decide))), k _ ((g1.trans g2).wide.put (.inl (by simp)) q1) ⟨vs ++ zs, upd_same, (q2.append z2).putH q1⟩⟩
theorem ei_isnB {σ : L2.St} {H : Hp} {ta tb : TE} {i j : Bool} (ha : EvI τ K ta σ H (.bl i)) (hb : EvI τ K tb σ H (.bl j)) : EvI τ K (tOp (fun x y H Q => ∃ a b, x = .bl a ∧ y = .bl b ∧ Q (.bl (!decide (a = b))) H) ta tb) σ H (.bl (!decide (i = j))) :=
  ei_op ha hb fun H1 g1 v w hv hw Q q => ⟨i, j, im_bl hv, im_bl hw, q _ H1 (.refl g1.tabs) (.bl _)⟩
theorem take_nx {α : Type} {ls : List α} {i : Nat} {l : α} (h : ls[i]? = some l) : ls.take (i + 1) = ls.take i ++ [l] := by
  rw [List.take_succ, h]
  rfl
theorem holds_len (n : Int) (ls : List Pr) : ∀ ts : List (List Int), (holds n ls ts).length ≤ ts.length * ls.length
  | [] => Nat.zero_le _
  | t :: ts => by
    have ih := holds_len n ls ts
    have h := len_idx (pIn t) ls
    have e : (holds n ls (t :: ts)).length = (idx (pIn t) ls).length + (holds n ls ts).length := by
      unfold holds
      rw [List.flatMap_cons, List.length_append]
    rw [e, List.length_cons, Nat.succ_mul]
    omega
theorem holds_app (n : Int) (ls : List Pr) (ts : List (List Int)) (t : List Int) : holds n ls (ts ++ [t]) = holds n ls ts ++ idx (pIn t) ls := by
  unfold holds
  rw [List.flatMap_append]
  simp
def FTrue2 (ds : List D) (r : D) : Prop := ∃ (n : Int) (ls : List Pr), ds = [hD n ls] ∧ 1 ≤ n ∧ n ≤ 10 ∧ ls.length ≤ 200 ∧ (∀ l ∈ ls, inR n l) ∧ r = .bl true
noncomputable abbrev cD (n : Int) (ls : List Pr) (k : Nat) : D := .tup ((compL n ls ((k : Nat) : Int)).map D.int)
theorem ok__law_pieces (T : Txt K mg) {c Pt : Addr} (L : Lm T base τ c Pt) : FnOk P w K mg base L2.CX0 12 T._law_pieces.f T._law_pieces.fd ["_law_pile"] (spF τ K FTrue2) := by
  have G__law_same : FnOk P w K mg base L2.CX0 3 T._law_same.f T._law_same.fd _ _ := ok__law_same (τ := τ) T 3
  have G_hangs_together : FnOk P w K mg base L2.CX0 11 T.hangs_together.f T.hangs_together.fd _ _ := ok_hangs_together T L
  have G__law_grown : FnOk P w K mg base L2.CX0 1 T._law_grown.f T._law_grown.fd _ _ := ok__law_grown (τ := τ) T
  have G_pieces_of : FnOk P w K mg base L2.CX0 2 T.pieces_of.f T.pieces_of.fd _ _ := ok_pieces_of (τ := τ) T
  have G_within : FnOk P w K mg base L2.CX0 10 T.within.f T.within.fd _ _ := ok_within T L
  have G_gates_of : FnOk P w K mg base L2.CX0 11 T.gates_of.f T.gates_of.fd _ _ := ok_gates_of T L
  refine T._law_pieces.F.ok sc__law_pieces (fun vs H Q E h => ?_) (fun cdv A outer s H vs Q E hr h => ?_)
  · obtain ⟨ds, r, h1, _, ⟨_, _, rfl, _⟩, _⟩ := h
    exact h1.length
  · obtain ⟨ds, r, hv, tb, ⟨n, ls, rfl, n0, n1, l1, hb, rfl⟩, q⟩ := h
    obtain ⟨x, rfl, hx⟩ := ima1 hv
    refine ⟨_, (pss_cons (ps_asg (pv 0) (pg_tup rfl (pgs_cons (pg_name (i := 6) sc__law_pieces.nd rfl (by first | exact .inl rfl | exact .inr rfl)) (pgs_cons (pg_name (i := 7) sc__law_pieces.nd rfl (by first | exact .inl rfl | exact .inr rfl)) pgs_nil))))
      (pss_cons (ps_set (i := 1) sc__law_pieces.nd rfl (by first | exact .inl rfl | exact .inr rfl) (pe_lst pa_nil))
      (pss_cons (ps_for PassesOwn.never rfl (pi_range1 (by rfl) T.z_range (pa_cons (pv 6) pa_nil)) (pg_name (i := 2) sc__law_pieces.nd rfl (by first | exact .inl rfl | exact .inr rfl)) (pss_one (ps_if (pt_cmpR op_eq (pe_callB (r := rLenQ K) call_len_seq (by rfl) T.z_len (by decide +kernel) (pa_cons (pe_lc (own := [("_law_part", 5)]) (g := (gName 5)) (tt := _) rfl sc__law_pieces.nd (pi_list (pv 1)) (blkOk_by (own := [("_law_part", 5)]) (N := ["_law_pile", "_law_due", "_law_w", "_law_told", "_law_holders", "_law_part", "_law_size", "_law_leaves"]) (sc := defScope s__law_pieces) (by decide +kernel)) (fun _ _ _ _ _ => (pg_name (i := 5) sc__law_pieces.nd rfl (by first | exact .inl rfl | exact .inr rfl))) (fun _ _ _ _ _ => pts_one (pt_cmpR (r := rIn K false) op_in_seq (pv 2) (pv 5) (by rfl))) (fun _ _ _ _ _ => (pv 5))) pa_nil)) pe_int (nomark _)) (pss_one (ps_expr (pe_bm PySem.F.plainAttrs_list PySem.F.slot_list_append PySem.F.type_list_append mt_append (pv 1) (pa_cons (pc T._law_grown G__law_grown (hr.mono (by decide)) (by rfl) (pa_cons (pv 0) (pa_cons (pv 2) (pa_cons (pe_listRg rfl (by rfl) T.z_list (prg_1 (by rfl) T.z_range (pv 6))) pa_nil)))) pa_nil)))) pss_nil)))
      (pss_cons (ps_set (i := 3) sc__law_pieces.nd rfl (by first | exact .inl rfl | exact .inr rfl) (pck T.pieces_of G_pieces_of (hr.mono (by decide)) (by rfl) (kb_pieces_of_heap T.pieces_of) (pk_cons (pv 0) pk_nil)))
      (pss_cons (ps_if (pt_not (pt_val (pc T._law_same G__law_same (hr.mono (by decide)) (by rfl) (pa_cons (pv 3) (pa_cons (pe_callTy (r := rTupQ K) call_tuple_of (by rfl) T.z_tuple (by decide +kernel) (pa_cons (pv 1) pa_nil)) pa_nil))))) (pss_one (ps_ret pe_bl)) pss_nil)
      (pss_cons (ps_set (i := 4) sc__law_pieces.nd rfl (by first | exact .inl rfl | exact .inr rfl) (pe_lst pa_nil))
      (pss_cons (ps_for PassesOwn.never rfl (pi_tup (pv 3)) (pg_name (i := 5) sc__law_pieces.nd rfl (by first | exact .inl rfl | exact .inr rfl)) (pss_cons (ps_expr (pe_bm PySem.F.plainAttrs_list PySem.F.slot_list_extend PySem.F.type_list_extend mt_extend (pv 4) (pa_cons (pe_callTy (r := rLstQ K) call_list_of (by rfl) T.z_list (by decide +kernel) (pa_cons (pc T.within G_within (hr.mono (by decide)) (by rfl) (pa_cons (pv 0) (pa_cons (pv 5) pa_nil))) pa_nil)) pa_nil)))
      (pss_one (ps_if (PW.pt (pw_or (pt_cmpR op_isnot_bl (pc T.hangs_together G_hangs_together (hr.mono (by decide)) (by rfl) (pa_cons (pv 0) (pa_cons (pv 5) pa_nil))) pe_bl (nomark _)) (pw_or1 (pt_cmpR op_ne (pc T.gates_of G_gates_of (hr.mono (by decide)) (by rfl) (pa_cons (pv 0) (pa_cons (pv 5) pa_nil))) pe_int (nomark _))))) (pss_one (ps_ret pe_bl)) pss_nil))))
      (pss_one (ps_ret (pe_cmpR (r := rEqD K) (op_eqD hr.units) (pe_callB cr_sortedI (by rfl) T.z_sorted (by decide +kernel) (pa_cons (pv 4) pa_nil)) (pe_listRg rfl (by rfl) T.z_list (prg_1 (by rfl) T.z_range (pe_callB (r := rLenQ K) call_len_seq (by rfl) T.z_len (by decide +kernel) (pa_cons (pv 7) pa_nil)))) (nomark _))))))))))), ?_⟩
    refine s_unpack2 tb (ei_var (i := 0) rfl hx) fun v1 v2 H1 g1 hv1 hv2 => ?_
    rw [im_int hv1]
    have hx1 := hx.up g1
    have hll : (ls.map prD).length = ls.length := List.length_map ..
    refine s_asgN (K := K) (ds := []) g1.tabs (en_lst ea_nil (by decide)) fun du H2 g2 nd hd => ?_
    have Nd : Nw H1 du := nd
    have wI : ∀ {σ : L2.St} {H' : Hp}, σ[6]? = some (some (.int n)) → EvN τ K (tLstRg (tRg1 (tVar 6))) σ H' ((wordsI n).map D.int) := fun h => en_is (en_listRg1 (ei_var h (.int n)) (by omega) (by omega)) (by unfold wordsI; rw [List.map_map]; rfl)
    refine s_forR (K := K) (n := n) g2.tabs (ea_cons (ei_var (i := 6) rfl (.int n)) ea_nil) (by omega)
      (fun i σ H' => ∃ (vw : Option V), σ = [some x, some (.ref du), vw, none, none, none, some (.int n), some v2] ∧ G τ [] H1 H' ∧ Ls K H' du ((dueP n ls i).map (cD n ls))) (fun H3 g3 => ⟨none, rfl, g2.trans g3, hd.up0 g3⟩) (fun i σ H3 hi hP => ?_) fun σ H3 hP => ?_
    · obtain ⟨vw, rfl, g3, hd3⟩ := hP
      have x3 := hx1.up g3
      have ld := len_due n ls i
      have lD : ((dueP n ls i).map (cD n ls)).length = (dueP n ls i).length := List.length_map ..
      refine s_if g3.tabs (et_test (K := K) (ei_eqI (ei_lenN (en_lcL (fun k => decide (((i : Nat) : Int) ∈ compL n ls (((dueP n ls i).getD k 0 : Nat) : Int))) (fun k => cD n ls ((dueP n ls i).getD k 0)) (ei_var (i := 1) rfl (.ptr du)) hd3.lr (by omega) (fun _ => rfl) (fun k d z H4 g4 hdd hm => ?_) fun k d z H4 g4 hdd hm _ => ?_)) ei_i)) (fun e H4 g4 => ?_) fun e H4 g4 => ?_
      · have hk := (List.getElem?_eq_some_iff.mp hdd).1
        rw [lD] at hk
        rw [List.getElem?_map, getD_of (z := (0 : Nat)) hk] at hdd
        cases hdd
        exact et_test (K := K) (ei_yinB (j := 5) (ei_var (i := 2) rfl (.int _)) rfl (.inl hm))
      · have hk := (List.getElem?_eq_some_iff.mp hdd).1
        rw [lD] at hk
        rw [List.getElem?_map, getD_of (z := (0 : Nat)) hk] at hdd
        cases hdd
        exact ei_var (i := 5) rfl hm
      all_goals (
        have key : (((outs (fun k => decide (((i : Nat) : Int) ∈ compL n ls (((dueP n ls i).getD k 0 : Nat) : Int))) (fun k => cD n ls ((dueP n ls i).getD k 0)) ((dueP n ls i).map (cD n ls)).length).length : Int) = 0) ↔ Rep n ls i = true := by
          rw [rep_iff hi, lD]
          unfold outs
          rw [List.length_map]
          constructor
          · intro h k hk hr hm
            have h0 : (List.range (dueP n ls i).length).filter (fun k => decide (((i : Nat) : Int) ∈ compL n ls (((dueP n ls i).getD k 0 : Nat) : Int))) = [] := List.length_eq_zero_iff.mp (by omega)
            obtain ⟨j, hj⟩ := List.mem_iff_getElem?.mp (mem_due.mpr ⟨hk, hr⟩)
            have hjl := (List.getElem?_eq_some_iff.mp hj).1
            have ej : (dueP n ls i).getD j 0 = k := by
              have := getD_of (z := (0 : Nat)) hjl
              rw [hj] at this
              exact (Option.some.inj this).symm
            have := List.filter_eq_nil_iff.mp h0 j (List.mem_range.mpr hjl)
            rw [ej] at this
            exact this (decide_eq_true hm)
          · intro h
            have h0 : (List.range (dueP n ls i).length).filter (fun k => decide (((i : Nat) : Int) ∈ compL n ls (((dueP n ls i).getD k 0 : Nat) : Int))) = [] := List.filter_eq_nil_iff.mpr fun j hj hd => by
              have hm := mem_due.mp (List.mem_of_getElem? (getD_of (z := (0 : Nat)) (List.mem_range.mp hj)))
              exact h _ hm.1 hm.2 (of_decide_eq_true hd)
            rw [h0]
            rfl)
      · have hr' := key.mp (of_decide_eq_true e)
        have g34 := g3.trans g4
        refine s_app (K := K) (d := cD n ls i) g4.tabs (ei_var (i := 1) rfl (.ptr du)) (ei_is (ei_grown (n := n) (part := wordsI n) (seed := ((i : Nat) : Int)) (ei_var (i := 0) rfl (hx1.up g34)) (ei_var (i := 2) rfl (.int _)) (bg_new (wI rfl)) (mem_words.mpr ⟨by omega, hi⟩) (fun p hp => mem_words.mp hp) (by rw [len_words]; omega) (by omega)) (by rw [inn_words hb])) (hd3.up0 g4) (by omega) fun H5 g5 h5 => ?_
        refine ⟨_, rfl, G.less (g34.wide.trans g5) Nd, ?_⟩
        rw [dueP_yes hr', List.map_append]
        exact h5
      · have hr' : ¬ Rep n ls i = true := fun h => (of_decide_eq_false e) (key.mpr h)
        refine ⟨_, rfl, g3.trans g4, ?_⟩
        rw [dueP_no hr']
        exact hd3.up0 g4
    · obtain ⟨vw, rfl, g3, hd3⟩ := hP
      have x3 := hx1.up g3
      have eP : .tup ((dueP n ls n.toNat).map (cD n ls)) = D.tup (tsD (pieces n ls)) := by
        rw [pieces_due]
        unfold tsD
        rw [List.map_map]
        rfl
      have lP : (pieces n ls).length ≤ 10 := by
        rw [pieces_due, List.length_map]
        have := len_due n ls n.toNat
        omega
      have lpc : ∀ t ∈ pieces n ls, t.length ≤ 10 := fun t ht => by
        obtain ⟨k, _, _, rfl⟩ := piece_of ht
        have := len_comp n ((k : Nat) : Int) ls
        omega
      refine s_asgI (K := K) g3.tabs (ei_callP (ea_cons (ei_var (i := 0) rfl x3) ea_nil) rfl ⟨n, ls, rfl, by omega, by omega, by omega, hb, rfl⟩) fun tv H4 g4 htv => ?_
      have g34 := g3.trans g4
      refine s_if g4.tabs (et_not (et_B (K := K) (ei_call (ea_cons (ei_var (i := 3) rfl htv) (ea_cons (ei_is (ei_tupL (ei_var (i := 1) rfl (.ptr du)) (hd3.up0 g4).lr) eP) ea_nil)) ⟨_, rfl, oks_ts (xs := pieces n ls) (by omega) (fun t ht => by have := lpc t ht; omega), rfl⟩))) (fun e => by cases e) fun _ H5 g5 => ?_
      have g35 := g34.trans g5
      refine s_asgN (K := K) (ds := []) g5.tabs (en_lst ea_nil (by decide)) fun ho H6 g6 nh hh => ?_
      have Nh : Nw H1 ho := nh.back0 g35
      have tv6 := (htv.up g5).up g6
      dsimp only
      refine s_forGT (τ := τ) (K := K) (ds := tsD (pieces n ls)) (fun _ => True) (fun Q q => ⟨tv, rfl, q tv H6 (.refl g6.tabs) tv6 trivial⟩) (fun u j σ H' => ∃ (v5 : Option V), σ = [some x, some (.ref du), vw, some tv, some (.ref ho), v5, some (.int n), some v2] ∧ G τ [] H1 H' ∧ Ls K H' ho ((holds n ls ((pieces n ls).take j)).map D.int) ∧ Im K H' u (.tup (tsD (pieces n ls))))
        (fun u H7 g7 hu _ => ?_) (fun u j σ H7 hP => ?_) (fun u j d v σ H7 hdd hm hP => ?_) fun u σ H7 hP => ?_
      · exact ⟨_, rfl, (g35.trans g6).trans g7, hh.up0 g7, hu⟩
      · obtain ⟨_, _, _, _, h⟩ := hP
        exact h
      · obtain ⟨v5, rfl, g7, h7, hu⟩ := hP
        unfold tsD at hdd
        rw [List.getElem?_map] at hdd
        obtain ⟨t, ht, rfl⟩ := Option.map_eq_some_iff.mp hdd
        have htm := List.mem_of_getElem? ht
        obtain ⟨k, hk, hrep, et⟩ := piece_of htm
        have tok : lotOk n t = true := by rw [et]; exact lot_comp ..
        have tl := lpc t htm
        have x7 := hx1.up g7
        have hlen := holds_len n ls ((pieces n ls).take j)
        have htk : ((pieces n ls).take j).length ≤ 10 := by rw [List.length_take]; omega
        have hmul : ((pieces n ls).take j).length * ls.length ≤ 10 * 200 := Nat.mul_le_mul htk l1
        have hix := len_idx (pIn t) ls
        refine s_ext (K := K) (es := (idx (pIn t) ls).map D.int) g7.tabs (ei_var (i := 4) rfl (.ptr ho)) (en_lstT (ei_call (ea_cons (ei_var (i := 0) rfl x7) (ea_cons (ei_var (i := 5) rfl hm) ea_nil)) ⟨n, ls, t, rfl, tok, by omega, by omega, rfl⟩)) h7 (by rw [List.length_map, List.length_map]; omega) fun H8 g8 h8 => ?_
        have g18 : G τ [] H1 H8 := G.less (g7.wide.trans g8) Nh
        have x8 := hx1.up g18
        have m8 := hm.up g8
        refine s_if g8.tabs (et_or (et_test (K := K) (ei_isnB (ei_call (ea_cons (ei_var (i := 0) rfl x8) (ea_cons (ei_var (i := 5) rfl m8) ea_nil)) ⟨n, ls, t, rfl, tok, by omega, by omega, by omega, hb, rfl⟩) ei_b)) fun _ => et_test (K := K) (ei_neI (ei_call (ea_cons (ei_var (i := 0) rfl x8) (ea_cons (ei_var (i := 5) rfl m8) ea_nil)) ⟨n, ls, t, rfl, tok, by omega, by omega, rfl⟩) ei_i)) (fun e H9 g9 => ?_) fun e H9 g9 => ?_
        · exfalso
          rw [et, piece_hangs hb hk hrep, piece_gates hb] at e
          simp at e
        · refine ⟨_, rfl, g18.trans g9, ?_, (hu.up g8).up g9⟩
          rw [take_nx ht, holds_app, List.map_append]
          exact h8.up0 g9
      · obtain ⟨v5, rfl, g7, h7, hu⟩ := hP
        have lT : (tsD (pieces n ls)).length = (pieces n ls).length := List.length_map ..
        rw [lT, List.take_length] at h7
        dsimp only
        have wL : ∀ {σ : L2.St} {H' : Hp}, σ[7]? = some (some v2) → G τ [] H1 H' → EvN τ K (tLstRg (tRg1 (tCB (rLenQ K) (tCons (tVar 7) tNil)))) σ H' ((wordsI (ls.length : Int)).map D.int) := fun h g => en_is (en_listRg1 (ei_is (ei_lenT (ei_var h (hv2.up g))) (by rw [hll])) (by omega) (by omega)) (by unfold wordsI; rw [List.map_map]; rfl)
        refine s_ret (K := K) g7.tabs (ei_is (ei_eqNN (en_sorted (ei_var (i := 4) rfl (.ptr ho)) h7 fun ys hp hs => holds_sorted hb hp hs) (wL rfl g7)) (by rw [decide_eq_true rfl])) fun v H8 g8 hv8 => q v H8 (g1.trans (g7.trans g8)) hv8
end
end K02
namespace K02
open PySem PySem.Spec PyProof.Rows L2 LamX NdefX Clo LRev U Gr
section
variable {P : Program} {w : World} {K : PySem.W.Frag} {mg : Str → Option Value} {base : Heap} {τ : TL}
theorem s_forN {σ : L2.St} {H : Hp} {tu : TS} {Dn : Ends} {j : Nat} {tl : TE} {ds : List D} (tb : Tabs τ H) (h : EvN τ K tl σ H ds) (Pv : Addr → Nat → L2.St → Hp → Prop) (h0 : ∀ a H1, G τ [] H H1 → Nw H a → Ls K H1 a ds → Pv a 0 σ H1)
    (hl : ∀ a i σ' H' , Pv a i σ' H' → Lr K H' a ds) (hs : ∀ a (i : Nat) d v σ' H', ds[i]? = some d → Im K H' v d → Pv a i σ' H' → tu { Dn with nx := Pv a (i + 1), ct := Pv a (i + 1), bk := Dn.nx } (σ'.set j (some v)) H') (hd : ∀ a σ' H', Pv a ds.length σ' H' → Dn.nx σ' H') : tFor (iList K tl) (gName j) tu Dn σ H :=
  h H (.refl tb) _ fun v H1 g1 hv => by
    obtain ⟨a, rfl, na, hL⟩ := hv
    obtain ⟨xs, h1, h2⟩ := hL.lr
    refine ⟨a, rfl, ⟨xs, h1⟩, ?_⟩
    refine ⟨fun i m σ H => m = ds.length - i ∧ i ≤ ds.length ∧ Pv a i σ H, ⟨ds.length, by simp, Nat.zero_le _, h0 a H1 g1 na hL⟩, ?_⟩
    rintro i m σ' H' ⟨rfl, hi, p⟩
    obtain ⟨vs, q1, q2⟩ := hl a i σ' H' p
    have hlen := q2.length
    by_cases hlt : i < ds.length
    · refine .inr ⟨⟨vs, vs[i], q1, by simp [hlen, hlt]⟩, Pv a (i + 1), fun σ' H' p' => ⟨ds.length - (i + 1), by omega, rfl, hlt, p'⟩, fun x H2 y => ?_⟩
      obtain ⟨e, y⟩ := y
      subst e
      obtain ⟨d, d1, d2⟩ := q2.getV (y vs q1)
      exact hs a i d x σ' _ d1 d2 p
    · have e : i = ds.length := by omega
      subst e
      exact .inl ⟨⟨vs, q1, by omega⟩, hd a σ' H' p⟩
theorem kb_entering_lot_heap (D : Dfn K mg "entering" s_entering ["heap", "lot"]) : ∀ (s : Shared) (ws : List Value), ws.length = (["lot", "heap"] : List Str).length → BindsTo s D.fd ⟨[], (["lot", "heap"] : List Str).zip ws⟩ ((["heap", "lot"] : List Str).zip (perm Value.none [1, 0] ws)) := by
  intro s ws hl
  obtain ⟨oc, od, kV, doc, pm, an, cdv, ct, osl, e, lk, hcd⟩ := D.F.ex
  rw [e]
  match ws, hl with
  | [a, b], _ => exact .of_eq rfl
/-! ### counting leaves -/
def cnt (p : Pr → Bool) (ls : List Pr) : Nat := (ls.filter p).length
def b2n (b : Bool) : Nat := if b = true then 1 else 0
theorem cnt_cons (p : Pr → Bool) (l : Pr) (ls : List Pr) : cnt p (l :: ls) = b2n (p l) + cnt p ls := by
  unfold cnt b2n
  cases h : p l with
  | true =>
    rw [List.filter_cons_of_pos h, List.length_cons, if_pos rfl]
    omega
  | false =>
    rw [List.filter_cons_of_neg (by rw [h]; exact Bool.false_ne_true), if_neg Bool.false_ne_true]
    omega
theorem idx_cnt (p : Pr → Bool) (ls : List Pr) : (idx p ls).length = cnt p ls := by
  have h := congrArg List.length (outs_pr p ls)
  rw [List.length_map] at h
  unfold cnt
  rw [← h]
  unfold outs idx
  rw [List.length_map, List.length_map]
theorem cnt_congr {p r : Pr → Bool} : ∀ {ls : List Pr}, (∀ l ∈ ls, p l = r l) → cnt p ls = cnt r ls
  | [], _ => rfl
  | l :: ls, h => by rw [cnt_cons, cnt_cons, h l List.mem_cons_self, cnt_congr fun k hk => h k (List.mem_cons_of_mem _ hk)]
theorem cnt_four {p1 p2 p3 p4 p5 p6 : Pr → Bool} : ∀ {ls : List Pr}, (∀ l ∈ ls, b2n (p1 l) + b2n (p2 l) + (b2n (p3 l) + b2n (p4 l)) = b2n (p5 l) + b2n (p6 l)) → cnt p1 ls + cnt p2 ls + (cnt p3 ls + cnt p4 ls) = cnt p5 ls + cnt p6 ls
  | [], _ => rfl
  | l :: ls, h => by
    have h1 := h l List.mem_cons_self
    have ih := cnt_four (ls := ls) fun k hk => h k (List.mem_cons_of_mem _ hk)
    rw [cnt_cons, cnt_cons, cnt_cons, cnt_cons, cnt_cons, cnt_cons]
    omega
theorem cnt_two {p1 p2 p3 : Pr → Bool} : ∀ {ls : List Pr}, (∀ l ∈ ls, b2n (p1 l) + b2n (p2 l) = b2n (p3 l)) → cnt p1 ls + cnt p2 ls = cnt p3 ls
  | [], _ => rfl
  | l :: ls, h => by
    have h1 := h l List.mem_cons_self
    have ih := cnt_two (ls := ls) fun k hk => h k (List.mem_cons_of_mem _ hk)
    rw [cnt_cons, cnt_cons, cnt_cons]
    omega
theorem cnt_none : ∀ (ls : List Pr), cnt (fun _ => false) ls = 0
  | [] => rfl
  | l :: ls => by rw [cnt_cons, cnt_none ls]; rfl
/-- of all words of the part -/
theorem cnt_part (f : Pr → Int) (ls : List Pr) : ∀ {part : List Int}, part.Nodup → cnt (fun l => decide (f l ∈ part)) ls = (part.map fun w => cnt (fun l => decide (f l = w)) ls).sum
  | [], _ => by
    rw [cnt_congr (r := fun _ => false) fun l _ => by simp, cnt_none]
    rfl
  | w :: ps, nd => by
    have nd1 := List.nodup_cons.mp nd
    rw [List.map_cons, List.sum_cons, ← cnt_part f ls nd1.2]
    refine (cnt_two fun l _ => ?_).symm
    by_cases h1 : f l = w
    · have h2 : f l ∉ ps := by rw [h1]; exact nd1.1
      simp [h1, nd1.1, b2n]
    · simp [h1, b2n]
theorem sum_sub (as : List Int) (f g : Int → Nat) : (as.map fun w => ((f w : Nat) : Int) - ((g w : Nat) : Int)).sum = (((as.map f).sum : Nat) : Int) - (((as.map g).sum : Nat) : Int) := by
  induction as with
  | nil => rfl
  | cons a r ih =>
    rw [List.map_cons, List.sum_cons, ih, List.map_cons, List.sum_cons, List.map_cons, List.sum_cons]
    omega
theorem gained_eq {ls : List Pr} {part : List Int} (nd : part.Nodup) : ((idx (pCross part false true) ls).length : Int) - ((idx (pCross part true false) ls).length : Int) = (part.map fun w => ((idx (pTo w) ls).length : Int) - ((idx (pFrom w) ls).length : Int)).sum := by
  have e : (fun w => ((idx (pTo w) ls).length : Int) - ((idx (pFrom w) ls).length : Int)) = fun w => ((cnt (pTo w) ls : Nat) : Int) - ((cnt (pFrom w) ls : Nat) : Int) := by
    funext w
    rw [idx_cnt, idx_cnt]
  rw [e, sum_sub part (fun w => cnt (pTo w) ls) fun w => cnt (pFrom w) ls, idx_cnt, idx_cnt]
  have h1 := cnt_part (fun l => l.2) ls nd
  have h2 := cnt_part (fun l => l.1) ls nd
  have a1 : cnt (pCross part true true) ls + cnt (pCross part false true) ls = cnt (fun l => decide (l.2 ∈ part)) ls := cnt_two fun l _ => by
    unfold pCross
    cases decide (l.1 ∈ part) <;> cases decide (l.2 ∈ part) <;> rfl
  have a2 : cnt (pCross part true true) ls + cnt (pCross part true false) ls = cnt (fun l => decide (l.1 ∈ part)) ls := cnt_two fun l _ => by
    unfold pCross
    cases decide (l.1 ∈ part) <;> cases decide (l.2 ∈ part) <;> rfl
  have b1 : cnt (fun l => decide (l.2 ∈ part)) ls = (part.map fun w => cnt (pTo w) ls).sum := h1
  have b2 : cnt (fun l => decide (l.1 ∈ part)) ls = (part.map fun w => cnt (pFrom w) ls).sum := h2
  omega
theorem lots_eq {n : Int} {ls : List Pr} {L R : List Int} (hb : ∀ l ∈ ls, inR n l) : (idx (pCross (L.filter fun w => decide (w ∈ R)) true false) ls).length + (idx (pCross ((wordsI n).filter fun w => decide (w ∈ L) || decide (w ∈ R)) true false) ls).length + (across ls (L.filter fun w => !decide (w ∈ R)) (R.filter fun w => !decide (w ∈ L)) + across ls (R.filter fun w => !decide (w ∈ L)) (L.filter fun w => !decide (w ∈ R))) = (idx (pCross L true false) ls).length + (idx (pCross R true false) ls).length := by
  rw [idx_cnt, idx_cnt, idx_cnt, idx_cnt]
  refine cnt_four fun l hl => ?_
  have h1 := (hb l hl).1
  have h2 := (hb l hl).2
  have m1 := mem_words.mpr h1
  have m2 := mem_words.mpr h2
  unfold pCross pAcr
  by_cases a : l.1 ∈ L <;> by_cases b : l.1 ∈ R <;> by_cases c : l.2 ∈ L <;> by_cases d : l.2 ∈ R <;> simp [a, b, c, d, m1, m2, b2n]
theorem out_eq {n : Int} {ls : List Pr} {part : List Int} (hb : ∀ l ∈ ls, inR n l) : (idx (pCross part true false) ls).length = across ls part ((wordsI n).filter fun w => !decide (w ∈ part)) := by
  rw [idx_cnt]
  refine cnt_congr fun l hl => ?_
  have m2 := mem_words.mpr (hb l hl).2
  unfold pCross pAcr
  by_cases a : l.1 ∈ part <;> by_cases c : l.2 ∈ part <;> simp [a, c, m2]
theorem in_eq {ls : List Pr} {part : List Int} : (idx (pCross part true true) ls).length = across ls part part := by
  rw [idx_cnt]
  refine cnt_congr fun l hl => ?_
  unfold pCross pAcr
  cases decide (l.1 ∈ part) <;> cases decide (l.2 ∈ part) <;> rfl
theorem outs_int (p : Int → Bool) (l : List Int) : outs (fun k => p (l.getD k 0)) (fun k => .int (l.getD k 0)) l.length = (l.filter p).map D.int := by
  unfold outs
  have h : l.filter p = ((List.range l.length).map fun k => l.getD k 0).filter p := by rw [range_get l 0 fun l => l, List.map_id']
  rw [h, List.filter_map, List.map_map]
  rfl
theorem outs_words (p : Int → Bool) (n : Int) : outs (fun i => p ((i : Nat) : Int)) (fun i => .int ((i : Nat) : Int)) n.toNat = ((wordsI n).filter p).map D.int := by
  unfold outs wordsI
  rw [List.filter_map, List.map_map]
  rfl
theorem ei_sumN {σ : L2.St} {H : Hp} {te : TE} {ns : List Int} (h : EvN τ K te σ H (ns.map D.int)) : EvI τ K (tCB (rSum K) (tCons te tNil)) σ H (.int ns.sum) := fun H1 g Q q => h H1 g _ fun v H2 g2 hv => by
  obtain ⟨p, rfl, _, vs, h1, h2⟩ := hv
  rw [ima_ints h2] at h1
  exact ⟨p, ns, rfl, SqL.of h1, q _ H2 g2 (.int _)⟩
theorem ei_across {σ : L2.St} {H : Hp} {i j k : Nat} {x y z : V} {n : Int} {ls : List Pr} {as bs : List Int} (h1 : σ[i]? = some (some x)) (h2 : σ[j]? = some (some y)) (h3 : σ[k]? = some (some z)) (hx : Im K H x (hD n ls)) (hy : Bg K H y as) (hz : Bg K H z bs) (hl : ls.length ≤ 1000) : EvI τ K (tCall (spAcross τ K) [] L2.E0 (tCons (tVar i) (tCons (tVar j) (tCons (tVar k) tNil)))) σ H (.int (across ls as bs)) := fun H1 g Q q =>
  ⟨x, h1, y, h2, z, h3, x, y, z, n, ls, as, bs, rfl, g.tabs, hx.up g, hy.up g, hz.up g, hl, fun H2 g2 => q _ H2 g2 (.int _)⟩
end
end K02
namespace K02
open PySem PySem.Spec PyProof.Rows L2 LamX NdefX Clo LRev U Gr
section
variable {P : Program} {w : World} {K : PySem.W.Frag} {mg : Str → Option Value} {base : Heap} {τ : TL}
/-! ### gates -/
def FGates2 (ds : List D) (r : D) : Prop := ∃ (n : Int) (ls : List Pr) (A B : List Int), ds = [hD n ls, .tup (A.map D.int), .tup (B.map D.int)] ∧ lotOk n A = true ∧ lotOk n B = true ∧ 1 ≤ n ∧ n ≤ 10 ∧ ls.length ≤ 200 ∧ (∀ l ∈ ls, inR n l) ∧ r = .bl true
theorem lot_len {n : Int} {lot : List Int} (h : lotOk n lot = true) : lot.length ≤ n.toNat := by
  have := len_le (lot_asc h).nodup (T := wordsI n) fun x hx => mem_words.mpr (lot_in h hx)
  rwa [len_words] at this
theorem ok__law_gates (T : Txt K mg) {c Pt : Addr} (L : Lm T base τ c Pt) : FnOk P w K mg base L2.CX0 13 T._law_gates.f T._law_gates.fd ["_law_pile", "_law_left", "_law_right"] (spF τ K FGates2) := by
  have G__law_same : FnOk P w K mg base L2.CX0 3 T._law_same.f T._law_same.fd _ _ := ok__law_same (τ := τ) T 3
  have G__law_across : FnOk P w K mg base L2.CX0 1 T._law_across.f T._law_across.fd _ _ := ok__law_across (τ := τ) T
  have G__law_hangs : FnOk P w K mg base L2.CX0 12 T._law_hangs.f T._law_hangs.fd _ _ := ok__law_hangs T L
  have G_gates_of : FnOk P w K mg base L2.CX0 11 T.gates_of.f T.gates_of.fd _ _ := ok_gates_of T L
  have G_entering : FnOk P w K mg base L2.CX0 10 T.entering.f T.entering.fd _ _ := ok_entering T L
  have G_leaving : FnOk P w K mg base L2.CX0 10 T.leaving.f T.leaving.fd _ _ := ok_leaving T L
  have G_within : FnOk P w K mg base L2.CX0 10 T.within.f T.within.fd _ _ := ok_within T L
  have G_surplus_of : FnOk P w K mg base L2.CX0 7 T.surplus_of.f T.surplus_of.fd _ _ := ok_surplus_of (τ := τ) T
  refine T._law_gates.F.ok sc__law_gates (fun vs H Q E h => ?_) (fun cdv A outer s H vs Q E hr h => ?_)
  · obtain ⟨ds, r, h1, _, ⟨_, _, _, _, rfl, _⟩, _⟩ := h
    exact h1.length
  · obtain ⟨ds, r, hv, tb, ⟨n, ls, A, B, rfl, okA, okB, n0, n1, hl, hb, rfl⟩, q⟩ := h
    obtain ⟨x, a, b, rfl, hx, ha, hb'⟩ : ∃ x a b, vs = [x, a, b] ∧ Im K H x (hD n ls) ∧ Im K H a (.tup (A.map D.int)) ∧ Im K H b (.tup (B.map D.int)) := by
      cases hv with
      | cons h r =>
        obtain ⟨a, b, rfl, h1, h2⟩ := ima2 r
        exact ⟨_, a, b, rfl, h, h1, h2⟩
    refine ⟨_, (pss_cons (ps_set (i := 3) sc__law_gates.nd rfl (by first | exact .inl rfl | exact .inr rfl) (pe_callTy (r := rTupQ K) call_tuple_of (by rfl) T.z_tuple (by decide +kernel) (pa_cons (pe_lc (own := [("_law_w", 11)]) (g := (gName 11)) (tt := _) rfl sc__law_gates.nd (pi_tup (pv 1)) (blkOk_by (own := [("_law_w", 11)]) (N := ["_law_pile", "_law_left", "_law_right", "_law_both", "_law_joined_lot", "_law_only_left", "_law_only_right", "_law_over", "_law_part", "_law_outside", "_law_gained", "_law_w"]) (sc := defScope s__law_gates) (by decide +kernel)) (fun _ _ _ _ _ => (pg_name (i := 11) sc__law_gates.nd rfl (by first | exact .inl rfl | exact .inr rfl))) (fun _ _ _ _ _ => pts_one (pt_cmpR (r := rIn K false) op_in_seq (pv 11) (pv 2) (by rfl))) (fun _ _ _ _ _ => (pv 11))) pa_nil)))
      (pss_cons (ps_set (i := 4) sc__law_gates.nd rfl (by first | exact .inl rfl | exact .inr rfl) (pe_callTy (r := rTupQ K) call_tuple_of (by rfl) T.z_tuple (by decide +kernel) (pa_cons (pe_lc (own := [("_law_w", 11)]) (g := (gName 11)) (tt := _) rfl sc__law_gates.nd (pi_range1 (by rfl) T.z_range (pa_cons (pe_ix (r := rIx K) ix_seq (pv 0) pe_int (fun _ _ => rfl)) pa_nil)) (blkOk_by (own := [("_law_w", 11)]) (N := ["_law_pile", "_law_left", "_law_right", "_law_both", "_law_joined_lot", "_law_only_left", "_law_only_right", "_law_over", "_law_part", "_law_outside", "_law_gained", "_law_w"]) (sc := defScope s__law_gates) (by decide +kernel)) (fun _ _ _ _ _ => (pg_name (i := 11) sc__law_gates.nd rfl (by first | exact .inl rfl | exact .inr rfl))) (fun _ _ _ _ _ => pts_one (PW.pt (pw_or (pt_cmpR (r := rIn K false) op_in_seq (pv 11) (pv 1) (by rfl)) (pw_or1 (pt_cmpR (r := rIn K false) op_in_seq (pv 11) (pv 2) (by rfl)))))) (fun _ _ _ _ _ => (pv 11))) pa_nil)))
      (pss_cons (ps_setLc (i := 5) (own := [("_law_w", 11)]) (g := (gName 11)) (tt := _) rfl sc__law_gates.nd rfl rfl (sw_true rfl rfl rfl (by decide +kernel)) (pi_tup (pv 1)) (blkOk_by (own := [("_law_w", 11)]) (N := ["_law_pile", "_law_left", "_law_right", "_law_both", "_law_joined_lot", "_law_only_left", "_law_only_right", "_law_over", "_law_part", "_law_outside", "_law_gained", "_law_w"]) (sc := defScope s__law_gates) (by decide +kernel)) (fun _ _ _ _ _ => (pg_name (i := 11) sc__law_gates.nd rfl (by first | exact .inl rfl | exact .inr rfl))) (fun _ _ _ _ _ => pts_one (pt_cmpR (r := rIn K true) op_notIn_seq (pv 11) (pv 2) (by rfl))) (fun _ _ _ _ _ => (pv 11)))
      (pss_cons (ps_setLc (i := 6) (own := [("_law_w", 11)]) (g := (gName 11)) (tt := _) rfl sc__law_gates.nd rfl rfl (sw_true rfl rfl rfl (by decide +kernel)) (pi_tup (pv 2)) (blkOk_by (own := [("_law_w", 11)]) (N := ["_law_pile", "_law_left", "_law_right", "_law_both", "_law_joined_lot", "_law_only_left", "_law_only_right", "_law_over", "_law_part", "_law_outside", "_law_gained", "_law_w"]) (sc := defScope s__law_gates) (by decide +kernel)) (fun _ _ _ _ _ => (pg_name (i := 11) sc__law_gates.nd rfl (by first | exact .inl rfl | exact .inr rfl))) (fun _ _ _ _ _ => pts_one (pt_cmpR (r := rIn K true) op_notIn_seq (pv 11) (pv 1) (by rfl))) (fun _ _ _ _ _ => (pv 11)))
      (pss_cons (ps_set (i := 7) sc__law_gates.nd rfl (by first | exact .inl rfl | exact .inr rfl) (pe_op op_add (pc T._law_across G__law_across (hr.mono (by decide)) (by rfl) (pa_cons (pv 0) (pa_cons (pv 5) (pa_cons (pv 6) pa_nil)))) (pc T._law_across G__law_across (hr.mono (by decide)) (by rfl) (pa_cons (pv 0) (pa_cons (pv 6) (pa_cons (pv 5) pa_nil))))))
      (pss_cons (ps_if (pt_not (pt_val (pc T._law_same G__law_same (hr.mono (by decide)) (by rfl) (pa_cons (pe_op op_add (pe_op op_add (pc T.gates_of G_gates_of (hr.mono (by decide)) (by rfl) (pa_cons (pv 0) (pa_cons (pv 3) pa_nil))) (pc T.gates_of G_gates_of (hr.mono (by decide)) (by rfl) (pa_cons (pv 0) (pa_cons (pv 4) pa_nil)))) (pv 7)) (pa_cons (pe_op op_add (pc T.gates_of G_gates_of (hr.mono (by decide)) (by rfl) (pa_cons (pv 0) (pa_cons (pv 1) pa_nil))) (pc T.gates_of G_gates_of (hr.mono (by decide)) (by rfl) (pa_cons (pv 0) (pa_cons (pv 2) pa_nil)))) pa_nil))))) (pss_one (ps_ret pe_bl)) pss_nil)
      (pss_cons (ps_for PassesOwn.never rfl (pi_list (pe_lst (pa_cons (pv 1) (pa_cons (pv 2) (pa_cons (pv 3) (pa_cons (pv 4) pa_nil)))))) (pg_name (i := 8) sc__law_gates.nd rfl (by first | exact .inl rfl | exact .inr rfl)) (pss_cons (ps_setLc (i := 9) (own := [("_law_w", 11)]) (g := (gName 11)) (tt := _) rfl sc__law_gates.nd rfl rfl (sw_true rfl rfl rfl (by decide +kernel)) (pi_range1 (by rfl) T.z_range (pa_cons (pe_ix (r := rIx K) ix_seq (pv 0) pe_int (fun _ _ => rfl)) pa_nil)) (blkOk_by (own := [("_law_w", 11)]) (N := ["_law_pile", "_law_left", "_law_right", "_law_both", "_law_joined_lot", "_law_only_left", "_law_only_right", "_law_over", "_law_part", "_law_outside", "_law_gained", "_law_w"]) (sc := defScope s__law_gates) (by decide +kernel)) (fun _ _ _ _ _ => (pg_name (i := 11) sc__law_gates.nd rfl (by first | exact .inl rfl | exact .inr rfl))) (fun _ _ _ _ _ => pts_one (pt_cmpR (r := rIn K true) op_notIn_seq (pv 11) (pv 8) (by rfl))) (fun _ _ _ _ _ => (pv 11)))
      (pss_cons (ps_if (pt_not (pt_val (pc T._law_same G__law_same (hr.mono (by decide)) (by rfl) (pa_cons (pc T.gates_of G_gates_of (hr.mono (by decide)) (by rfl) (pa_cons (pv 0) (pa_cons (pv 8) pa_nil))) (pa_cons (pc T._law_across G__law_across (hr.mono (by decide)) (by rfl) (pa_cons (pv 0) (pa_cons (pv 8) (pa_cons (pv 9) pa_nil)))) pa_nil))))) (pss_one (ps_ret pe_bl)) pss_nil)
      (pss_cons (ps_set (i := 10) sc__law_gates.nd rfl (by first | exact .inl rfl | exact .inr rfl) (pe_op op_sub (pe_callB (r := rLenQ K) call_len_seq (by rfl) T.z_len (by decide +kernel) (pa_cons (pck T.entering G_entering (hr.mono (by decide)) (by rfl) (kb_entering_lot_heap T.entering) (pk_cons (pv 8) (pk_cons (pv 0) pk_nil))) pa_nil)) (pe_callB (r := rLenQ K) call_len_seq (by rfl) T.z_len (by decide +kernel) (pa_cons (pc T.leaving G_leaving (hr.mono (by decide)) (by rfl) (pa_cons (pv 0) (pa_cons (pv 8) pa_nil))) pa_nil))))
      (pss_cons (ps_if (pt_cmpR op_ne (pv 10) (pe_callB (cr_sum rfl) (by rfl) T.z_sum (by decide +kernel) (pa_cons (pe_lc (own := [("_law_w", 11)]) (g := (gName 11)) (tt := tYes) rfl sc__law_gates.nd (pi_tup (pv 8)) (blkOk_by (own := [("_law_w", 11)]) (N := ["_law_pile", "_law_left", "_law_right", "_law_both", "_law_joined_lot", "_law_only_left", "_law_only_right", "_law_over", "_law_part", "_law_outside", "_law_gained", "_law_w"]) (sc := defScope s__law_gates) (by decide +kernel)) (fun _ _ _ _ _ => (pg_name (i := 11) sc__law_gates.nd rfl (by first | exact .inl rfl | exact .inr rfl))) (fun _ _ _ _ _ => pts_nil) (fun _ _ _ _ _ => (pc T.surplus_of G_surplus_of (hr.mono (by decide)) (by rfl) (pa_cons (pv 0) (pa_cons (pv 11) pa_nil))))) pa_nil)) (nomark _)) (pss_one (ps_ret pe_bl)) pss_nil)
      (pss_one (ps_if (PW.pt (pw_or (pt_cmpR op_ne (pe_callB (r := rLenQ K) call_len_seq (by rfl) T.z_len (by decide +kernel) (pa_cons (pc T.within G_within (hr.mono (by decide)) (by rfl) (pa_cons (pv 0) (pa_cons (pv 8) pa_nil))) pa_nil)) (pc T._law_across G__law_across (hr.mono (by decide)) (by rfl) (pa_cons (pv 0) (pa_cons (pv 8) (pa_cons (pv 8) pa_nil)))) (nomark _)) (pw_or1 (pt_not (pt_val (pc T._law_hangs G__law_hangs (hr.mono (by decide)) (by rfl) (pa_cons (pv 0) (pa_cons (pv 8) pa_nil)))))))) (pss_one (ps_ret pe_bl)) pss_nil)))))))
      (pss_one (ps_ret pe_bl))))))))), ?_⟩
    have lA := lot_len okA
    have lB := lot_len okB
    have mA : ∀ (X : List Int), (X.map D.int).length = X.length := fun X => List.length_map ..
    -- a row out of a lot
    have row : ∀ {σ : L2.St} {H1 : Hp} {i : Nat} {v : V} {X : List Int} {p : Int → Bool} {t : TT}, σ[i]? = some (some v) → Im K H1 v (.tup (X.map D.int)) → X.length ≤ 1000 → (∀ x, wipe ((wipe σ [11]).set 11 (some x)) [11] = wipe σ [11]) → (∀ z, ((wipe σ [11]).set 11 (some z))[11]? = some (some z)) → (∀ (y : Int) (H2 : Hp), G τ [] H1 H2 → EvT τ t ((wipe σ [11]).set 11 (some (.int y))) H2 (p y)) → EvN τ K (tLc (iTup K (tVar i)) (gName 11) t (tVar 11) [11]) σ H1 ((X.filter p).map D.int) := fun {σ H1 i v X p t} hσ hm hlx hw hg ht => by
      refine en_is (en_lcT (fun k => p (X.getD k 0)) (fun k => .int (X.getD k 0)) (ei_var hσ hm) (by rw [mA]; omega) hw (fun k d z H2 g2 hd hz => ?_) fun k d z H2 g2 hd hz _ => ?_) (by rw [mA]; exact outs_int p X)
      · have hk := (List.getElem?_eq_some_iff.mp hd).1
        rw [mA] at hk
        rw [List.getElem?_map, getD_of (z := (0 : Int)) hk] at hd
        cases hd
        rw [im_int hz]
        exact ht _ H2 g2
      · have hk := (List.getElem?_eq_some_iff.mp hd).1
        rw [mA] at hk
        rw [List.getElem?_map, getD_of (z := (0 : Int)) hk] at hd
        cases hd
        exact ei_var (hg z) hz
    have flen : ∀ (X : List Int) (p : Int → Bool), (X.filter p).length ≤ X.length := fun X p => List.length_filter_le p X
    -- both
    refine s_asgI (K := K) (d := .tup ((A.filter fun w => decide (w ∈ B)).map D.int)) tb (ei_tupN (row (i := 1) rfl ha (by omega) (fun _ => rfl) (fun _ => rfl) fun y H2 g2 => et_test (K := K) (ei_yinB (j := 2) (ei_var (i := 11) rfl (.int y)) rfl (.inl (hb'.up g2))))) fun vb H1 g1 hvb => ?_
    -- all of both
    dsimp only
    refine s_asgI (K := K) (d := .tup (((wordsI n).filter fun w => decide (w ∈ A) || decide (w ∈ B)).map D.int)) g1.tabs (ei_tupN (en_is (en_lcR (fun i => decide (((i : Nat) : Int) ∈ A) || decide (((i : Nat) : Int) ∈ B)) (fun i => .int ((i : Nat) : Int)) (ea_cons (ei_ixT (ei_var (i := 0) rfl (hx.up g1)) ei_i rfl) ea_nil) (by omega) (fun _ => rfl) (fun i H2 g2 hi => ?_) fun i H2 g2 hi _ => ei_var (i := 11) rfl (.int _)) (outs_words (fun w => decide (w ∈ A) || decide (w ∈ B)) n))) fun vj H2 g2 hvj => ?_
    · exact et_or (et_test (K := K) (ei_yinB (j := 1) (ei_var (i := 11) rfl (.int _)) rfl (.inl ((ha.up g1).up g2)))) fun _ => et_test (K := K) (ei_yinB (j := 2) (ei_var (i := 11) rfl (.int _)) rfl (.inl ((hb'.up g1).up g2)))
    have g12 := g1.trans g2
    dsimp only
    refine s_asgN (K := K) (ds := (A.filter fun w => !decide (w ∈ B)).map D.int) g2.tabs (row (i := 1) rfl (ha.up g12) (by omega) (fun _ => rfl) (fun _ => rfl) fun y H3 g3 => et_test (K := K) (ei_ninB (j := 2) (ei_var (i := 11) rfl (.int y)) rfl (.inl ((hb'.up g12).up g3)))) fun ol H3 g3 nol hol => ?_
    have g13 := g12.trans g3
    dsimp only
    refine s_asgN (K := K) (ds := (B.filter fun w => !decide (w ∈ A)).map D.int) g3.tabs (row (i := 2) rfl (hb'.up g13) (by omega) (fun _ => rfl) (fun _ => rfl) fun y H4 g4 => et_test (K := K) (ei_ninB (j := 1) (ei_var (i := 11) rfl (.int y)) rfl (.inl ((ha.up g13).up g4)))) fun orr H4 g4 nor hor => ?_
    have g14 := g13.trans g4
    have bol : Bg K H4 (.ref ol) (A.filter fun w => !decide (w ∈ B)) := .inr ⟨ol, rfl, (hol.up0 g4).lr⟩
    have bor : Bg K H4 (.ref orr) (B.filter fun w => !decide (w ∈ A)) := .inr ⟨orr, rfl, hor.lr⟩
    have x4 := hx.up g14
    dsimp only
    refine s_asgZ (K := K) g4.tabs (ei_add (ei_across (i := 0) (j := 5) (k := 6) rfl rfl rfl x4 bol bor (by omega)) (ei_across (i := 0) (j := 6) (k := 5) rfl rfl rfl x4 bor bol (by omega))) fun H5 g5 => ?_
    have g15 := g14.trans g5
    have x5 := hx.up g15
    have okBoth : lotOk n (A.filter fun w => decide (w ∈ B)) = true := lot_of (List.Pairwise.filter _ (lot_asc okA)) fun y hy => lot_in okA (List.mem_filter.mp hy).1
    have okJoin : lotOk n ((wordsI n).filter fun w => decide (w ∈ A) || decide (w ∈ B)) = true := lot_of (List.Pairwise.filter _ (asc_words n)) fun y hy => mem_words.mp (List.mem_filter.mp hy).1
    have gt : ∀ {σ : L2.St} {H' : Hp} {i : Nat} {v : V} {X : List Int}, G τ [] H H' → σ[0]? = some (some x) → σ[i]? = some (some v) → Im K H' v (.tup (X.map D.int)) → lotOk n X = true → EvI τ K (tCall (spF τ K FGates) [] L2.E0 (tCons (tVar 0) (tCons (tVar i) tNil))) σ H' (.int ((idx (pCross X true false) ls).length : Int)) := fun {σ H' i v X} g h0 h1 hm hX => by
      have := lot_len hX
      exact ei_call (ea_cons (ei_var h0 (hx.up g)) (ea_cons (ei_var h1 hm) ea_nil)) ⟨n, ls, X, rfl, hX, by omega, by omega, rfl⟩
    have vb5 := ((hvb.up g2).up g3).up (g4.trans g5)
    have vj5 := (hvj.up g3).up (g4.trans g5)
    dsimp only
    refine s_if g5.tabs (et_not (et_B (K := K) (ei_call (ea_cons (ei_add (ei_add (gt (i := 3) g15 rfl rfl vb5 okBoth) (gt (i := 4) g15 rfl rfl vj5 okJoin)) (ei_var (i := 7) rfl (.int _))) (ea_cons (ei_is (ei_add (gt (i := 1) g15 rfl rfl (ha.up g15) okA) (gt (i := 2) g15 rfl rfl (hb'.up g15) okB)) ?_) ea_nil)) ⟨_, rfl, .inl ⟨_, rfl⟩, rfl⟩))) (fun e => by cases e) fun _ H6 g6 => ?_
    · have := lots_eq (n := n) (L := A) (R := B) hb
      congr 1
      omega
    have g16 := g15.trans g6
    dsimp only
    refine s_forN (K := K) (ds := [.tup (A.map D.int), .tup (B.map D.int), .tup ((A.filter fun w => decide (w ∈ B)).map D.int), .tup (((wordsI n).filter fun w => decide (w ∈ A) || decide (w ∈ B)).map D.int)]) g6.tabs (en_lst (ea_cons (ei_var (i := 1) rfl (ha.up g16)) (ea_cons (ei_var (i := 2) rfl (hb'.up g16)) (ea_cons (ei_var (i := 3) rfl (vb5.up g6)) (ea_cons (ei_var (i := 4) rfl (vj5.up g6)) ea_nil)))) (show 4 ≤ 100000 by decide))
      (fun m i σ H' => ∃ v8 v9 v10, σ = [some x, some a, some b, some vb, some vj, some (.ref ol), some (.ref orr), some (.int ((across ls (A.filter fun w => !decide (w ∈ B)) (B.filter fun w => !decide (w ∈ A)) : Int) + (across ls (B.filter fun w => !decide (w ∈ A)) (A.filter fun w => !decide (w ∈ B)) : Int))), v8, v9, v10, none] ∧ G τ [] H H' ∧ Ls K H' m [.tup (A.map D.int), .tup (B.map D.int), .tup ((A.filter fun w => decide (w ∈ B)).map D.int), .tup (((wordsI n).filter fun w => decide (w ∈ A) || decide (w ∈ B)).map D.int)])
      (fun m H7 g7 nm hm => ⟨_, _, _, rfl, g16.trans g7, hm⟩) (fun m i σ H7 hP => ?_) (fun m i d z σ H7 hd hz hP => ?_) fun m σ H7 hP => ?_
    · obtain ⟨_, _, _, _, _, h⟩ := hP
      exact h.lr
    · obtain ⟨v8, v9, v10, rfl, g7, hm⟩ := hP
      obtain ⟨X, rfl, okX⟩ : ∃ X : List Int, d = .tup (X.map D.int) ∧ lotOk n X = true := by
        have h := List.mem_of_getElem? hd
        rcases List.mem_cons.mp h with rfl | h
        · exact ⟨A, rfl, okA⟩
        rcases List.mem_cons.mp h with rfl | h
        · exact ⟨B, rfl, okB⟩
        rcases List.mem_cons.mp h with rfl | h
        · exact ⟨_, rfl, okBoth⟩
        · rw [List.mem_singleton.mp h]
          exact ⟨_, rfl, okJoin⟩
      have lX := lot_len okX
      -- outside
      refine s_asgN (K := K) (ds := ((wordsI n).filter fun w => !decide (w ∈ X)).map D.int) g7.tabs (en_is (en_lcR (fun i => !decide (((i : Nat) : Int) ∈ X)) (fun i => .int ((i : Nat) : Int)) (ea_cons (ei_ixT (ei_var (i := 0) rfl (hx.up g7)) ei_i rfl) ea_nil) (by omega) (fun _ => rfl) (fun i H8 g8 hi => et_test (K := K) (ei_ninB (j := 8) (ei_var (i := 11) rfl (.int _)) rfl (.inl (hz.up g8)))) fun i H8 g8 hi _ => ei_var (i := 11) rfl (.int _)) (outs_words (fun w => !decide (w ∈ X)) n)) fun ou H8 g8 nou hou => ?_
      have g78 := g7.trans g8
      have z8 := hz.up g8
      dsimp only
      refine s_if g8.tabs (et_not (et_B (K := K) (ei_call (ea_cons (gt (i := 8) g78 rfl rfl z8 okX) (ea_cons (ei_is (ei_across (i := 0) (j := 8) (k := 9) rfl rfl rfl (hx.up g78) (.inl z8) (.inr ⟨ou, rfl, hou.lr⟩) (by omega)) (by rw [out_eq (n := n) hb])) ea_nil)) ⟨_, rfl, .inl ⟨_, rfl⟩, rfl⟩))) (fun e => by cases e) fun _ H9 g9 => ?_
      have g79 := g78.trans g9
      have z9 := z8.up g9
      dsimp only
      refine s_asgZ (K := K) (n := ((idx (pCross X false true) ls).length : Int) - ((idx (pCross X true false) ls).length : Int)) g9.tabs (ei_is (ei_sub (ei_lenT (ei_callP (ea_cons (ei_var (i := 8) rfl z9) (ea_cons (ei_var (i := 0) rfl (hx.up g79)) ea_nil)) rfl ⟨n, ls, X, rfl, okX, by omega, by omega, rfl⟩)) (ei_lenT (ei_call (ea_cons (ei_var (i := 0) rfl (hx.up g79)) (ea_cons (ei_var (i := 8) rfl z9) ea_nil)) ⟨n, ls, X, rfl, okX, by omega, by omega, rfl⟩))) (by rw [mA, mA])) fun H10 g10 => ?_
      have g710 := g79.trans g10
      have z10 := z9.up g10
      have sums : EvN τ K (tLc (iTup K (tVar 8)) (gName 11) tYes (tCall (spF τ K FSur) [] L2.E0 (tCons (tVar 0) (tCons (tVar 11) tNil))) [11]) [some x, some a, some b, some vb, some vj, some (.ref ol), some (.ref orr), some (.int ((across ls (A.filter fun w => !decide (w ∈ B)) (B.filter fun w => !decide (w ∈ A)) : Int) + (across ls (B.filter fun w => !decide (w ∈ A)) (A.filter fun w => !decide (w ∈ B)) : Int))), some z, some (.ref ou), some (.int (((idx (pCross X false true) ls).length : Int) - ((idx (pCross X true false) ls).length : Int))), none] H10 ((X.map fun w => ((idx (pTo w) ls).length : Int) - ((idx (pFrom w) ls).length : Int)).map D.int) := by
        refine en_is (en_lcT (fun _ => true) (fun k => .int (((idx (pTo (X.getD k 0)) ls).length : Int) - ((idx (pFrom (X.getD k 0)) ls).length : Int))) (ei_var (i := 8) rfl z10) (by rw [mA]; omega) (fun _ => rfl) (fun _ _ _ _ _ _ _ => et_yes) fun k d u H11 g11 hd hu _ => ?_) ?_
        · have hk := (List.getElem?_eq_some_iff.mp hd).1
          rw [mA] at hk
          rw [List.getElem?_map, getD_of (z := (0 : Int)) hk] at hd
          cases hd
          have hin := lot_in okX (List.mem_of_getElem? (getD_of (z := (0 : Int)) hk))
          refine ei_call (ea_cons (ei_var (i := 0) rfl (hx.up (g710.trans g11))) (ea_cons (ei_var (i := 11) rfl hu) ea_nil)) ⟨n, ls, _, rfl, ?_, by omega, rfl⟩
          unfold inW
          rw [decide_eq_true hin.1, decide_eq_true hin.2]
          rfl
        · rw [outs_all, mA, range_get X 0 fun w => D.int (((idx (pTo w) ls).length : Int) - ((idx (pFrom w) ls).length : Int)), List.map_map]
          rfl
      dsimp only
      refine s_if g10.tabs (et_test (K := K) (ei_neI (ei_var (i := 10) rfl (.int _)) (ei_sumN sums))) (fun e H11 g11 => ?_) fun e H11 g11 => ?_
      · exfalso
        rw [decide_eq_true (gained_eq (lot_asc okX).nodup)] at e
        cases e
      have g711 := g710.trans g11
      have z11 := z10.up g11
      dsimp only
      refine s_if g11.tabs (et_or (et_test (K := K) (ei_neI (ei_lenT (ei_call (ea_cons (ei_var (i := 0) rfl (hx.up g711)) (ea_cons (ei_var (i := 8) rfl z11) ea_nil)) ⟨n, ls, X, rfl, okX, by omega, by omega, rfl⟩)) (ei_across (i := 0) (j := 8) (k := 8) rfl rfl rfl (hx.up g711) (.inl z11) (.inl z11) (by omega)))) fun _ => et_not (et_B (K := K) (ei_call (ea_cons (ei_var (i := 0) rfl (hx.up g711)) (ea_cons (ei_var (i := 8) rfl z11) ea_nil)) ⟨n, ls, X, rfl, okX, by omega, by omega, by omega, hb, rfl⟩))) (fun e H12 g12 => ?_) fun e H12 g12 => ?_
      · exfalso
        rw [mA, in_eq, decide_eq_true rfl] at e
        cases e
      · exact ⟨_, _, _, rfl, g711.trans g12, ((((hm.up0 g8).up0 g9).up0 g10).up0 g11).up0 g12⟩
    · obtain ⟨v8, v9, v10, rfl, g7, hm⟩ := hP
      dsimp only
      refine s_ret (K := K) g7.tabs (d := .bl true) ei_b fun v H8 g8 hv8 => q v H8 (g7.trans g8) hv8
end
end K02
namespace K02
open PySem PySem.Spec PyProof.Rows L2 LamX NdefX Clo LRev U Gr
section
variable {P : Program} {w : World} {K : PySem.W.Frag} {mg : Str → Option Value} {base : Heap} {τ : TL}
/-- i op pick(..) -/
theorem rn_opR {σ : L2.St} {H : Hp} {ta tb : TE} {g : Int → Int → V} {i : Int} {ms : List Addr} {A : V → Hp → Prop} (tb0 : Tabs τ H) (ha : EvI τ K ta σ H (.int i)) (hb : ∀ H1, G τ [] H H1 → Rn τ ms tb σ H1 A) (hA : ∀ z H2, A z H2 → ∃ r, z = .int r) : Rn τ ms (tOp (rI0 g) ta tb) σ H fun z H2 => ∃ r, z = g i r ∧ A (.int r) H2 := fun Q q =>
  ha H (.refl tb0) _ fun v H1 g1 hv => hb H1 g1 _ fun w H2 g2 hw => by
    obtain ⟨r, rfl⟩ := hA w H2 hw
    exact ⟨i, r, im_int hv, rfl, q _ H2 (g1.wide.trans g2) ⟨r, rfl, hw⟩⟩
/-- pick(..) == k, as a test -/
theorem rt_eq {σ : L2.St} {H : Hp} {ta : TE} {k : Int} {p : Addr} {lim : Int} {Q : Bool → Hp → Prop} (h : Rn τ [p] ta σ H fun z H2 => ∃ r, z = .int r ∧ 0 ≤ r ∧ r < lim ∧ Cl K H2 p) (q : ∀ b H2, G τ [p] H H2 → Cl K H2 p → Q b H2) : tTest (tOp rEq ta (tC (.int k))) σ H Q :=
  h _ fun z H2 g2 hz => by
    obtain ⟨r, rfl, _, _, c⟩ := hz
    exact ⟨rfl, _, rfl, q _ H2 g2 c⟩
theorem Nw.backP {H H1 : Hp} {p q : Addr} (g : G τ [p] H H1) (n : q ≠ p) (h : Nw H1 q) : Nw H q := h.back g (by simpa using n)
/-- .. how many turns is drawn, too -/
theorem rn_lcC2 {σ : L2.St} {H : Hp} {te te0 : TE} {j : Nat} {vs : List Nat} {N : Int} {p : Addr} (B : D → Prop) (hr : Rn τ [p] te0 σ H fun z H1 => ∃ n, z = .int n ∧ 0 ≤ n ∧ n ≤ N ∧ Cl K H1 p) (hN : N ≤ 1000000) (hw : ∀ x, wipe ((wipe σ vs).set j (some x)) vs = wipe σ vs)
    (he : ∀ (i : Nat) H1, G τ [p] H H1 → Cl K H1 p → Rn τ [p] te ((wipe σ vs).set j (some (.int (i : Int)))) H1 fun z H2 => ∃ d, Im K H2 z d ∧ B d ∧ Cl K H2 p) :
    Rn τ [p] (tLc (iRng1 (tCons te0 tNil)) (gName j) tYes te vs) σ H fun z H2 => ∃ q es, z = .ref q ∧ Nw H q ∧ q ≠ p ∧ Ls K H2 q es ∧ (es.length : Int) ≤ N ∧ (∀ x ∈ es, B x) ∧ Cl K H2 p := fun Q q =>
  hr _ fun z H1 g1 hz => by
    obtain ⟨n, rfl, n0, n1, c1⟩ := hz
    have r := rn_lcC (τ := τ) (K := K) (σ := σ) (H := H1) (te := te) (j := j) (vs := vs) (n := n) (ta := tCons (tC (.int n)) tNil) B (ea_cons ei_i ea_nil) (by omega) hw c1 g1.tabs (fun i H2 g2 c2 _ => he i H2 (g1.trans g2) c2) (by omega)
    refine r Q fun z H2 g2 hz => ?_
    obtain ⟨t, es, rfl, nt, ntp, ht, hl, hb, c2⟩ := hz
    exact q _ H2 (g1.trans g2) ⟨t, es, rfl, Nw.backP g1 ntp nt, ntp, ht, by omega, hb, c2⟩
/-- pick(..) + e -/
theorem rn_opL {σ : L2.St} {H : Hp} {ta tb : TE} {g : Int → Int → V} {i : Int} {ms : List Addr} {A : V → Hp → Prop} (ha : Rn τ ms ta σ H A) (hA : ∀ z H2, A z H2 → ∃ r, z = .int r) (hb : ∀ H1, G τ ms H H1 → EvI τ K tb σ H1 (.int i)) (hst : ∀ z H1 H2, A z H1 → G τ [] H1 H2 → A z H2) : Rn τ ms (tOp (rI0 g) ta tb) σ H fun z H2 => ∃ r, z = g r i ∧ A (.int r) H2 := fun Q q =>
  ha _ fun v H1 g1 hv => hb H1 g1 H1 (.refl g1.tabs) _ fun w H2 g2 hw => by
    obtain ⟨r, rfl⟩ := hA v H1 hv
    exact ⟨r, i, rfl, im_int hw, q _ H2 (g1.trans g2.wide) ⟨r, rfl, hst _ _ _ hv g2⟩⟩
theorem r_ev {σ : L2.St} {H : Hp} {te : TE} {d : D} {Q : VK} (tb : Tabs τ H) (h : EvI τ K te σ H d) (q : ∀ v H1, G τ [] H H1 → Im K H1 v d → Q v H1) : te σ H Q := h H (.refl tb) Q q
theorem Rn_imp {σ : L2.St} {H : Hp} {te : TE} {ms : List Addr} {A B : V → Hp → Prop} (h : Rn τ ms te σ H A) (i : ∀ z H2, A z H2 → B z H2) : Rn τ ms te σ H B := fun Q q => h Q fun z H2 g hz => q z H2 g (i z H2 hz)
theorem rn_tupN {σ : L2.St} {H : Hp} {te : TE} {ms : List Addr} {B : List D → Hp → Prop} (h : Rn τ ms te σ H fun z H2 => ∃ t ds, z = .ref t ∧ Ls K H2 t ds ∧ B ds H2) (hB : ∀ ds H1 H2, B ds H1 → G τ [] H1 H2 → B ds H2) : Rn τ ms (tCB (rTupQ K) (tCons te tNil)) σ H fun z H2 => ∃ ds, Im K H2 z (.tup ds) ∧ B ds H2 := fun Q q =>
  h _ fun z H2 g hz => by
    obtain ⟨t, ds, rfl, ⟨ws, h1, h2⟩, hb⟩ := hz
    refine ⟨t, ws, rfl, .inl ⟨SqL.of h1, fun l hl => ?_⟩⟩
    have gn : G τ [] H2 (upd H2 l (.tup ws)) := G.new g.tabs hl
    exact q _ _ (g.trans gn.wide) ⟨ds, .tup (SqT.of upd_same) (h2.up gn), hB _ _ _ hb gn⟩
theorem lot_filter (f : Nat → Bool) (n : Int) (hn : 0 ≤ n) : lotOk n (((List.range n.toNat).filter f).map fun i => ((i : Nat) : Int)) = true := by
  unfold lotOk
  rw [asc_pair, Bool.and_true]
  · rw [List.all_eq_true]
    intro x hx
    obtain ⟨i, hi, rfl⟩ := List.mem_map.mp hx
    have := List.mem_range.mp (List.mem_filter.mp hi).1
    rw [decide_eq_true (by omega), decide_eq_true (by omega)]
    rfl
  · refine List.Pairwise.map _ (fun a b h => ?_) (List.Pairwise.filter _ List.pairwise_lt_range)
    omega
/-- pick(..) > k, as a test -/
theorem rt_gt {σ : L2.St} {H : Hp} {ta : TE} {k : Int} {p : Addr} {lim : Int} {Q : Bool → Hp → Prop} (h : Rn τ [p] ta σ H fun z H2 => ∃ r, z = .int r ∧ 0 ≤ r ∧ r < lim ∧ Cl K H2 p) (q : ∀ b H2, G τ [p] H H2 → Cl K H2 p → Q b H2) : tTest (tOp (rI0 fun i j => .bl (decide (j < i))) ta (tC (.int k))) σ H Q :=
  h _ fun z H2 g2 hz => by
    obtain ⟨r, rfl, _, _, c⟩ := hz
    exact ⟨r, k, rfl, rfl, _, rfl, q _ H2 g2 c⟩
/-- some of a tuple's ints, by draws -/
theorem rn_lcFT {σ : L2.St} {H : Hp} {tl : TE} {tt : TT} {j : Nat} {vs : List Nat} {ns : List Int} {p : Addr} (h : EvI τ K tl σ H (.tup (ns.map D.int))) (hn : ns.length ≤ 1000000) (hw : ∀ x, wipe ((wipe σ vs).set j (some x)) vs = wipe σ vs) (hg : ∀ z, ((wipe σ vs).set j (some z))[j]? = some (some z)) (hp : Cl K H p) (tb : Tabs τ H)
    (ht : ∀ (z : V) H1, G τ [p] H H1 → Cl K H1 p → ∀ Q, (∀ b H2, G τ [p] H1 H2 → Cl K H2 p → Q b H2) → tt ((wipe σ vs).set j (some z)) H1 Q) :
    Rn τ [p] (tLc (iTup K tl) (gName j) tt (tVar j) vs) σ H fun z H2 => ∃ q ms, z = .ref q ∧ Ls K H2 q (ms.map D.int) ∧ (∀ x ∈ ms, x ∈ ns) ∧ (Asc ns → Asc ms) ∧ Cl K H2 p := fun Q q => h H (.refl tb) _ fun w H1 g1 hv => by
  obtain ⟨a, xs, rfl, h1, h2⟩ := im_tup hv
  have hx := ima_ints h2
  subst hx
  have hp1 := hp.up0 g1
  refine ⟨a, rfl, ⟨_, h1⟩, fun Dl hD => ?_⟩
  have nD : Nw H Dl := (Nw.of hD).back0 g1
  have nDp : Dl ≠ p := (Nw.neCl (Nw.of hD) hp1).symm
  refine lc_tup (xs := ns.map V.int) (fun i H' => G τ [p] H1 H' ∧ Cl K H' p ∧ ∃ ms : List Int, Ls K H' Dl (ms.map D.int) ∧ ms.Sublist (ns.take i)) ?_ (fun i H' _ p => p.1.seqT h1) (fun i x H' hi p => ?_) fun H' p => ?_
  · have gn : G τ [] H1 (upd H1 Dl (.lst [])) := .new g1.tabs hD
    exact ⟨gn.wide, hp1.up0 gn, [], ⟨[], upd_same, .nil⟩, List.Sublist.refl _⟩
  · obtain ⟨p1, p2, ms, p3, p4⟩ := p
    rw [List.getElem?_map] at hi
    obtain ⟨y, hy, rfl⟩ := Option.map_eq_some_iff.mp hi
    have lm : ms.length ≤ ns.length := Nat.le_trans p4.length_le (by rw [List.length_take]; omega)
    refine ⟨hw _, ?_⟩
    refine ht (.int y) H' (g1.wide.trans p1) p2 _ fun b H3 g3 h3 => ?_
    have p3' := p3.up g3 (by simpa using nDp)
    cases b with
    | true =>
      refine iteT ?_
      refine ⟨.int y, hg _, ?_⟩
      obtain ⟨ys, y1, y2⟩ := p3'
      have nD1 : Nw H1 Dl := .of hD
      refine ⟨ys, y1, ?_, (p1.trans g3).put (.inr nD1) y1, h3.put nDp.symm y1, ms ++ [y], ⟨ys ++ [.int y], upd_same, ?_⟩, ?_⟩
      · rw [y2.length, List.length_map]
        exact Nat.lt_of_le_of_lt lm (Nat.lt_of_le_of_lt hn (by decide))
      · rw [List.map_append]
        exact (y2.append (.cons (.int y) .nil)).putH y1
      · rw [take_nx hy]
        exact p4.append (List.Sublist.refl _)
    | false =>
      refine iteF ?_
      refine ⟨p1.trans g3, h3, ms, p3', ?_⟩
      rw [take_nx hy]
      exact p4.trans (List.sublist_append_left _ _)
  · obtain ⟨p1, p2, ms, p3, p4⟩ := p
    have p4' : ms.Sublist ns := by
      rw [List.length_map, List.take_length] at p4
      exact p4
    exact q _ H' (g1.wide.trans p1) ⟨Dl, ms, rfl, p3, fun x hx => p4'.subset hx, fun ha => ha.sublist p4', p2⟩
def spLot (τ : TL) (K : PySem.W.Frag) : Sp := fun vs H Q _ => ∃ (p : Addr) (x : V) (n : Int) (ls : List Pr), vs = [.ref p, x] ∧ Tabs τ H ∧ Cl K H p ∧ Im K H x (hD n ls) ∧ 1 ≤ n ∧ n ≤ 10 ∧ ls.length ≤ 200 ∧ (∀ l ∈ ls, inR n l) ∧
  ∀ (v : V) (X : List Int) (H2 : Hp), G τ [p] H H2 → Im K H2 v (.tup (X.map D.int)) → lotOk n X = true → Cl K H2 p → Q v H2
theorem ok__law_lot (T : Txt K mg) : FnOk P w K mg base L2.CX0 2 T._law_lot.f T._law_lot.fd ["_law_cells_here", "_law_pile"] (spLot τ K) := by
  have G__law_pick : FnOk P w K mg base L2.CX0 1 T._law_pick.f T._law_pick.fd _ _ := ok__law_pick (τ := τ) T
  have G__law_grown : FnOk P w K mg base L2.CX0 1 T._law_grown.f T._law_grown.fd _ _ := ok__law_grown (τ := τ) T
  refine T._law_lot.F.ok sc__law_lot (fun vs H Q E h => ?_) (fun cdv A outer s H vs Q E hr h => ?_)
  · obtain ⟨_, _, _, _, rfl, _⟩ := h
    rfl
  · obtain ⟨p, x, n, ls, rfl, tb, hc, hx, n0, n1, hl, hb, q⟩ := h
    refine ⟨_, (pss_cons (ps_set (i := 2) sc__law_lot.nd rfl (by first | exact .inl rfl | exact .inr rfl) (pe_ix (r := rIx K) ix_seq (pv 1) pe_int (fun _ _ => rfl)))
      (pss_cons (ps_if (pt_cmpR op_eq (pc T._law_pick G__law_pick (hr.mono (by decide)) (by rfl) (pa_cons (pv 0) (pa_cons pe_int pa_nil))) pe_int (nomark _)) (pss_one (ps_ret (pe_callTy (r := rTupQ K) call_tuple_of (by rfl) T.z_tuple (by decide +kernel) (pa_cons (pe_lc (own := [("_law_w", 4)]) (g := (gName 4)) (tt := _) rfl sc__law_lot.nd (pi_range1 (by rfl) T.z_range (pa_cons (pv 2) pa_nil)) (blkOk_by (own := [("_law_w", 4)]) (N := ["_law_cells_here", "_law_pile", "_law_size", "_law_grown_here", "_law_w"]) (sc := defScope s__law_lot) (by decide +kernel)) (fun _ _ _ _ _ => (pg_name (i := 4) sc__law_lot.nd rfl (by first | exact .inl rfl | exact .inr rfl))) (fun _ _ _ _ _ => pts_one (pt_cmpR op_eq (pc T._law_pick G__law_pick (hr.mono (by decide)) (by rfl) (pa_cons (pv 0) (pa_cons pe_int pa_nil))) pe_int (nomark _))) (fun _ _ _ _ _ => (pv 4))) pa_nil)))) pss_nil)
      (pss_cons (ps_set (i := 3) sc__law_lot.nd rfl (by first | exact .inl rfl | exact .inr rfl) (pc T._law_grown G__law_grown (hr.mono (by decide)) (by rfl) (pa_cons (pv 1) (pa_cons (pc T._law_pick G__law_pick (hr.mono (by decide)) (by rfl) (pa_cons (pv 0) (pa_cons (pv 2) pa_nil))) (pa_cons (pe_listRg rfl (by rfl) T.z_list (prg_1 (by rfl) T.z_range (pv 2))) pa_nil)))))
      (pss_cons (ps_if (pt_cmpR op_eq (pc T._law_pick G__law_pick (hr.mono (by decide)) (by rfl) (pa_cons (pv 0) (pa_cons pe_int pa_nil))) pe_int (nomark _)) (pss_one (ps_ret (pv 3))) pss_nil)
      (pss_one (ps_ret (pe_callTy (r := rTupQ K) call_tuple_of (by rfl) T.z_tuple (by decide +kernel) (pa_cons (pe_lc (own := [("_law_w", 4)]) (g := (gName 4)) (tt := _) rfl sc__law_lot.nd (pi_tup (pv 3)) (blkOk_by (own := [("_law_w", 4)]) (N := ["_law_cells_here", "_law_pile", "_law_size", "_law_grown_here", "_law_w"]) (sc := defScope s__law_lot) (by decide +kernel)) (fun _ _ _ _ _ => (pg_name (i := 4) sc__law_lot.nd rfl (by first | exact .inl rfl | exact .inr rfl))) (fun _ _ _ _ _ => pts_one (pt_cmpR op_gt (pc T._law_pick G__law_pick (hr.mono (by decide)) (by rfl) (pa_cons (pv 0) (pa_cons pe_int pa_nil))) pe_int (nomark _))) (fun _ _ _ _ _ => (pv 4))) pa_nil)))))))), ?_⟩
    have pk : ∀ {σ : L2.St} {H1 : Hp} {lim : Int} , Tabs τ H1 → σ[0]? = some (some (.ref p)) → 0 < lim → Cl K H1 p → Rn τ [p] (tCall (spPick τ K) [] L2.E0 (tCons (tVar 0) (tCons (tC (.int lim)) tNil))) σ H1 fun z H2 => ∃ r, z = .int r ∧ 0 ≤ r ∧ r < lim ∧ Cl K H2 p := fun tb hs hl c => rn_pick tb (ea_cons (ei_var hs (.ptr p)) (ea_cons ei_i ea_nil)) hl c
    refine s_asgZ (K := K) tb (ei_ixT (ei_var (i := 1) rfl hx) ei_i rfl) fun H1 g1 => ?_
    have c1 := hc.up0 g1
    refine rt_eq (pk g1.tabs rfl (by decide) c1) fun b H2 g2 c2 => ?_
    have g02 : G τ [p] H H2 := g1.wide.trans g2
    cases b with
    | true =>
      refine iteT ?_
      refine Rn_imp (rn_tupN (τ := τ) (K := K) (B := fun ds H2 => (∃ f : Nat → Bool, ds = outs f (fun i => .int ((i : Nat) : Int)) n.toNat) ∧ Cl K H2 p) (Rn_imp (rn_lcF (τ := τ) (K := K) (p := p) (fun i => .int ((i : Nat) : Int)) (ea_cons (ei_var (i := 2) rfl (.int n)) ea_nil) (by omega) (fun _ => rfl) c2 g2.tabs (fun k H7 g7 c7 hk Q3 q3 => rt_eq (pk g7.tabs rfl (by decide) c7) q3) (fun k H7 g7 hk => ei_var (i := 4) rfl (.int _)) (by omega)) fun z H7 hz => ?_) fun ds H7 H8 hb g8 => ⟨hb.1, hb.2.up0 g8⟩) (fun z H7 hz => hz) _ fun z H7 g7 hz => ?_
      · obtain ⟨t, f, rfl, nt, ntp, ht, c7⟩ := hz
        exact ⟨t, _, rfl, ht, ⟨f, rfl⟩, c7⟩
      · obtain ⟨ds, hz, ⟨f, rfl⟩, c7⟩ := hz
        refine q z (((List.range n.toNat).filter f).map fun i => ((i : Nat) : Int)) H7 (g02.trans g7) ?_ (lot_filter f n (by omega)) c7
        rw [List.map_map]
        exact hz
    | false =>
      refine iteF ?_
      dsimp only
      -- grown
      have x2 := hx.up g02
      refine ⟨x, rfl, ?_⟩
      refine rn_pick (lim := n) g2.tabs (ea_cons (ei_var (i := 0) rfl (.ptr p)) (ea_cons (ei_var (i := 2) rfl (.int n)) ea_nil)) (by omega) c2 _ fun z H3 g3 hz => ?_
      obtain ⟨r, rfl, r0, r1, c3⟩ := hz
      have wI : EvN τ K (tLstRg (tRg1 (tVar 2))) [some (.ref p), some x, some (.int n), none, none] H3 ((wordsI n).map D.int) := en_is (en_listRg1 (ei_var (i := 2) rfl (.int n)) (by omega) (by omega)) (by unfold wordsI; rw [List.map_map]; rfl)
      refine wI H3 (.refl g3.tabs) _ fun u H4 g4 hu => ?_
      obtain ⟨t, rfl, _, ht⟩ := hu
      have g04 : G τ [p] H H4 := (g02.trans g3).trans g4.wide
      refine ⟨x, .ref t, r, n, ls, wordsI n, rfl, g4.tabs, hx.up g04, .inr ⟨t, rfl, ht.lr⟩, mem_words.mpr ⟨r0, r1⟩, fun y hy => mem_words.mp hy, by rw [len_words]; omega, by omega, fun v H5 g5 hv => ?_⟩
      rw [inn_words hb] at hv
      have c5 := (c3.up0 g4).up0 g5
      have g05 := g04.trans g5.wide
      have okC := lot_comp n r ls
      have lC := len_comp n r ls
      dsimp only
      refine rt_eq (pk g5.tabs rfl (by decide) c5) fun b H6 g6 c6 => ?_
      have g06 := g05.trans g6
      cases b with
      | true =>
        refine iteT ?_
        exact s_ret (K := K) g6.tabs (ei_var (i := 3) rfl (hv.up g6)) fun v H7 g7 hv7 => q v _ H7 (g06.trans g7.wide) hv7 okC (c6.up0 g7)
      | false =>
        refine iteF ?_
        dsimp only
        refine Rn_imp (rn_tupN (τ := τ) (K := K) (B := fun ds H2 => (∃ ms : List Int, ds = ms.map D.int ∧ (∀ x ∈ ms, x ∈ compL n ls r) ∧ (Asc (compL n ls r) → Asc ms)) ∧ Cl K H2 p) (Rn_imp (rn_lcFT (τ := τ) (K := K) (p := p) (ei_var (i := 3) rfl (hv.up g6)) (by omega) (fun _ => rfl) (fun _ => rfl) c6 g6.tabs (fun z H7 g7 c7 Q3 q3 => rt_gt (pk g7.tabs rfl (by decide) c7) q3)) fun z H7 hz => ?_) fun ds H7 H8 hb g8 => ⟨hb.1, hb.2.up0 g8⟩) (fun z H7 hz => hz) _ fun z H7 g7 hz => ?_
        · obtain ⟨t, ms, rfl, ht, m1, m2, c7⟩ := hz
          exact ⟨t, _, rfl, ht, ⟨ms, rfl, m1, m2⟩, c7⟩
        · obtain ⟨ds, hz, ⟨ms, rfl, m1, m2⟩, c7⟩ := hz
          exact q z ms H7 (g06.trans g7) hz (lot_of (m2 (asc_comp ..)) fun y hy => (mem_comp.mp (m1 y hy)).1) c7
end
end K02
namespace K02
open PySem PySem.Spec PyProof.Rows L2 LamX NdefX Clo LRev U Gr
section
variable {P : Program} {w : World} {K : PySem.W.Frag} {mg : Str → Option Value} {base : Heap} {τ : TL}
/-! ### side by side -/
def spSide (τ : TL) (K : PySem.W.Frag) : Sp := fun vs H Q _ => ∃ (p : Addr) (m : Int), vs = [.ref p, .int m] ∧ Tabs τ H ∧ Cl K H p ∧ 1 ≤ m ∧ m ≤ 3 ∧ ∀ (v : V) (n : Int) (o : Addr) (ls : List Pr) (H2 : Hp), G τ [p] H H2 → Im K H2 v (.tup [.int n, .ptr o]) → Nw H o → Ls K H2 o (ls.map prD) → 1 ≤ n → n ≤ 10 → ls.length ≤ 120 → (∀ l ∈ ls, inR n l) → Cl K H2 p → Q v H2
def shift (s : Int) (l : Pr) : Pr := (l.1 + s, l.2 + s)
theorem ok__law_side_by_side (T : Txt K mg) : FnOk P w K mg base L2.CX0 4 T._law_side_by_side.f T._law_side_by_side.fd ["_law_cells_here", "_law_parts"] (spSide τ K) := by
  have G__law_pick : FnOk P w K mg base L2.CX0 1 T._law_pick.f T._law_pick.fd _ _ := ok__law_pick (τ := τ) T
  have G__law_ring : FnOk P w K mg base L2.CX0 3 T._law_ring.f T._law_ring.fd _ _ := ok__law_ring (τ := τ) T
  have G__law_dealt : FnOk P w K mg base L2.CX0 2 T._law_dealt.f T._law_dealt.fd _ _ := ok__law_dealt (τ := τ) T
  refine T._law_side_by_side.F.ok sc__law_side_by_side (fun vs H Q E h => ?_) (fun cdv A outer s H vs Q E hr h => ?_)
  · obtain ⟨_, _, rfl, _⟩ := h
    rfl
  · obtain ⟨p, m, rfl, tb, hc, m0, m1, q⟩ := h
    refine ⟨_, (pss_cons (ps_set (i := 2) sc__law_side_by_side.nd rfl (by first | exact .inl rfl | exact .inr rfl) pe_int)
      (pss_cons (ps_set (i := 3) sc__law_side_by_side.nd rfl (by first | exact .inl rfl | exact .inr rfl) (pe_lst pa_nil))
      (pss_cons (ps_for PassesOwn.never rfl (pi_range1 (by rfl) T.z_range (pa_cons (pv 1) pa_nil)) (pg_name (i := 4) sc__law_side_by_side.nd rfl (by first | exact .inl rfl | exact .inr rfl)) (pss_cons (ps_set (i := 6) sc__law_side_by_side.nd rfl (by first | exact .inl rfl | exact .inr rfl) (pe_op op_add pe_int (pc T._law_pick G__law_pick (hr.mono (by decide)) (by rfl) (pa_cons (pv 0) (pa_cons pe_int pa_nil)))))
      (pss_cons (ps_for PassesOwn.never rfl (pi_list (pc T._law_ring G__law_ring (hr.mono (by decide)) (by rfl) (pa_cons (pv 0) (pa_cons (pv 6) (pa_cons (pc T._law_pick G__law_pick (hr.mono (by decide)) (by rfl) (pa_cons (pv 0) (pa_cons pe_int pa_nil))) pa_nil))))) (pg_name (i := 7) sc__law_side_by_side.nd rfl (by first | exact .inl rfl | exact .inr rfl)) (pss_one (ps_expr (pe_bm PySem.F.plainAttrs_list PySem.F.slot_list_append PySem.F.type_list_append mt_append (pv 3) (pa_cons (pe_tup (pa_cons (pe_op op_add (pe_ix (r := rIx K) ix_seq (pv 7) pe_int (fun _ _ => rfl)) (pv 2)) (pa_cons (pe_op op_add (pe_ix (r := rIx K) ix_seq (pv 7) pe_int (fun _ _ => rfl)) (pv 2)) pa_nil))) pa_nil)))))
      (pss_one (ps_set (i := 2) sc__law_side_by_side.nd rfl (by first | exact .inl rfl | exact .inr rfl) (pe_op op_add (pv 2) (pv 6)))))))
      (pss_cons (ps_set (i := 5) sc__law_side_by_side.nd rfl (by first | exact .inl rfl | exact .inr rfl) (pc T._law_dealt G__law_dealt (hr.mono (by decide)) (by rfl) (pa_cons (pv 0) (pa_cons (pe_listRg rfl (by rfl) T.z_list (prg_1 (by rfl) T.z_range (pv 2))) pa_nil))))
      (pss_one (ps_ret (pe_tup (pa_cons (pv 2) (pa_cons (pc T._law_dealt G__law_dealt (hr.mono (by decide)) (by rfl) (pa_cons (pv 0) (pa_cons (pe_lc (own := [("_law_pair", 7)]) (g := (gName 7)) (tt := tYes) rfl sc__law_side_by_side.nd (pi_list (pv 3)) (blkOk_by (own := [("_law_pair", 7)]) (N := ["_law_cells_here", "_law_parts", "_law_size", "_law_leaves", "_law_k", "_law_names", "_law_here", "_law_pair"]) (sc := defScope s__law_side_by_side) (by decide +kernel)) (fun _ _ _ _ _ => (pg_name (i := 7) sc__law_side_by_side.nd rfl (by first | exact .inl rfl | exact .inr rfl))) (fun _ _ _ _ _ => pts_nil) (fun _ _ _ _ _ => (pe_tup (pa_cons (pe_ix (r := rIx K) ix_seq (pv 5) (pe_ix (r := rIx K) ix_seq (pv 7) pe_int (fun _ _ => rfl)) (fun _ _ => rfl)) (pa_cons (pe_ix (r := rIx K) ix_seq (pv 5) (pe_ix (r := rIx K) ix_seq (pv 7) pe_int (fun _ _ => rfl)) (fun _ _ => rfl)) pa_nil))))) pa_nil))) pa_nil))))))))), ?_⟩
    have pk : ∀ {σ : L2.St} {H1 : Hp} {lim : Int} , Tabs τ H1 → σ[0]? = some (some (.ref p)) → 0 < lim → Cl K H1 p → Rn τ [p] (tCall (spPick τ K) [] L2.E0 (tCons (tVar 0) (tCons (tC (.int lim)) tNil))) σ H1 fun z H2 => ∃ r, z = .int r ∧ 0 ≤ r ∧ r < lim ∧ Cl K H2 p := fun tb hs hl c => rn_pick tb (ea_cons (ei_var hs (.ptr p)) (ea_cons ei_i ea_nil)) hl c
    refine s_asgZ (K := K) (n := 0) tb ei_i fun H1 g1 => ?_
    refine s_asgN (K := K) (ds := []) g1.tabs (en_lst ea_nil (by decide)) fun lv H2 g2 nlv hlv => ?_
    have Nlv : Nw H lv := nlv.back0 g1
    have npl : p ≠ lv := Nw.neCl Nlv hc
    dsimp only
    refine s_forR (K := K) (n := m) g2.tabs (ea_cons (ei_var (i := 1) rfl (.int m)) ea_nil) (by omega)
      (fun i σ H' => ∃ (v4 v6 v7 : Option V) (sz : Int) (ls : List Pr), σ = [some (.ref p), some (.int m), some (.int sz), some (.ref lv), v4, none, v6, v7] ∧ G τ [p] H H' ∧ Cl K H' p ∧ Ls K H' lv (ls.map prD) ∧ (i : Int) ≤ sz ∧ sz ≤ 3 * (i : Int) ∧ ls.length ≤ 40 * i ∧ ∀ l ∈ ls, inR sz l) (fun H3 g3 => ?_) (fun i σ H3 hi hP => ?_) fun σ H3 hP => ?_
    · exact ⟨none, none, none, 0, [], rfl, ((g1.trans g2).trans g3).wide, hc.up0 ((g1.trans g2).trans g3), hlv.up0 g3, by omega, by omega, Nat.zero_le _, fun l hl => by cases hl⟩
    · obtain ⟨v4, v6, v7, sz, ls, rfl, g3, c3, h3, s0, s1, l1, hb⟩ := hP
      refine s_asg (rn_opR (K := K) g3.tabs ei_i (fun H1 g1 => pk g1.tabs rfl (by decide) (c3.up0 g1)) fun z H2 hz => ⟨_, hz.choose_spec.1⟩) fun v H4 g4 hv => ?_
      obtain ⟨r, rfl, r', hrr, r0, r1, c4⟩ := hv
      have hrr := V.int.inj hrr
      have h4 := h3.up g4 (by simpa using npl.symm)
      have g04 := g3.trans g4
      dsimp only
      refine ⟨.ref p, rfl, .int (1 + r), rfl, ?_⟩
      refine pk (lim := 3) g4.tabs rfl (by decide) c4 _ fun z H5 g5 hz => ?_
      obtain ⟨e, rfl, e0, e1, c5⟩ := hz
      have h5 := h4.up g5 (by simpa using npl.symm)
      refine ⟨p, 1 + r, e, rfl, g5.tabs, c5, by omega, by omega, e0, by omega, fun o ls2 H6 g6 no ho k0 k1 hb2 c6 => ?_⟩
      have h6 := h5.up g6 (by simpa using npl.symm)
      have nlo : lv ≠ o := Nw.neLs no h5
      have g06 := (g04.trans g5).trans g6
      refine s_forGL (τ := τ) (K := K) (tl := tC (.ref o)) (ds := ls2.map prD) (fun u => u = o) (fun Q q => q o _ (.refl g6.tabs) ho rfl) (fun u j σ H' => ∃ (v7 : Option V), σ = [some (.ref p), some (.int m), some (.int sz), some (.ref lv), some (.int (i : Int)), none, some (.int (1 + r)), v7] ∧ G τ [p] H H' ∧ Cl K H' p ∧ Ls K H' lv ((ls ++ (ls2.take j).map (shift sz)).map prD) ∧ Ls K H' u (ls2.map prD) ∧ u = o)
        (fun u H7 g7 hu hZ => ?_) (fun u j σ H7 hP => ?_) (fun u j d v σ H7 hd hv hP => ?_) fun u σ H7 hP => ?_
      · refine ⟨_, rfl, g06.trans g7.wide, c6.up0 g7, ?_, hu, hZ⟩
        rw [List.take_zero, List.map_nil, List.append_nil]
        exact h6.up0 g7
      · obtain ⟨_, _, _, _, _, h, _⟩ := hP
        exact h.lr
      · obtain ⟨v7, rfl, g7, c7, h7, hu, rfl⟩ := hP
        rw [List.getElem?_map] at hd
        obtain ⟨l, hl, rfl⟩ := Option.map_eq_some_iff.mp hd
        have hj := (List.getElem?_eq_some_iff.mp hl).1
        refine s_app (K := K) (d := prD (shift sz l)) g7.tabs (ei_var (i := 3) rfl (.ptr lv)) (ei_tup (ea_cons (ei_add (ei_ixT (ei_var (i := 7) rfl hv) ei_i rfl) (ei_var (i := 2) rfl (.int sz))) (ea_cons (ei_add (ei_ixT (ei_var (i := 7) rfl hv) ei_i rfl) (ei_var (i := 2) rfl (.int sz))) ea_nil)) (show 2 ≤ 100000 by decide)) h7 (by rw [List.length_map, List.length_append, List.length_map, List.length_take]; omega) fun H8 g8 h8 => ?_
        refine ⟨_, rfl, ?_, c7.up g8 (by simpa using npl), ?_, hu.up g8 (by simpa using nlo.symm), rfl⟩
        · have z : G τ [lv, p] H H8 := (g7.more (by simp)).trans (g8.more (by simp))
          exact z.less Nlv
        · have ee : (ls ++ (ls2.take (j + 1)).map (shift sz)).map prD = (ls ++ (ls2.take j).map (shift sz)).map prD ++ [prD (shift sz l)] := by
            rw [take_nx hl]
            simp
          rw [ee]
          exact h8
      · obtain ⟨v7, rfl, g7, c7, h7, hu, rfl⟩ := hP
        rw [List.length_map, List.take_length] at h7
        dsimp only
        refine s_asgZ (K := K) (n := sz + (1 + r)) g7.tabs (ei_add (ei_var (i := 2) rfl (.int _)) (ei_var (i := 6) rfl (.int _))) fun H8 g8 => ?_
        refine ⟨_, _, _, sz + (1 + r), ls ++ ls2.map (shift sz), rfl, g7.trans g8.wide, c7.up0 g8, h7.up0 g8, by omega, by omega, by rw [List.length_append, List.length_map]; omega, fun l hl => ?_⟩
        rcases List.mem_append.mp hl with hl | hl
        · obtain ⟨⟨a1, a2⟩, a3, a4⟩ := hb l hl
          exact ⟨⟨by omega, by omega⟩, by omega, by omega⟩
        · obtain ⟨l', hl', rfl⟩ := List.mem_map.mp hl
          obtain ⟨⟨a1, a2⟩, a3, a4⟩ := hb2 l' hl'
          unfold shift
          exact ⟨⟨by dsimp only; omega, by dsimp only; omega⟩, by dsimp only; omega, by dsimp only; omega⟩
    · obtain ⟨v4, v6, v7, sz, ls, rfl, g3, c3, h3, s0, s1, l1, hb⟩ := hP
      have wI : EvN τ K (tLstRg (tRg1 (tVar 2))) [some (.ref p), some (.int m), some (.int sz), some (.ref lv), v4, none, v6, v7] H3 ((wordsI sz).map D.int) := en_is (en_listRg1 (ei_var (i := 2) rfl (.int sz)) (by omega) (by omega)) (by unfold wordsI; rw [List.map_map]; rfl)
      dsimp only
      refine ⟨.ref p, rfl, ?_⟩
      refine wI H3 (.refl g3.tabs) _ fun u H4 g4 hu => ?_
      obtain ⟨t, rfl, nt, ht⟩ := hu
      have c4 := c3.up0 g4
      have npt : p ≠ t := Nw.neCl nt c3
      refine ⟨p, t, (wordsI sz).map D.int, rfl, g4.tabs, c4, ht, npt, by rw [List.length_map, len_words]; omega, fun nm es H5 g5 nn hn hle hsub c5 => ?_⟩
      obtain ⟨ns, rfl, hns⟩ := ints_of (B := inI sz) (es := es) fun y hy => by
        obtain ⟨i, hi, rfl⟩ := List.mem_map.mp (hsub y hy)
        exact ⟨i, rfl, mem_words.mp hi⟩
      rw [List.length_map, List.length_map, len_words] at hle
      have h5 := (h3.up0 g4).up g5 (by simpa using npl.symm)
      have g05 : G τ [p] H H5 := (g3.trans g4.wide).trans g5
      have hll : (ls.map prD).length = ls.length := List.length_map ..
      dsimp only
      refine ⟨.int sz, rfl, .ref p, rfl, ?_⟩
      have cmp : EvN τ K (tLc (iList K (tVar 3)) (gName 7) tYes (tTup (tCons (tOp (rIx K) (tVar 5) (tOp (rIx K) (tVar 7) (tC (.int 0)))) (tCons (tOp (rIx K) (tVar 5) (tOp (rIx K) (tVar 7) (tC (.int 1)))) tNil))) [7]) [some (.ref p), some (.int m), some (.int sz), some (.ref lv), v4, some (.ref nm), v6, v7] H5 (ls.map fun l => prD (ns.getD l.1.toNat 0, ns.getD l.2.toNat 0)) := by
        refine en_is (en_lcL (fun _ => true) (fun k => prD (ns.getD (ls.getD k (0, 0)).1.toNat 0, ns.getD (ls.getD k (0, 0)).2.toNat 0)) (ei_var (i := 3) rfl (.ptr lv)) h5.lr (by omega) (fun _ => rfl) (fun _ _ _ _ _ _ _ => et_yes) fun k d z H6 g6 hd hz _ => ?_) ?_
        · have hk := (List.getElem?_eq_some_iff.mp hd).1
          rw [hll] at hk
          rw [List.getElem?_map, getD_of (z := ((0, 0) : Pr)) hk] at hd
          cases hd
          obtain ⟨⟨a1, a2⟩, a3, a4⟩ := hb _ (List.mem_of_getElem? (getD_of (z := ((0, 0) : Pr)) hk))
          have at1 : ∀ {i : Int}, 0 ≤ i → i < sz → atI (ns.map D.int) i = some (.int (ns.getD i.toNat 0)) := fun {i} h0 h1 => at_nat (j := i.toNat) (by omega) (by rw [List.getElem?_map, getD_of (z := (0 : Int)) (show i.toNat < ns.length by omega)]; rfl)
          exact ei_tup (ea_cons (ei_ixL (ei_var (i := 5) rfl (.ptr nm)) (hn.up0 g6).lr (ei_ixT (ei_var (i := 7) rfl hz) ei_i rfl) (at1 a1 a2)) (ea_cons (ei_ixL (ei_var (i := 5) rfl (.ptr nm)) (hn.up0 g6).lr (ei_ixT (ei_var (i := 7) rfl hz) ei_i rfl) (at1 a3 a4)) ea_nil)) (show 2 ≤ 100000 by decide)
        · rw [outs_all, hll, range_get ls ((0, 0) : Pr) fun l => prD (ns.getD l.1.toNat 0, ns.getD l.2.toNat 0)]
      refine cmp H5 (.refl g5.tabs) _ fun u H6 g6 hu => ?_
      obtain ⟨t2, rfl, nt2, ht2⟩ := hu
      have npt2 : p ≠ t2 := Nw.neCl nt2 c5
      refine ⟨p, t2, _, rfl, g6.tabs, c5.up0 g6, ht2, npt2, by rw [List.length_map]; omega, fun o es2 H7 g7 no ho hle2 hsub2 c7 => ?_⟩
      obtain ⟨ls3, rfl, hb3⟩ := prs_of (B := inR sz) (es := es2) fun y hy => by
        obtain ⟨l, hl, rfl⟩ := List.mem_map.mp (hsub2 y hy)
        obtain ⟨⟨a1, a2⟩, a3, a4⟩ := hb l hl
        have mm : ∀ {i : Int}, 0 ≤ i → i < sz → inI sz (ns.getD i.toNat 0) := fun {i} h0 h1 => hns _ (List.mem_of_getElem? (getD_of (z := (0 : Int)) (show i.toNat < ns.length by omega)))
        exact ⟨_, rfl, mm a1 a2, mm a3 a4⟩
      rw [List.length_map, List.length_map] at hle2
      refine ⟨(show 2 ≤ sizeLine by decide), fun tt htt => ?_⟩
      have gn : G τ [] H7 (upd H7 tt (.tup [.int sz, .ref o])) := G.new g7.tabs htt
      have g06 : G τ [p] H H6 := g05.trans g6.wide
      have No : Nw H o := by
        have hop : o ∉ [p] := fun z => by
          obtain ⟨cs, ws', z', _⟩ := c5.up0 g6
          rw [List.mem_singleton.mp z] at no
          obtain ⟨ps, z''⟩ := no _ z'
          cases z''
        exact no.back g06 hop
      exact q _ sz o ls3 _ ((g06.trans g7).trans gn.wide) (.tup (SqT.of upd_same) (.cons (.int _) (.cons (.ptr o) .nil))) No (ho.up0 gn) (by omega) (by omega) (by omega) hb3 (c7.up0 gn)
end
end K02
namespace K02
open PySem PySem.Spec PyProof.Rows L2 LamX NdefX Clo LRev U Gr
section
variable {P : Program} {w : World} {K : PySem.W.Frag} {mg : Str → Option Value} {base : Heap} {τ : TL}
/-! ### a heap -/
def spHeap (τ : TL) (K : PySem.W.Frag) : Sp := fun vs H Q _ => ∃ (p : Addr) (k : Int), vs = [.ref p, .int k] ∧ Tabs τ H ∧ Cl K H p ∧ ∀ (v : V) (n : Int) (ls : List (Int × Int)) (H2 : Hp), G τ [p] H H2 → Im K H2 v (hD n ls) → 1 ≤ n → n ≤ 10 → ls.length ≤ 200 → (∀ l ∈ ls, inR n l) → Cl K H2 p → Q v H2
theorem erase_map {α β : Type} (f : α → β) : ∀ (l : List α) (k : Nat), (l.eraseIdx k).map f = (l.map f).eraseIdx k
  | [], _ => rfl
  | a :: l, 0 => rfl
  | a :: l, k + 1 => congrArg (f a :: ·) (erase_map f l k)
theorem ok__law_heap (T : Txt K mg) : FnOk P w K mg base L2.CX0 5 T._law_heap.f T._law_heap.fd ["_law_cells_here", "_law_kind"] (spHeap τ K) := by
  have G__law_pick : FnOk P w K mg base L2.CX0 1 T._law_pick.f T._law_pick.fd _ _ := ok__law_pick (τ := τ) T
  have G__law_ring : FnOk P w K mg base L2.CX0 3 T._law_ring.f T._law_ring.fd _ _ := ok__law_ring (τ := τ) T
  have G__law_side_by_side : FnOk P w K mg base L2.CX0 4 T._law_side_by_side.f T._law_side_by_side.fd _ _ := ok__law_side_by_side (τ := τ) T
  refine T._law_heap.F.ok sc__law_heap (fun vs H Q E h => ?_) (fun cdv A outer s H vs Q E hr h => ?_)
  · obtain ⟨_, _, rfl, _⟩ := h
    rfl
  · obtain ⟨p, kd, rfl, tb, hc, q⟩ := h
    refine ⟨_, (pss_cons (ps_set (i := 2) sc__law_heap.nd rfl (by first | exact .inl rfl | exact .inr rfl) (pe_op op_add pe_int (pc T._law_pick G__law_pick (hr.mono (by decide)) (by rfl) (pa_cons (pv 0) (pa_cons pe_int pa_nil)))))
      (Evl.pss_cut (ps_if (pt_cmpR op_eq (pc T._law_pick G__law_pick (hr.mono (by decide)) (by rfl) (pa_cons (pv 0) (pa_cons pe_int pa_nil))) pe_int (nomark _)) (pss_one (ps_set (i := 2) sc__law_heap.nd rfl (by first | exact .inl rfl | exact .inr rfl) (pe_op op_add pe_int (pc T._law_pick G__law_pick (hr.mono (by decide)) (by rfl) (pa_cons (pv 0) (pa_cons pe_int pa_nil)))))) pss_nil)
      (Evl.pss_cut (ps_if (pt_cmpR op_eq (pv 1) pe_int (nomark _)) (pss_one (ps_setLc (i := 3) (own := [("_law_k", 4)]) (g := (gName 4)) (tt := tYes) rfl sc__law_heap.nd rfl rfl (sw_true rfl rfl rfl (by decide +kernel)) (pi_range1 (by rfl) T.z_range (pa_cons (pc T._law_pick G__law_pick (hr.mono (by decide)) (by rfl) (pa_cons (pv 0) (pa_cons (pe_op op_add (pv 2) pe_int) pa_nil))) pa_nil)) (blkOk_by (own := [("_law_k", 4)]) (N := ["_law_cells_here", "_law_kind", "_law_size", "_law_leaves", "_law_k"]) (sc := defScope s__law_heap) (by decide +kernel)) (fun _ _ _ _ _ => (pg_name (i := 4) sc__law_heap.nd rfl (by first | exact .inl rfl | exact .inr rfl))) (fun _ _ _ _ _ => pts_nil) (fun _ _ _ _ _ => (pe_tup (pa_cons (pc T._law_pick G__law_pick (hr.mono (by decide)) (by rfl) (pa_cons (pv 0) (pa_cons (pv 2) pa_nil))) (pa_cons (pc T._law_pick G__law_pick (hr.mono (by decide)) (by rfl) (pa_cons (pv 0) (pa_cons (pv 2) pa_nil))) pa_nil)))))) (pss_one (ps_if (pt_cmpR op_eq (pv 1) pe_int (nomark _)) (pss_one (ps_set (i := 3) sc__law_heap.nd rfl (by first | exact .inl rfl | exact .inr rfl) (pc T._law_ring G__law_ring (hr.mono (by decide)) (by rfl) (pa_cons (pv 0) (pa_cons (pv 2) (pa_cons (pc T._law_pick G__law_pick (hr.mono (by decide)) (by rfl) (pa_cons (pv 0) (pa_cons pe_int pa_nil))) pa_nil)))))) (pss_one (ps_asg (pc T._law_side_by_side G__law_side_by_side (hr.mono (by decide)) (by rfl) (pa_cons (pv 0) (pa_cons (pe_op op_add pe_int (pc T._law_pick G__law_pick (hr.mono (by decide)) (by rfl) (pa_cons (pv 0) (pa_cons pe_int pa_nil)))) pa_nil))) (pg_tup rfl (pgs_cons (pg_name (i := 2) sc__law_heap.nd rfl (by first | exact .inl rfl | exact .inr rfl)) (pgs_cons (pg_name (i := 3) sc__law_heap.nd rfl (by first | exact .inl rfl | exact .inr rfl)) pgs_nil))))))))
      (Evl.pss_cut (ps_if (PW.pt (pw_and (pt_cmpR op_gt (pe_callB (r := rLenQ K) call_len_seq (by rfl) T.z_len (by decide +kernel) (pa_cons (pv 3) pa_nil)) pe_int (nomark _)) (pw_and1 (pt_cmpR op_eq (pc T._law_pick G__law_pick (hr.mono (by decide)) (by rfl) (pa_cons (pv 0) (pa_cons pe_int pa_nil))) pe_int (nomark _))))) (pss_one (ps_expr (pe_bm PySem.F.plainAttrs_list PySem.F.slot_list_pop PySem.F.type_list_pop mt_popAt (pv 3) (pa_cons (pc T._law_pick G__law_pick (hr.mono (by decide)) (by rfl) (pa_cons (pv 0) (pa_cons (pe_callB (r := rLenQ K) call_len_seq (by rfl) T.z_len (by decide +kernel) (pa_cons (pv 3) pa_nil)) pa_nil))) pa_nil)))) pss_nil)
      (pss_one (ps_ret (pe_tup (pa_cons (pv 2) (pa_cons (pe_callTy (r := rTupQ K) call_tuple_of (by rfl) T.z_tuple (by decide +kernel) (pa_cons (pv 3) pa_nil)) pa_nil))))))))), ?_⟩
    have pk : ∀ {σ : L2.St} {H1 : Hp} {lim : Int} , Tabs τ H1 → σ[0]? = some (some (.ref p)) → 0 < lim → Cl K H1 p → Rn τ [p] (tCall (spPick τ K) [] L2.E0 (tCons (tVar 0) (tCons (tC (.int lim)) tNil))) σ H1 fun z H2 => ∃ r, z = .int r ∧ 0 ≤ r ∧ r < lim ∧ Cl K H2 p := fun tb hs hl c => rn_pick tb (ea_cons (ei_var hs (.ptr p)) (ea_cons ei_i ea_nil)) hl c
    -- size
    refine s_asg (rn_opR (K := K) tb ei_i (fun H1 g1 => pk g1.tabs rfl (by decide) (hc.up0 g1)) fun z H2 hz => ⟨_, hz.choose_spec.1⟩) fun v H1 g1 hv => ?_
    obtain ⟨r, rfl, r', hrr, r0, r1, c1⟩ := hv
    have hrr := V.int.inj hrr
    refine ⟨fun σ H' => ∃ n, σ = [some (.ref p), some (.int kd), some (.int n), none, none] ∧ 1 ≤ n ∧ n ≤ 10 ∧ G τ [p] H H' ∧ Cl K H' p, ?_, fun σ H2 hP => ?_⟩
    · refine rt_eq (pk g1.tabs rfl (by decide) c1) fun b H2 g2 c2 => ?_
      cases b with
      | true =>
        refine iteT ?_
        refine s_asg (rn_opR (K := K) g2.tabs ei_i (fun H1 g1 => pk g1.tabs rfl (by decide) (c2.up0 g1)) fun z H2 hz => ⟨_, hz.choose_spec.1⟩) fun v H3 g3 hv => ?_
        obtain ⟨x, rfl, x', hxx, x0, x1, c3⟩ := hv
        have hxx := V.int.inj hxx
        exact ⟨_, rfl, by omega, by omega, (g1.trans g2).trans g3, c3⟩
      | false =>
        refine iteF ?_
        exact ⟨_, rfl, by omega, by omega, g1.trans g2, c2⟩
    obtain ⟨n, rfl, n0, n1, g2, c2⟩ := hP
    have pkn : ∀ {σ : L2.St} {H1 : Hp} , Tabs τ H1 → σ[0]? = some (some (.ref p)) → σ[2]? = some (some (.int n)) → Cl K H1 p → Rn τ [p] (tCall (spPick τ K) [] L2.E0 (tCons (tVar 0) (tCons (tVar 2) tNil))) σ H1 fun z H2 => ∃ r, z = .int r ∧ 0 ≤ r ∧ r < n ∧ Cl K H2 p := fun tb hs hs2 c => rn_pick tb (ea_cons (ei_var hs (.ptr p)) (ea_cons (ei_var hs2 (.int n)) ea_nil)) (by omega) c
    have backN : ∀ {H' : Hp} {o : Addr}, G τ [p] H H' → Cl K H' p → Nw H' o → Nw H o := fun {H' o} g c no => Nw.backP g (Nw.neCl no c).symm no
    -- leaves
    refine ⟨fun σ H' => ∃ (n : Int) (o : Addr) (ls : List Pr) (v4 : Option V), σ = [some (.ref p), some (.int kd), some (.int n), some (.ref o), v4] ∧ Nw H o ∧ Ls K H' o (ls.map prD) ∧ 1 ≤ n ∧ n ≤ 10 ∧ ls.length ≤ 150 ∧ (∀ l ∈ ls, inR n l) ∧ G τ [p] H H' ∧ Cl K H' p, ?_, fun σ H3 hP => ?_⟩
    · refine s_if g2.tabs (et_test (K := K) (ei_eqI (ei_var (i := 1) rfl (.int kd)) ei_i)) (fun _ H3 g3 => ?_) fun _ H3 g3 => ?_
      · have c3 := c2.up0 g3
        have g03 := g2.trans g3.wide
        refine s_asg (rn_lcC2 (τ := τ) (K := K) (p := p) (N := 13) (fun d => ∃ l, d = prD l ∧ inR n l) (fun Q2 q2 => rn_pick (lim := n + 3) g3.tabs (ea_cons (ei_var (i := 0) rfl (.ptr p)) (ea_cons (ei_add (ei_var (i := 2) rfl (.int n)) ei_i) ea_nil)) (by omega) c3 _ fun z H8 g8 hz => ?_) (by decide) (fun _ => rfl) fun i H9 g9 c9 => ?_) fun z H9 g9 hz => ?_
        · obtain ⟨m, rfl, m0, m1, c8⟩ := hz
          exact q2 _ H8 g8 ⟨m, rfl, by omega, by omega, c8⟩
        · refine fun Q2 q2 => pkn g9.tabs rfl rfl c9 _ fun z H10 g10 hz => ?_
          obtain ⟨r, rfl, r0, r1, c10⟩ := hz
          refine pkn g10.tabs rfl rfl c10 _ fun z H11 g11 hz => ?_
          obtain ⟨r', rfl, r0', r1', c11⟩ := hz
          refine ⟨(show 2 ≤ sizeLine by decide), fun t ht => ?_⟩
          have gn : G τ [] H11 (upd H11 t (.tup [.int r, .int r'])) := G.new g11.tabs ht
          exact q2 _ _ ((g10.trans g11).trans gn.wide) ⟨prD (r, r'), .tup (SqT.of upd_same) (.cons (.int _) (.cons (.int _) .nil)), ⟨_, rfl, ⟨r0, r1⟩, ⟨r0', r1'⟩⟩, c11.up0 gn⟩
        · obtain ⟨t, es, rfl, nt, ntp, ht, hl, hb2, c9'⟩ := hz
          obtain ⟨ls2, rfl, hb3⟩ := prs_of hb2
          rw [List.length_map] at hl
          exact ⟨n, t, ls2, none, rfl, backN g03 c3 nt, ht, n0, n1, by omega, hb3, g03.trans g9, c9'⟩
      · have c3 := c2.up0 g3
        have g03 := g2.trans g3.wide
        refine s_if g3.tabs (et_test (K := K) (ei_eqI (ei_var (i := 1) rfl (.int kd)) ei_i)) (fun _ H4 g4 => ?_) fun _ H4 g4 => ?_
        · have c4 := c3.up0 g4
          have g04 := g03.trans g4.wide
          refine ⟨.ref p, rfl, .int n, rfl, ?_⟩
          refine pk (lim := 7) g4.tabs rfl (by decide) c4 _ fun z H5 g5 hz => ?_
          obtain ⟨e, rfl, e0, e1, c5⟩ := hz
          have g05 := g04.trans g5
          exact ⟨p, n, e, rfl, g5.tabs, c5, n0, n1, e0, by omega, fun o ls H6 g6 no ho l0 l1 hb c6 => ⟨n, o, ls, none, rfl, backN g05 c5 no, ho, n0, n1, by omega, hb, g05.trans g6, c6⟩⟩
        · have c4 := c3.up0 g4
          have g04 := g03.trans g4.wide
          refine ⟨.ref p, rfl, ?_⟩
          refine rn_opR (K := K) g4.tabs (ei_i (i := 2)) (fun H1 g1 => pk (lim := 2) g1.tabs rfl (by decide) (c4.up0 g1)) (fun z H2 hz => ⟨_, hz.choose_spec.1⟩) _ fun z H5 g5 hz => ?_
          obtain ⟨e, rfl, e', hee, e0, e1, c5⟩ := hz
          have hee := V.int.inj hee
          have g05 := g04.trans g5
          refine ⟨p, 2 + e, rfl, g5.tabs, c5, by omega, by omega, fun v n' o ls H6 g6 hv no ho k0 k1 l1 hb c6 => ?_⟩
          obtain ⟨a, xs, rfl, h1, h2⟩ := im_tup hv
          obtain ⟨u, y, rfl, h3, h4⟩ := ima2 h2
          rw [im_int h3, im_ptr h4] at h1
          exact ⟨a, _, rfl, h1, rfl, .int n', _, rfl, .ref o, _, rfl, rfl, n', o, ls, none, rfl, backN g05 c5 no, ho, k0, k1, by omega, hb, g05.trans g6, c6⟩
    obtain ⟨n, o, ls, v4, rfl, no, ho, n0, n1, l1, hb, g3, c3⟩ := hP
    have npo : p ≠ o := Nw.neCl no hc
    have hll : (ls.map prD).length = ls.length := List.length_map ..
    refine ⟨fun σ H' => ∃ (ls : List Pr) (v4 : Option V), σ = [some (.ref p), some (.int kd), some (.int n), some (.ref o), v4] ∧ Ls K H' o (ls.map prD) ∧ ls.length ≤ 150 ∧ (∀ l ∈ ls, inR n l) ∧ G τ [p] H H' ∧ Cl K H' p, ?_, fun σ H4 hP => ?_⟩
    · have ev : EvT τ (tTest (tOp (rI0 fun i j => .bl (decide (j < i))) (tCB (rLenQ K) (tCons (tVar 3) tNil)) (tC (.int 0)))) [some (.ref p), some (.int kd), some (.int n), some (.ref o), v4] H3 (decide ((0 : Int) < ((ls.map prD).length : Int))) := et_test (K := K) (ei_gt (ei_lenL (ei_var (i := 3) rfl (.ptr o)) ho.lr) ei_i)
      refine ev H3 (.refl g3.tabs) _ fun H4 g4 => ?_
      have g04 := g3.trans g4.wide
      have c4 := c3.up0 g4
      have ho4 := ho.up0 g4
      by_cases h0 : (0 : Int) < ((ls.map prD).length : Int)
      · rw [decide_eq_true h0]
        refine iteT ?_
        refine rt_eq (pk g4.tabs rfl (by decide) c4) fun b H5 g5 c5 => ?_
        have g05 := g04.trans g5
        have ho5 := ho4.up g5 (by simpa using npo.symm)
        cases b with
        | true =>
          refine iteT ?_
          refine r_popAt (K := K) (ms := [p]) (A := fun z H2 => ∃ k : Int, z = .int k ∧ 0 ≤ k ∧ k < (ls.length : Int) ∧ Cl K H2 p) g5.tabs (ei_var (i := 3) rfl (.ptr o)) ho5 (by simpa using npo.symm) (by omega)
            (fun H6 g6 => rn_pick (lim := (ls.length : Int)) g6.tabs (ea_cons (ei_var (i := 0) rfl (.ptr p)) (ea_cons (ei_is (ei_lenL (ei_var (i := 3) rfl (.ptr o)) (ho5.up0 g6).lr) (by rw [hll])) ea_nil)) (by omega) (c5.up0 g6))
            (fun z H6 hz => ?_) fun k d z vs H6 g6 hz h6 hvs hd hzd => ?_
          · obtain ⟨k, rfl, k0, k1, _⟩ := hz
            exact ⟨k.toNat, by rw [Int.toNat_of_nonneg k0], by omega⟩
          · obtain ⟨_, _, _, _, c6⟩ := hz
            refine ⟨ls.eraseIdx k, v4, rfl, ⟨vs.eraseIdx k, upd_same, ?_⟩, ?_, fun l hl => hb l (List.mem_of_mem_eraseIdx hl), (g05.trans g6).put (.inr no) h6, c6.put npo h6⟩
            · have ee : (ls.eraseIdx k).map prD = (ls.map prD).eraseIdx k := erase_map prD ls k
              rw [ee]
              exact (hvs.erase k).putH h6
            · rw [List.length_eraseIdx]
              split <;> omega
        | false =>
          refine iteF ?_
          exact ⟨ls, v4, rfl, ho5, l1, hb, g05, c5⟩
      · rw [decide_eq_false h0]
        refine iteF ?_
        exact ⟨ls, v4, rfl, ho4, l1, hb, g04, c4⟩
    · obtain ⟨ls, v4, rfl, ho, l1, hb, g4, c4⟩ := hP
      exact s_ret (K := K) g4.tabs (d := hD n ls) (ei_tup (ea_cons (ei_var (i := 2) rfl (.int n)) (ea_cons (ei_tupL (ei_var (i := 3) rfl (.ptr o)) ho.lr) ea_nil)) (show 2 ≤ 100000 by decide)) fun v H5 g5 hv => q v n ls H5 (g4.trans g5.wide) hv n0 n1 (by omega) hb (c4.up0 g5)
end
end K02
namespace K02
open PySem PySem.Spec PyProof.Rows L2 LamX NdefX Clo LRev U Gr
section
variable {P : Program} {w : World} {K : PySem.W.Frag} {mg : Str → Option Value} {base : Heap} {τ : TL}
def spLaw (τ : TL) (K : PySem.W.Frag) : Sp := fun vs H Q _ => ∃ (a : Addr) (ns : List Int), vs = [.ref a] ∧ Tabs τ H ∧ SqL K H a (ns.map V.int) ∧ ns.length ≤ 63 ∧ ∀ H2, Q (.bl true) H2
theorem ok_law (T : Txt K mg) {c Pt : Addr} (L : Lm T base τ c Pt) : FnOk P w K mg base L2.CX0 14 T.law.f T.law.fd ["_law_script"] (spLaw τ K) := by
  have G__law_cells : FnOk P w K mg base L2.CX0 2 T._law_cells.f T._law_cells.fd _ _ := ok__law_cells (τ := τ) T
  have G__law_pick : FnOk P w K mg base L2.CX0 1 T._law_pick.f T._law_pick.fd _ _ := ok__law_pick (τ := τ) T
  have G__law_heap : FnOk P w K mg base L2.CX0 5 T._law_heap.f T._law_heap.fd _ _ := ok__law_heap (τ := τ) T
  have G__law_lot : FnOk P w K mg base L2.CX0 2 T._law_lot.f T._law_lot.fd _ _ := ok__law_lot (τ := τ) T
  have G__law_pieces : FnOk P w K mg base L2.CX0 12 T._law_pieces.f T._law_pieces.fd _ _ := ok__law_pieces T L
  have G__law_gates : FnOk P w K mg base L2.CX0 13 T._law_gates.f T._law_gates.fd _ _ := ok__law_gates T L
  refine T.law.F.ok sc_law (fun vs H Q E h => ?_) (fun cdv A outer s H vs Q E hr h => ?_)
  · obtain ⟨_, _, rfl, _⟩ := h
    rfl
  · obtain ⟨a, ns, rfl, tb, ha, l1, q⟩ := h
    refine ⟨_, (pss_cons (ps_set (i := 1) sc_law.nd rfl (by first | exact .inl rfl | exact .inr rfl) (pc T._law_cells G__law_cells (hr.mono (by decide)) (by rfl) (pa_cons (pv 0) (pa_cons pe_int pa_nil))))
      (pss_cons (ps_set (i := 2) sc_law.nd rfl (by first | exact .inl rfl | exact .inr rfl) (pc T._law_heap G__law_heap (hr.mono (by decide)) (by rfl) (pa_cons (pv 1) (pa_cons (pc T._law_pick G__law_pick (hr.mono (by decide)) (by rfl) (pa_cons (pv 1) (pa_cons pe_int pa_nil))) pa_nil))))
      (pss_cons (ps_set (i := 3) sc_law.nd rfl (by first | exact .inl rfl | exact .inr rfl) (pc T._law_lot G__law_lot (hr.mono (by decide)) (by rfl) (pa_cons (pv 1) (pa_cons (pv 2) pa_nil))))
      (pss_cons (ps_set (i := 4) sc_law.nd rfl (by first | exact .inl rfl | exact .inr rfl) (pc T._law_lot G__law_lot (hr.mono (by decide)) (by rfl) (pa_cons (pv 1) (pa_cons (pv 2) pa_nil))))
      (pss_one (ps_ret (pe_and (pc T._law_pieces G__law_pieces (hr.mono (by decide)) (by rfl) (pa_cons (pv 2) pa_nil)) (pe_and (pc T._law_gates G__law_gates (hr.mono (by decide)) (by rfl) (pa_cons (pv 2) (pa_cons (pv 3) (pa_cons (pv 4) pa_nil)))) (pe_and (pc T._law_gates G__law_gates (hr.mono (by decide)) (by rfl) (pa_cons (pv 2) (pa_cons (pv 4) (pa_cons (pv 3) pa_nil)))) (pe_one (pc T._law_pieces G__law_pieces (hr.mono (by decide)) (by rfl) (pa_cons (pv 2) pa_nil)))))))))))), ?_⟩
    refine r_call (K := K) tb (ea_cons (ei_var (i := 0) rfl (.ptr a)) (ea_cons ei_i ea_nil)) fun vs H1 g1 hvs => ?_
    obtain ⟨x, y, rfl, hx, hy⟩ := ima2 hvs
    rw [im_ptr hx, im_int hy]
    refine ⟨a, ns, 160, rfl, g1.seqL ha, l1, by decide, by decide, g1.tabs, fun p H2 g2 np c2 => ?_⟩
    -- the heap
    refine ⟨.ref p, rfl, ?_⟩
    refine rn_pick (lim := 4) g2.tabs (ea_cons (ei_var (i := 1) rfl (.ptr p)) (ea_cons ei_i ea_nil)) (by decide) c2 _ fun z H3 g3 hz => ?_
    obtain ⟨kd, rfl, k0, k1, c3⟩ := hz
    refine ⟨p, kd, rfl, g3.tabs, c3, fun v n ls H4 g4 hv n0 n1 l4 hb c4 => ?_⟩
    -- two lots
    refine r_call (K := K) g4.tabs (ea_cons (ei_var (i := 1) rfl (.ptr p)) (ea_cons (ei_var (i := 2) rfl hv) ea_nil)) fun vs H5 g5 hvs => ?_
    obtain ⟨x, y, rfl, hx, hy⟩ := ima2 hvs
    rw [im_ptr hx]
    refine ⟨p, y, n, ls, rfl, g5.tabs, c4.up0 g5, hy, n0, n1, l4, hb, fun vA A H6 g6 hA okA c6 => ?_⟩
    have hv6 := (hv.up g5).up g6
    refine r_call (K := K) g6.tabs (ea_cons (ei_var (i := 1) rfl (.ptr p)) (ea_cons (ei_var (i := 2) rfl hv6) ea_nil)) fun vs H7 g7 hvs => ?_
    obtain ⟨x, y, rfl, hx, hy⟩ := ima2 hvs
    rw [im_ptr hx]
    refine ⟨p, y, n, ls, rfl, g7.tabs, c6.up0 g7, hy, n0, n1, l4, hb, fun vB B H8 g8 hB okB c8 => ?_⟩
    have hv8 := (hv6.up g7).up g8
    have hA8 := (hA.up g7).up g8
    have fP : FTrue2 [hD n ls] (.bl true) := ⟨n, ls, rfl, n0, n1, l4, hb, rfl⟩
    have fG : ∀ {A B : List Int}, lotOk n A = true → lotOk n B = true → FGates2 [hD n ls, .tup (A.map D.int), .tup (B.map D.int)] (.bl true) := fun {A B} h1 h2 => ⟨n, ls, A, B, rfl, h1, h2, n0, n1, l4, hb, rfl⟩
    dsimp only
    refine s_ret (K := K) g8.tabs (d := .bl true) (ei_and (ei_call (ea_cons (ei_var (i := 2) rfl hv8) ea_nil) fP) (fun _ => ei_and (ei_call (ea_cons (ei_var (i := 2) rfl hv8) (ea_cons (ei_var (i := 3) rfl hA8) (ea_cons (ei_var (i := 4) rfl hB) ea_nil))) (fG okA okB)) (fun _ => ei_and (ei_call (ea_cons (ei_var (i := 2) rfl hv8) (ea_cons (ei_var (i := 4) rfl hB) (ea_cons (ei_var (i := 3) rfl hA8) ea_nil))) (fG okB okA)) (fun _ => ei_call (ea_cons (ei_var (i := 2) rfl hv8) ea_nil) fP) fun e => by cases e) fun e => by cases e) fun e => by cases e) fun v H9 g9 hv9 => ?_
    rw [im_bl hv9]
    exact q H9
end
end K02
namespace K02
open PySem PySem.Spec PyProof.Rows L2 LamX NdefX Clo LRev U
/-! ### what the top has written -/
section
variable {w : World} {K : PySem.W.Frag} {mg : Str → Option Value} {h : Heap}
theorem dfn_mk {x : Str} {st : Stmt} {ps : List Str} {f : Addr} {oc : Value} {od an : Option Addr} {osl : Array (Option Value)} {kV doc pm cdv ct : Value} (X : K.In h) (G : h.Ns mainGlobals mg) (a : PySem.W.nsIn K mainGlobals x = some (some (.ref f)))
    (l : K.lookup f = some ⟨oc, od, .func (PySem.W.fnOf x x (defArgs st) (defBody st) (defScope st) .none kV doc pm an cdv ct), osl⟩) (c : PySem.W.codeIn K cdv x = true) (k : PySem.W.keepIn K (.ref f) = true)
    (b : ∀ (kV doc pm : Value) (an : Option Addr) (cdv ct : Value) (us : List Value), us.length = ps.length → bindArgs (PySem.W.fnOf x x (defArgs st) (defBody st) (defScope st) .none kV doc pm an cdv ct) ⟨us, []⟩ = pure (ps.zip us)) : ∃ D : Dfn K mg x st ps, D.fd.code = cdv :=
  have F : L2.Fun K x x st f _ := fun_mk l c k
  ⟨⟨f, _, F, PySem.W.mg_of X G a, F.binds b⟩, rfl⟩
theorem law_at {l : PySem.W.OpenLaw} (T : Txt K mg) {c Pt fa : Addr} (hfa : mg "law" = some (.ref fa)) (hc : T.are_below.fd.code = .ref c) (hP : h.get? Pt = some { cls := .none, data := .fields #[] }) (hn : K.lookup Pt = none) (C : PySem.W.CodeHd h c Pt) : LawAtS l w K L2.CX0 14 63 "_law_script" mg fa h := by
  have e : T.law.f = fa := by
    have z := T.law.g.symm.trans hfa
    injection z with z
    injection z
  subst e
  refine ⟨T.law.fd, [(c, Pt)], spLaw [(Pt, lamQ)] K, fun p hp => ?_, fun p hp => ?_, fun p hp => ?_, fun s u => ?_, fun H a ns h1 _ h3 h4 => ⟨a, ns, rfl, fun p hp => ?_, h4, h1, fun _ => rfl⟩, fun base _ _ tb => ok_law T ⟨hc, tb _ List.mem_cons_self, rfl⟩⟩
  · rw [List.mem_singleton.mp hp]
    exact hP
  · rw [List.mem_singleton.mp hp]
    exact hn
  · rw [List.mem_singleton.mp hp]
    exact C
  · obtain ⟨oc, od, kV, doc, pm, an, cdv, ct, osl, e, lk, hcd⟩ := T.law.F.ex
    rw [e]
    exact .of_eq rfl
  · rw [List.mem_singleton.mp hp]
    exact .nil (h3 _ List.mem_cons_self)
end
end K02
open PySem PySem.W PyProof.Rows L2
set_option maxHeartbeats 0 in
theorem PySem.Challenge.cw_unsewn_k02_whole_gates_and_pieces_holds : PySem.Challenge.rw_unsewn_k02_whole_gates_and_pieces.Holds := by
  w_on; o_law; k_head; (case hw => w_witness2)
  k_fill
  refine LamX.walk_ofTs (l := PySem.Challenge.rw_unsewn_k02_whole_gates_and_pieces) (n := 63) (k := 14) (x := "_law_script") (CX := fun _ => L2.CX0) rfl (by decide) rfl ⟨rfl, by decide, by decide⟩ (fun w h Y => PySem.W.km_in_of Y) ?F (fun _ _ _ _ _ h => h)
  case F =>
    intro w mg fa h Y KX G hmg
    obtain ⟨d_need, e_need⟩ : ∃ D : U.Dfn _ mg "need" K02.s_need ["holds", "name"], D.fd.code = _ := by
      refine' K02.dfn_mk KX G ?a ?l ?c ?k (fun _ _ _ _ _ _ us hl => match us, hl with | [_, _], _ => rfl)
      (case a => k_is); (case l => k_is); (case c => k_is); (case k => k_is)
    obtain ⟨d_reached_from, e_reached_from⟩ : ∃ D : U.Dfn _ mg "reached_from" K02.s_reached_from ["pairs", "word"], D.fd.code = _ := by
      refine' K02.dfn_mk KX G ?a ?l ?c ?k (fun _ _ _ _ _ _ us hl => match us, hl with | [_, _], _ => rfl)
      (case a => k_is); (case l => k_is); (case c => k_is); (case k => k_is)
    obtain ⟨d_is_integer, e_is_integer⟩ : ∃ D : U.Dfn _ mg "is_integer" K02.s_is_integer ["thing"], D.fd.code = _ := by
      refine' K02.dfn_mk KX G ?a ?l ?c ?k (fun _ _ _ _ _ _ us hl => match us, hl with | [_], _ => rfl)
      (case a => k_is); (case l => k_is); (case c => k_is); (case k => k_is)
    obtain ⟨d_is_number, e_is_number⟩ : ∃ D : U.Dfn _ mg "is_number" K02.s_is_number ["thing"], D.fd.code = _ := by
      refine' K02.dfn_mk KX G ?a ?l ?c ?k (fun _ _ _ _ _ _ us hl => match us, hl with | [_], _ => rfl)
      (case a => k_is); (case l => k_is); (case c => k_is); (case k => k_is)
    obtain ⟨d_is_below, e_is_below⟩ : ∃ D : U.Dfn _ mg "is_below" K02.s_is_below ["many", "thing"], D.fd.code = _ := by
      refine' K02.dfn_mk KX G ?a ?l ?c ?k (fun _ _ _ _ _ _ us hl => match us, hl with | [_, _], _ => rfl)
      (case a => k_is); (case l => k_is); (case c => k_is); (case k => k_is)
    obtain ⟨d_is_tuple_of, e_is_tuple_of⟩ : ∃ D : U.Dfn _ mg "is_tuple_of" K02.s_is_tuple_of ["check", "thing"], D.fd.code = _ := by
      refine' K02.dfn_mk KX G ?a ?l ?c ?k (fun _ _ _ _ _ _ us hl => match us, hl with | [_, _], _ => rfl)
      (case a => k_is); (case l => k_is); (case c => k_is); (case k => k_is)
    obtain ⟨d_are_below, e_are_below⟩ : ∃ D : U.Dfn _ mg "are_below" K02.s_are_below ["many", "thing"], D.fd.code = _ := by
      refine' K02.dfn_mk KX G ?a ?l ?c ?k (fun _ _ _ _ _ _ us hl => match us, hl with | [_, _], _ => rfl)
      (case a => k_is); (case l => k_is); (case c => k_is); (case k => k_is)
    obtain ⟨d_ascends, e_ascends⟩ : ∃ D : U.Dfn _ mg "ascends" K02.s_ascends ["row"], D.fd.code = _ := by
      refine' K02.dfn_mk KX G ?a ?l ?c ?k (fun _ _ _ _ _ _ us hl => match us, hl with | [_], _ => rfl)
      (case a => k_is); (case l => k_is); (case c => k_is); (case k => k_is)
    obtain ⟨d_is_word, e_is_word⟩ : ∃ D : U.Dfn _ mg "is_word" K02.s_is_word ["heap", "thing"], D.fd.code = _ := by
      refine' K02.dfn_mk KX G ?a ?l ?c ?k (fun _ _ _ _ _ _ us hl => match us, hl with | [_, _], _ => rfl)
      (case a => k_is); (case l => k_is); (case c => k_is); (case k => k_is)
    obtain ⟨d_is_lot, e_is_lot⟩ : ∃ D : U.Dfn _ mg "is_lot" K02.s_is_lot ["heap", "thing"], D.fd.code = _ := by
      refine' K02.dfn_mk KX G ?a ?l ?c ?k (fun _ _ _ _ _ _ us hl => match us, hl with | [_, _], _ => rfl)
      (case a => k_is); (case l => k_is); (case c => k_is); (case k => k_is)
    obtain ⟨d_is_set_below, e_is_set_below⟩ : ∃ D : U.Dfn _ mg "is_set_below" K02.s_is_set_below ["many", "thing"], D.fd.code = _ := by
      refine' K02.dfn_mk KX G ?a ?l ?c ?k (fun _ _ _ _ _ _ us hl => match us, hl with | [_, _], _ => rfl)
      (case a => k_is); (case l => k_is); (case c => k_is); (case k => k_is)
    obtain ⟨d_gates_of, e_gates_of⟩ : ∃ D : U.Dfn _ mg "gates_of" K02.s_gates_of ["heap", "lot"], D.fd.code = _ := by
      refine' K02.dfn_mk KX G ?a ?l ?c ?k (fun _ _ _ _ _ _ us hl => match us, hl with | [_, _], _ => rfl)
      (case a => k_is); (case l => k_is); (case c => k_is); (case k => k_is)
    obtain ⟨d_within, e_within⟩ : ∃ D : U.Dfn _ mg "within" K02.s_within ["heap", "lot"], D.fd.code = _ := by
      refine' K02.dfn_mk KX G ?a ?l ?c ?k (fun _ _ _ _ _ _ us hl => match us, hl with | [_, _], _ => rfl)
      (case a => k_is); (case l => k_is); (case c => k_is); (case k => k_is)
    obtain ⟨d_leaving, e_leaving⟩ : ∃ D : U.Dfn _ mg "leaving" K02.s_leaving ["heap", "lot"], D.fd.code = _ := by
      refine' K02.dfn_mk KX G ?a ?l ?c ?k (fun _ _ _ _ _ _ us hl => match us, hl with | [_, _], _ => rfl)
      (case a => k_is); (case l => k_is); (case c => k_is); (case k => k_is)
    obtain ⟨d_entering, e_entering⟩ : ∃ D : U.Dfn _ mg "entering" K02.s_entering ["heap", "lot"], D.fd.code = _ := by
      refine' K02.dfn_mk KX G ?a ?l ?c ?k (fun _ _ _ _ _ _ us hl => match us, hl with | [_, _], _ => rfl)
      (case a => k_is); (case l => k_is); (case c => k_is); (case k => k_is)
    obtain ⟨d_crossing, e_crossing⟩ : ∃ D : U.Dfn _ mg "crossing" K02.s_crossing ["heap", "lot", "from_inside", "to_inside"], D.fd.code = _ := by
      refine' K02.dfn_mk KX G ?a ?l ?c ?k (fun _ _ _ _ _ _ us hl => match us, hl with | [_, _, _, _], _ => rfl)
      (case a => k_is); (case l => k_is); (case c => k_is); (case k => k_is)
    obtain ⟨d_hangs_together, e_hangs_together⟩ : ∃ D : U.Dfn _ mg "hangs_together" K02.s_hangs_together ["heap", "lot"], D.fd.code = _ := by
      refine' K02.dfn_mk KX G ?a ?l ?c ?k (fun _ _ _ _ _ _ us hl => match us, hl with | [_, _], _ => rfl)
      (case a => k_is); (case l => k_is); (case c => k_is); (case k => k_is)
    obtain ⟨d_pieces_of, e_pieces_of⟩ : ∃ D : U.Dfn _ mg "pieces_of" K02.s_pieces_of ["heap"], D.fd.code = _ := by
      refine' K02.dfn_mk KX G ?a ?l ?c ?k (fun _ _ _ _ _ _ us hl => match us, hl with | [_], _ => rfl)
      (case a => k_is); (case l => k_is); (case c => k_is); (case k => k_is)
    obtain ⟨d_fan_of, e_fan_of⟩ : ∃ D : U.Dfn _ mg "fan_of" K02.s_fan_of ["heap", "word"], D.fd.code = _ := by
      refine' K02.dfn_mk KX G ?a ?l ?c ?k (fun _ _ _ _ _ _ us hl => match us, hl with | [_, _], _ => rfl)
      (case a => k_is); (case l => k_is); (case c => k_is); (case k => k_is)
    obtain ⟨d_ends_of, e_ends_of⟩ : ∃ D : U.Dfn _ mg "ends_of" K02.s_ends_of ["heap", "word"], D.fd.code = _ := by
      refine' K02.dfn_mk KX G ?a ?l ?c ?k (fun _ _ _ _ _ _ us hl => match us, hl with | [_, _], _ => rfl)
      (case a => k_is); (case l => k_is); (case c => k_is); (case k => k_is)
    obtain ⟨d_surplus_of, e_surplus_of⟩ : ∃ D : U.Dfn _ mg "surplus_of" K02.s_surplus_of ["heap", "word"], D.fd.code = _ := by
      refine' K02.dfn_mk KX G ?a ?l ?c ?k (fun _ _ _ _ _ _ us hl => match us, hl with | [_, _], _ => rfl)
      (case a => k_is); (case l => k_is); (case c => k_is); (case k => k_is)
    obtain ⟨d_from_word, e_from_word⟩ : ∃ D : U.Dfn _ mg "from_word" K02.s_from_word ["heap", "word"], D.fd.code = _ := by
      refine' K02.dfn_mk KX G ?a ?l ?c ?k (fun _ _ _ _ _ _ us hl => match us, hl with | [_, _], _ => rfl)
      (case a => k_is); (case l => k_is); (case c => k_is); (case k => k_is)
    obtain ⟨d_to_word, e_to_word⟩ : ∃ D : U.Dfn _ mg "to_word" K02.s_to_word ["heap", "word"], D.fd.code = _ := by
      refine' K02.dfn_mk KX G ?a ?l ?c ?k (fun _ _ _ _ _ _ us hl => match us, hl with | [_, _], _ => rfl)
      (case a => k_is); (case l => k_is); (case c => k_is); (case k => k_is)
    obtain ⟨d__law_mix, e__law_mix⟩ : ∃ D : U.Dfn _ mg "_law_mix" K02.s__law_mix ["_law_cell", "_law_k"], D.fd.code = _ := by
      refine' K02.dfn_mk KX G ?a ?l ?c ?k (fun _ _ _ _ _ _ us hl => match us, hl with | [_, _], _ => rfl)
      (case a => k_is); (case l => k_is); (case c => k_is); (case k => k_is)
    obtain ⟨d__law_cells, e__law_cells⟩ : ∃ D : U.Dfn _ mg "_law_cells" K02.s__law_cells ["_law_script", "_law_many_more"], D.fd.code = _ := by
      refine' K02.dfn_mk KX G ?a ?l ?c ?k (fun _ _ _ _ _ _ us hl => match us, hl with | [_, _], _ => rfl)
      (case a => k_is); (case l => k_is); (case c => k_is); (case k => k_is)
    obtain ⟨d__law_pick, e__law_pick⟩ : ∃ D : U.Dfn _ mg "_law_pick" K02.s__law_pick ["_law_cells_here", "_law_limit"], D.fd.code = _ := by
      refine' K02.dfn_mk KX G ?a ?l ?c ?k (fun _ _ _ _ _ _ us hl => match us, hl with | [_, _], _ => rfl)
      (case a => k_is); (case l => k_is); (case c => k_is); (case k => k_is)
    obtain ⟨d__law_dealt, e__law_dealt⟩ : ∃ D : U.Dfn _ mg "_law_dealt" K02.s__law_dealt ["_law_cells_here", "_law_things"], D.fd.code = _ := by
      refine' K02.dfn_mk KX G ?a ?l ?c ?k (fun _ _ _ _ _ _ us hl => match us, hl with | [_, _], _ => rfl)
      (case a => k_is); (case l => k_is); (case c => k_is); (case k => k_is)
    obtain ⟨d__law_ring, e__law_ring⟩ : ∃ D : U.Dfn _ mg "_law_ring" K02.s__law_ring ["_law_cells_here", "_law_size", "_law_extra"], D.fd.code = _ := by
      refine' K02.dfn_mk KX G ?a ?l ?c ?k (fun _ _ _ _ _ _ us hl => match us, hl with | [_, _, _], _ => rfl)
      (case a => k_is); (case l => k_is); (case c => k_is); (case k => k_is)
    obtain ⟨d__law_side_by_side, e__law_side_by_side⟩ : ∃ D : U.Dfn _ mg "_law_side_by_side" K02.s__law_side_by_side ["_law_cells_here", "_law_parts"], D.fd.code = _ := by
      refine' K02.dfn_mk KX G ?a ?l ?c ?k (fun _ _ _ _ _ _ us hl => match us, hl with | [_, _], _ => rfl)
      (case a => k_is); (case l => k_is); (case c => k_is); (case k => k_is)
    obtain ⟨d__law_heap, e__law_heap⟩ : ∃ D : U.Dfn _ mg "_law_heap" K02.s__law_heap ["_law_cells_here", "_law_kind"], D.fd.code = _ := by
      refine' K02.dfn_mk KX G ?a ?l ?c ?k (fun _ _ _ _ _ _ us hl => match us, hl with | [_, _], _ => rfl)
      (case a => k_is); (case l => k_is); (case c => k_is); (case k => k_is)
    obtain ⟨d__law_same, e__law_same⟩ : ∃ D : U.Dfn _ mg "_law_same" K02.s__law_same ["_law_told", "_law_due"], D.fd.code = _ := by
      refine' K02.dfn_mk KX G ?a ?l ?c ?k (fun _ _ _ _ _ _ us hl => match us, hl with | [_, _], _ => rfl)
      (case a => k_is); (case l => k_is); (case c => k_is); (case k => k_is)
    obtain ⟨d__law_across, e__law_across⟩ : ∃ D : U.Dfn _ mg "_law_across" K02.s__law_across ["_law_pile", "_law_left", "_law_right"], D.fd.code = _ := by
      refine' K02.dfn_mk KX G ?a ?l ?c ?k (fun _ _ _ _ _ _ us hl => match us, hl with | [_, _, _], _ => rfl)
      (case a => k_is); (case l => k_is); (case c => k_is); (case k => k_is)
    obtain ⟨d__law_parted, e__law_parted⟩ : ∃ D : U.Dfn _ mg "_law_parted" K02.s__law_parted ["_law_pile", "_law_part"], D.fd.code = _ := by
      refine' K02.dfn_mk KX G ?a ?l ?c ?k (fun _ _ _ _ _ _ us hl => match us, hl with | [_, _], _ => rfl)
      (case a => k_is); (case l => k_is); (case c => k_is); (case k => k_is)
    obtain ⟨d__law_grown, e__law_grown⟩ : ∃ D : U.Dfn _ mg "_law_grown" K02.s__law_grown ["_law_pile", "_law_seed", "_law_part"], D.fd.code = _ := by
      refine' K02.dfn_mk KX G ?a ?l ?c ?k (fun _ _ _ _ _ _ us hl => match us, hl with | [_, _, _], _ => rfl)
      (case a => k_is); (case l => k_is); (case c => k_is); (case k => k_is)
    obtain ⟨d__law_hangs, e__law_hangs⟩ : ∃ D : U.Dfn _ mg "_law_hangs" K02.s__law_hangs ["_law_pile", "_law_part"], D.fd.code = _ := by
      refine' K02.dfn_mk KX G ?a ?l ?c ?k (fun _ _ _ _ _ _ us hl => match us, hl with | [_, _], _ => rfl)
      (case a => k_is); (case l => k_is); (case c => k_is); (case k => k_is)
    obtain ⟨d__law_pieces, e__law_pieces⟩ : ∃ D : U.Dfn _ mg "_law_pieces" K02.s__law_pieces ["_law_pile"], D.fd.code = _ := by
      refine' K02.dfn_mk KX G ?a ?l ?c ?k (fun _ _ _ _ _ _ us hl => match us, hl with | [_], _ => rfl)
      (case a => k_is); (case l => k_is); (case c => k_is); (case k => k_is)
    obtain ⟨d__law_gates, e__law_gates⟩ : ∃ D : U.Dfn _ mg "_law_gates" K02.s__law_gates ["_law_pile", "_law_left", "_law_right"], D.fd.code = _ := by
      refine' K02.dfn_mk KX G ?a ?l ?c ?k (fun _ _ _ _ _ _ us hl => match us, hl with | [_, _, _], _ => rfl)
      (case a => k_is); (case l => k_is); (case c => k_is); (case k => k_is)
    obtain ⟨d__law_lot, e__law_lot⟩ : ∃ D : U.Dfn _ mg "_law_lot" K02.s__law_lot ["_law_cells_here", "_law_pile"], D.fd.code = _ := by
      refine' K02.dfn_mk KX G ?a ?l ?c ?k (fun _ _ _ _ _ _ us hl => match us, hl with | [_, _], _ => rfl)
      (case a => k_is); (case l => k_is); (case c => k_is); (case k => k_is)
    obtain ⟨d_law, e_law⟩ : ∃ D : U.Dfn _ mg "law" K02.s_law ["_law_script"], D.fd.code = _ := by
      refine' K02.dfn_mk KX G ?a ?l ?c ?k (fun _ _ _ _ _ _ us hl => match us, hl with | [_], _ => rfl)
      (case a => k_is); (case l => k_is); (case c => k_is); (case k => k_is)
    have z_abs : mg "abs" = none := PySem.W.mg_none_of KX G (by k_is)
    have z_all : mg "all" = none := PySem.W.mg_none_of KX G (by k_is)
    have z_bool : mg "bool" = none := PySem.W.mg_none_of KX G (by k_is)
    have z_int : mg "int" = none := PySem.W.mg_none_of KX G (by k_is)
    have z_isinstance : mg "isinstance" = none := PySem.W.mg_none_of KX G (by k_is)
    have z_len : mg "len" = none := PySem.W.mg_none_of KX G (by k_is)
    have z_list : mg "list" = none := PySem.W.mg_none_of KX G (by k_is)
    have z_range : mg "range" = none := PySem.W.mg_none_of KX G (by k_is)
    have z_reversed : mg "reversed" = none := PySem.W.mg_none_of KX G (by k_is)
    have z_sorted : mg "sorted" = none := PySem.W.mg_none_of KX G (by k_is)
    have z_sum : mg "sum" = none := PySem.W.mg_none_of KX G (by k_is)
    have z_tuple : mg "tuple" = none := PySem.W.mg_none_of KX G (by k_is)
    refine' K02.law_at (Pt := 100) ⟨d_need, d_reached_from, d_is_integer, d_is_number, d_is_below, d_is_tuple_of, d_are_below, d_ascends, d_is_word, d_is_lot, d_is_set_below, d_gates_of, d_within, d_leaving, d_entering, d_crossing, d_hangs_together, d_pieces_of, d_fan_of, d_ends_of, d_surplus_of, d_from_word, d_to_word, d__law_mix, d__law_cells, d__law_pick, d__law_dealt, d__law_ring, d__law_side_by_side, d__law_heap, d__law_same, d__law_across, d__law_parted, d__law_grown, d__law_hangs, d__law_pieces, d__law_gates, d__law_lot, d_law, z_abs, z_all, z_bool, z_int, z_isinstance, z_len, z_list, z_range, z_reversed, z_sorted, z_sum, z_tuple⟩ hmg e_are_below (PySem.W.km_tabs_of Y _ List.mem_cons_self) ?n (PySem.W.codeHd_of_K KX ?c)
    (case n => kernel_rfl); (case c => kernel_rfl)
