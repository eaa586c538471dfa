import PyProof.Rows.All
import Wide.All
import OpenK.AllK
import Wide.FinOn
import HandS.ForMost
import HandS.CallLocal
import HandS.IsInst
import HandS.Lambda
import HandS.Nested
import HandS.EndTab
import HandS.Rev
import HandS.RevTup
import HandS.Conv
import HandS.More
import KE.KRevIter
import PyProof.ListNew
import PyProof.ListStr
import HandS.Evl
import PySem.Challenge.RW_unsewn_k01_whole_leaves_by_going_through
set_option Elab.async false
set_option linter.all false
set_option maxRecDepth 100000
set_option maxHeartbeats 4000000
/-! A lambda with parameters that is handed to a def of the text and called there: its object and its cells stand in a larger base. -/
namespace Clo
open PySem PySem.Spec PyProof.Rows L2 LamX NdefX

/-- what nobody tracks and no running frame owns -/
def still (h : Heap) (H : Hp) (fs : List Addr) : Heap := PySem.W.hideAll h (trk h H ++ fs)
theorem still_of {h : Heap} {H : Hp} {fs : List Addr} {b : Addr} {o : Obj} (e : (still h H fs).get? b = some o) : h.get? b = some o ∧ H b = none := by
  have e' : h.get? b = some o := PySem.W.of_hideAll _ e
  refine ⟨e', ?_⟩
  cases q : H b with
  | none => rfl
  | some x =>
    exfalso
    have hm : b ∈ trk h H ++ fs := by
      refine List.mem_append_left _ (List.mem_filter.mpr ⟨List.mem_range.mpr (Heap.lt_size e'), ?_⟩)
      rw [q]
      rfl
    have z : (still h H fs).get? b = none := PySem.W.hideAll_none _ hm
    rw [z] at e
    cases e
theorem still_get {h : Heap} {H : Hp} {fs : List Addr} {b : Addr} {o : Obj} (e : h.get? b = some o) (n : H b = none) (nf : b ∉ fs) : (still h H fs).get? b = some o := by
  refine PySem.W.hideAll_get _ e fun hm => ?_
  rcases List.mem_append.mp hm with z | z
  · have q : (H b).isSome = true := (List.mem_filter.mp z).2
    rw [n] at q
    cases q
  · exact nf z
section
variable {X : Cx} {pins : List (Addr × Obj)} {σ : L2.St} {H : Hp} {s : Shared}
theorem base_still (I : Inv X pins σ H s) : ∀ b o, X.base.get? b = some o → (still s.heap H (frs X.stack)).get? b = some o := fun b o e => by
  obtain ⟨h1, h2⟩ := I.bs b o e
  refine still_get h1 h2 fun hm => ?_
  obtain ⟨hn, _⟩ := I.stack.mem hm
  rw [e] at hn
  cases hn
theorem mem_frs {l : List Env} {env : Env} {a : Addr} (h : env ∈ l) (e : env.frame = some a) : a ∈ frs l := List.mem_filterMap.mpr ⟨env, h, e⟩
theorem env_still (I : Inv X pins σ H s) : Env0 X.prog X.w X.K X.mg (still s.heap H (frs X.stack)) X.A X.stack s H := by
  have b0 := base_still I
  have e0 := I.env0
  refine ⟨e0.frames, ⟨I.ok.mod.kin.keeps b0, I.ok.mod.glob.keeps b0, ?_, I.ok.mod.nolimit.keeps b0⟩, fun b o e => still_of e, Nat.le_of_eq (PySem.W.hideAll_size _ _), ?_, e0.frf, e0.hok, e0.bare⟩
  · obtain ⟨mb, h1, h2⟩ := I.ok.mod.blt
    exact ⟨mb, h1.keeps b0, h2⟩
  · exact PySem.W.funFrames_hide e0.funs fun env he a ea => List.mem_append_right _ (mem_frs he ea)
end
/-- a lambda and what its cells hold, in the base -/
structure IsClo (base : Heap) (f c' : Addr) (q : Str) (params : Arguments) (body : Expr) (scope : Scope) (cl : List (Str × Addr)) (fr : List Str) (ws : List V) : Prop where
  obj : ∃ pm ctv, base.get? f = some (PySem.W.kla_obj "<lambda>" q params body scope cl pm c' ctv)
  len : ws.length = fr.length
  inj : ∀ x y c, cl.lookup x = some c → cl.lookup y = some c → x = y
  all : ∀ y c, cl.lookup y = some c → ∃ v, base.IsCell c v
  has : ∀ (i : Nat) (y : Str) (v : V), fr[i]? = some y → ws[i]? = some v → ∃ c u, cl.lookup y = some c ∧ RelV v u ∧ base.IsCell c (some u)
section
variable {Z : Cx} {pins : List (Addr × Obj)} {σ : L2.St} {H : Hp} {s : Shared} {f c' : Addr} {q : Str} {params : Arguments} {body : Expr} {scope : Scope} {cl : List (Str × Addr)} {fr : List Str} {ws : List V}
theorem IsClo.cells (B : IsClo Z.base f c' q params body scope cl fr ws) (I : Inv Z pins σ H s) : CellsAt cl fr (ws.map some) s.heap H := by
  have up : ∀ {c : Addr} {v : Option Value}, Z.base.IsCell c v → s.heap.IsCell c v ∧ H c = none := fun {c v} ⟨o, ho, hd⟩ => by
    obtain ⟨h1, h2⟩ := I.bs _ _ ho
    exact ⟨⟨o, h1, hd⟩, h2⟩
  refine ⟨by rw [List.length_map]; exact B.len, fun y c e => ?_, B.inj, fun i y e => ?_⟩
  · obtain ⟨v, z⟩ := B.all y c e
    exact ⟨(up z).2, v, (up z).1⟩
  · have hi : i < ws.length := by
      rw [B.len]
      exact (List.getElem?_eq_some_iff.mp e).1
    obtain ⟨c, u, h1, h2, h3⟩ := B.has i y ws[i] e (List.getElem?_eq_getElem hi)
    refine ⟨c, h1, fun v ev => ⟨u, ?_, (up h3).1⟩⟩
    rw [List.getElem?_map, List.getElem?_eq_getElem hi] at ev
    have ev' : ws[i] = v := Option.some.inj (Option.some.inj ev)
    rw [← ev']
    exact h2
end
abbrev nf (q : Str) (params : Arguments) (scope : Scope) (cl : List (Str × Addr)) (c' : Addr) : NF := ⟨"<lambda>", q, params, [], scope, cl, c'⟩
section
variable {Z : Cx} {f c' : Addr} {q : Str} {params : Arguments} {body : Expr} {scope : Scope} {cl : List (Str × Addr)} {N ps fr : List Str} {ws : List V} {i k : Nat} {x : Str} {t : TA} {tb : TE} {e : Expr} {es : List Expr} {p pos : Pos}
/-- x(e, ..), the slot i holding the lambda -/
def tClo (i : Nat) (f c' : Addr) (q : Str) (N ps : List Str) (ws : List V) (t : TA) (tb : TE) : TE := fun σ H Q =>
  σ[i]? = some (some (.ref f)) ∧ t σ H fun vs H1 => vs.length = ps.length ∧ H1 c' = some (CodeO c' q) ∧ tb (startF N vs (ws.map some)) H1 Q
theorem pe_clo (B : IsClo Z.base f c' q params body scope cl fr ws) (S : NScope N ps fr scope)
    (hb : ∀ (pm ctv : Value) (us : List Value), us.length = ps.length → bindArgs (PySem.W.kla_fn "<lambda>" q params body scope cl pm (.ref c') ctv) ⟨us, []⟩ = pure (ps.zip us)) (hr : Room (k + 1) Z.A)
    (hbody : ∀ (A : Around) (outer : List Env) (s : Shared) (H : Hp) (E : XK), Room k (A.deeper (envF (nf q params scope cl c') f s.heap.objs.size)) → PE (ncx L2.CX0 Z.prog Z.w Z.K Z.mg Z.base N (nf q params scope cl c') f A outer s H E) body tb)
    (hN : Z.N[i]? = some x) (hv : Vis Z.env.scope x) (ha : PA Z (e :: es) t)
    (hd : (x == ("__debug__" : Str)) = false := by decide) (hcd : (x == ("__classdict__" : Str)) = false := by decide)
    (he : starEach (e :: es) Z.env = (false, eval e Z.env) :: starEach es Z.env := by rfl) (hpl : (backTo pos (starEach es Z.env)).any (·.1) = false := by rfl) :
    PE Z (.Call (.Name x p) (e :: es) [] pos) (tClo i f c' q N ps ws t tb) := by
  refine ⟨fun pins s σ H Q I h => ?_⟩
  obtain ⟨hs, ht⟩ := h
  obtain ⟨pm, ctv, ho⟩ := B.obj
  refine wpAny_Call_Name_kw (thn ((pe_var (pos := p) (i := i) hN hv hd hcd).run pins s σ H (fun v H1 => v = .ref f ∧ H1 = H) I ⟨.ref f, hs, rfl, rfl⟩) fun u s1 ⟨v, H1, I1, r1, q1⟩ => ?_)
  obtain ⟨ev, eH⟩ := q1
  subst ev
  rw [eH] at I1
  obtain rfl : u = Value.ref f := r1
  have fa : ∀ {σ' : L2.St} {H' : Hp} {s' : Shared}, Inv Z pins σ' H' s' → PySem.W.FnAt f s'.heap := fun I' => ⟨_, _, _, _, I'.bk _ _ ho⟩
  refine PySem.W.callWith_F (first := []) (fa I1) (thn (ha.run pos pins s1 σ H _ I1 ht) fun us s2 ⟨vs, H2, I2, r, hl, hc, hq⟩ => ⟨fa I2, ?_⟩) he hpl
  show wpAny _ _ (call (.ref f) us) _ _ _
  have hul : us.length = ps.length := by rw [← r.length]; exact hl
  obtain ⟨⟨oc, vc, tc, hoc, hdc, hvc⟩, _, _⟩ := I2.hok c' _ hc
  have e0 := I2.env0
  have lim : s2.heap.NoLimit := I2.nolimit
  have rc : codeAny (model Z.prog Z.w) Z.A (.call (.ref f) ⟨us, []⟩) (CR L2.CX0 Z.stack Z.prog Z.w H2 s2 Q L2.E0) s2 := by
    refine PySem.W.kla_callFunE hr.depth (I2.bk _ _ ho) rfl S.co S.gen rfl ⟨c', oc, vc, tc, rfl, hoc, hdc, hvc⟩ ?_
    rw [hb pm ctv us hul]
    refine wpAny_pure (wpAny_newFunctionEnv S.nocell (fun ⟨n, _⟩ hy => S.par n (List.of_mem_zip hy).1) (fun h₁ hns hsb => ⟨lim.fresh _ hsb, ?_⟩) S.kind)
    have kp : ∀ b o, s2.heap.get? b = some o → h₁.get? b = some o := fun b o e => hsb.extBut b o (Nat.ne_of_lt (Heap.lt_size e)) (Heap.get?_push_of_some _ e)
    have J : Inv (ncx L2.CX0 Z.prog Z.w Z.K Z.mg Z.base N (nf q params scope cl c') f Z.A Z.stack s2 H2 L2.E0) [] (startF N vs (ws.map some)) H2 { s2 with heap := h₁, toks := s2.toks + (ps.zip us).length } :=
      inv_startN S hr.hd e0 hl r (B.cells I2) hns kp
    refine PySem.W.kla_codeExpr (wpAny_mono ((hbody Z.A Z.stack s2 H2 L2.E0 (hr.deeper _)).run [] _ _ H2 Q J hq) (fun v s' hq => ?_) fun e s' hq => hq)
    obtain ⟨w', H', J', rv, q⟩ := hq
    exact ⟨w', H', J'.os, J'.bare, J'.base, J'.hok, rv, q⟩
  refine wpAny_call (codeAny_mono rc fun r s' hq => ?_)
  cases r with
  | error e => exact (show False from hq).elim
  | ok fl =>
    cases fl with
    | ret u => exact I2.after hq
    | next => exact False.elim hq
    | brk => exact False.elim hq
    | cont => exact False.elim hq
end
end Clo
/-! Worlds that grow, data that stays, and what a reading comes to. -/
namespace U
open PySem PySem.Spec PyProof.Rows L2 LamX

abbrev TL := List (Addr × Str)
/-- what can't change once it is there -/
def fixed : HO → Bool
  | .tup _ => true
  | .frz _ _ => true
  | _ => false
/-- from H to H': all that was tracked is as it was, but for the lists at ms and the tables, and these are good -/
structure G (T : TL) (ms : List Addr) (H H' : Hp) : Prop where
  keep : ∀ a o, H a = some o → a ∉ ms → (∀ ps, o ≠ .tbl ps) → H' a = some o
  fix : ∀ a o, H a = some o → fixed o = true → H' a = some o
  tabs : Tabs T H'
section
variable {T : TL} {ms : List Addr} {H H1 H2 : Hp} {a p : Addr} {xs ys : List V}
theorem fixed_tbl {o : HO} (h : fixed o = true) : ∀ ps, o ≠ .tbl ps := fun ps z => by
  rw [z] at h
  cases h
theorem G.refl (t : Tabs T H) : G T ms H H := ⟨fun _ _ h _ _ => h, fun _ _ h _ => h, t⟩
theorem G.trans (x : G T ms H H1) (y : G T ms H1 H2) : G T ms H H2 := ⟨fun a o h n z => y.keep a o (x.keep a o h n z) n z, fun a o h z => y.fix a o (x.fix a o h z) z, y.tabs⟩
theorem G.wide (x : G T [] H H1) : G T ms H H1 := ⟨fun a o h _ z => x.keep a o h (by simp) z, x.fix, x.tabs⟩
theorem G.lst (x : G T ms H H1) (h : H a = some (.lst xs)) (n : a ∉ ms) : H1 a = some (.lst xs) := x.keep a _ h n fun _ z => by cases z
theorem G.lst0 (x : G T [] H H1) (h : H a = some (.lst xs)) : H1 a = some (.lst xs) := x.lst h (by simp)
theorem G.tup (x : G T ms H H1) (h : H a = some (.tup xs)) : H1 a = some (.tup xs) := x.fix a _ h rfl
theorem G.seqT {K : PySem.W.Frag} (x : G T ms H H1) (h : SqT K H a xs) : SqT K H1 a xs := by
  rcases h with (h | ⟨o, h⟩) | h
  · exact .inl (.inl (x.fix _ _ h rfl))
  · exact .inl (.inr ⟨o, x.fix _ _ h rfl⟩)
  · exact .inr h
/-- a list that is fresh, or may change -/
theorem G.seqL {K : PySem.W.Frag} (x : G T [] H H1) (h : SqL K H a xs) : SqL K H1 a xs := by
  rcases h with (h | ⟨o, h⟩) | h
  · exact .inl (.inl (x.lst0 h))
  · exact .inl (.inr ⟨o, x.fix _ _ h rfl⟩)
  · exact .inr h
/-- p is not tracked, but as a table -/
def Nw (H : Hp) (p : Addr) : Prop := ∀ o, H p = some o → ∃ ps, o = .tbl ps
theorem Nw.of (h : H p = none) : Nw H p := fun o e => by
  rw [h] at e
  cases e
theorem Nw.back (x : G T ms H H1) (n : p ∉ ms) (h : Nw H1 p) : Nw H p := fun o e => by
  by_cases ht : ∃ ps, o = .tbl ps
  · exact ht
  · exact h o (x.keep p o e n fun ps z => ht ⟨ps, z⟩)
theorem Nw.back0 (x : G T [] H H1) (h : Nw H1 p) : Nw H p := h.back x (by simp)
theorem Nw.ne (h : Nw H p) (e : H a = some (.lst xs)) : a ≠ p := by
  rintro rfl
  obtain ⟨ps, z⟩ := h _ e
  cases z
theorem tabs_new {o : HO} (t : Tabs T H) (h : H p = none) : Tabs T (upd H p o) := fun q hq => (t q hq).ext fun b u e => by
  rw [upd_ne (ne_of_none e h)]
  exact e
theorem G.new {o : HO} (t : Tabs T H) (h : H p = none) : G T ms H (upd H p o) :=
  ⟨fun a u e _ _ => by rw [upd_ne (ne_of_none e h)]; exact e, fun a u e _ => by rw [upd_ne (ne_of_none e h)]; exact e, tabs_new t h⟩
theorem tabs_put {o : HO} (t : Tabs T H) (h : H p = some (.lst xs)) : Tabs T (upd H p o) := fun q hq => by
  obtain ⟨ps, e1, e2, e3⟩ := t q hq
  refine ⟨ps, ?_, e2, fun pos cv hc => ?_⟩
  · rw [upd_ne (ne_of e1 h (by intro z; cases z))]
    exact e1
  · obtain ⟨c, z1, z2⟩ := e3 pos cv hc
    refine ⟨c, z1, ?_⟩
    rw [upd_ne (ne_of z2 h (by intro z; unfold CodeO at z; cases z))]
    exact z2
theorem upd_fix {o u : HO} (h : H p = some (.lst xs)) (e : H a = some u) (z : fixed u = true) : upd H p o a = some u := by
  rw [upd_ne (ne_of e h (by intro q; subst q; cases z))]
  exact e
/-- a list changes that was not there, or may change -/
theorem G.put (x : G T ms H H1) (hp : p ∈ ms ∨ Nw H p) (h : H1 p = some (.lst xs)) : G T ms H (upd H1 p (.lst ys)) := by
  refine ⟨fun a o e n z => ?_, fun a o e z => upd_fix h (x.fix a o e z) z, tabs_put x.tabs h⟩
  have ne : a ≠ p := by
    rcases hp with hp | hp
    · rintro rfl
      exact n hp
    · rintro rfl
      obtain ⟨ps, q⟩ := hp _ e
      exact z ps q
  rw [upd_ne ne]
  exact x.keep a o e n z
/-- a list made on the way falls away from what may change -/
theorem G.less (x : G T (p :: ms) H H1) (hp : Nw H p) : G T ms H H1 :=
  ⟨fun a o e n z => x.keep a o e (by
    intro q
    rcases List.mem_cons.mp q with q | q
    · rw [q] at e
      obtain ⟨ps, w⟩ := hp _ e
      exact z ps w
    · exact n q) z, x.fix, x.tabs⟩
end

/-! ### data -/
/-- what a value is: scalars, tuples of such, and where a list stands -/
inductive D where
  | non
  | bl (b : Bool)
  | int (i : Int)
  | str (s : Str)
  | tup (ds : List D)
  | ptr (a : Addr)
mutual
inductive Im (K : PySem.W.Frag) (H : Hp) : V → D → Prop
  | non : Im K H .non .non
  | bl (b : Bool) : Im K H (.bl b) (.bl b)
  | int (i : Int) : Im K H (.int i) (.int i)
  | str (s : Str) : Im K H (.str s) (.str s)
  | tup {a : Addr} {xs : List V} {ds : List D} : SqT K H a xs → ImA K H xs ds → Im K H (.ref a) (.tup ds)
  | ptr (a : Addr) : Im K H (.ref a) (.ptr a)
inductive ImA (K : PySem.W.Frag) (H : Hp) : List V → List D → Prop
  | nil : ImA K H [] []
  | cons {v : V} {d : D} {vs : List V} {ds : List D} : Im K H v d → ImA K H vs ds → ImA K H (v :: vs) (d :: ds)
end
section
variable {K : PySem.W.Frag} {H H' : Hp} {v : V} {d : D} {vs : List V} {ds : List D} {T : TL} {ms : List Addr}
mutual
theorem Im.fix (k : ∀ a xs, SqT K H a xs → SqT K H' a xs) : ∀ {v : V} {d : D}, Im K H v d → Im K H' v d
  | _, _, .non => .non
  | _, _, .bl b => .bl b
  | _, _, .int i => .int i
  | _, _, .str s => .str s
  | _, _, .ptr a => .ptr a
  | _, _, .tup h r => .tup (k _ _ h) (ImA.fix k r)
theorem ImA.fix (k : ∀ a xs, SqT K H a xs → SqT K H' a xs) : ∀ {vs : List V} {ds : List D}, ImA K H vs ds → ImA K H' vs ds
  | _, _, .nil => .nil
  | _, _, .cons h r => .cons (Im.fix k h) (ImA.fix k r)
end
theorem Im.up (x : G T ms H H') (h : Im K H v d) : Im K H' v d := h.fix fun _ _ q => x.seqT q
theorem ImA.up (x : G T ms H H') (h : ImA K H vs ds) : ImA K H' vs ds := h.fix fun _ _ q => x.seqT q
theorem ImA.length : ∀ {vs : List V} {ds : List D}, ImA K H vs ds → vs.length = ds.length
  | _, _, .nil => rfl
  | _, _, .cons _ r => by rw [List.length_cons, List.length_cons, r.length]
theorem ImA.get : ∀ {vs : List V} {ds : List D} {i : Nat} {d : D}, ImA K H vs ds → ds[i]? = some d → ∃ v, vs[i]? = some v ∧ Im K H v d
  | _, _, _, _, .nil, e => by simp at e
  | _, _, 0, _, .cons h _, e => by
    have e' := Option.some.inj e
    subst e'
    exact ⟨_, rfl, h⟩
  | _, _, i + 1, _, .cons _ r, e => by
    obtain ⟨v, h1, h2⟩ := ImA.get (i := i) r (by simpa using e)
    exact ⟨v, by simpa using h1, h2⟩
theorem ImA.getV : ∀ {vs : List V} {ds : List D} {i : Nat} {v : V}, ImA K H vs ds → vs[i]? = some v → ∃ d, ds[i]? = some d ∧ Im K H v d
  | _, _, _, _, .nil, e => by simp at e
  | _, _, 0, _, .cons h _, e => by
    have e' := Option.some.inj e
    subst e'
    exact ⟨_, rfl, h⟩
  | _, _, i + 1, _, .cons _ r, e => by
    obtain ⟨v, h1, h2⟩ := ImA.getV (i := i) r (by simpa using e)
    exact ⟨v, by simpa using h1, h2⟩
theorem ImA.append : ∀ {vs ws : List V} {ds es : List D}, ImA K H vs ds → ImA K H ws es → ImA K H (vs ++ ws) (ds ++ es)
  | _, _, _, _, .nil, r => r
  | _, _, _, _, .cons h t, r => .cons h (ImA.append t r)
theorem ImA.drop : ∀ {vs : List V} {ds : List D} (n : Nat), ImA K H vs ds → ImA K H (vs.drop n) (ds.drop n)
  | _, _, 0, r => r
  | _, _, _ + 1, .nil => .nil
  | _, _, n + 1, .cons _ r => ImA.drop n r
theorem ImA.take : ∀ {vs : List V} {ds : List D} (n : Nat), ImA K H vs ds → ImA K H (vs.take n) (ds.take n)
  | _, _, 0, _ => .nil
  | _, _, _ + 1, .nil => .nil
  | _, _, n + 1, .cons h r => .cons h (ImA.take n r)
theorem ImA.erase : ∀ {vs : List V} {ds : List D} (n : Nat), ImA K H vs ds → ImA K H (vs.eraseIdx n) (ds.eraseIdx n)
  | _, _, _, .nil => .nil
  | _, _, 0, .cons _ r => r
  | _, _, n + 1, .cons h r => .cons h (ImA.erase n r)
theorem ImA.put : ∀ {vs : List V} {ds : List D} {v : V} {d : D} (n : Nat), Im K H v d → ImA K H vs ds → ImA K H (vs.set n v) (ds.set n d)
  | _, _, _, _, _, _, .nil => .nil
  | _, _, _, _, 0, q, .cons _ r => .cons q r
  | _, _, _, _, n + 1, q, .cons h r => .cons h (ImA.put n q r)
theorem ImA.init : ∀ {vs : List V} {ds : List D}, ImA K H vs ds → ImA K H vs.dropLast ds.dropLast
  | _, _, .nil => .nil
  | _, _, .cons _ .nil => .nil
  | _, _, .cons h (.cons h' r) => .cons h (ImA.init (.cons h' r))
theorem ImA.rev : ∀ {vs : List V} {ds : List D}, ImA K H vs ds → ImA K H vs.reverse ds.reverse
  | _, _, .nil => .nil
  | _, _, .cons h r => by
    rw [List.reverse_cons, List.reverse_cons]
    exact (ImA.rev r).append (.cons h .nil)
theorem im_int {i : Int} (h : Im K H v (.int i)) : v = .int i := by cases h; rfl
theorem im_bl {b : Bool} (h : Im K H v (.bl b)) : v = .bl b := by cases h; rfl
theorem im_str {s : Str} (h : Im K H v (.str s)) : v = .str s := by cases h; rfl
theorem im_non (h : Im K H v .non) : v = .non := by cases h; rfl
theorem im_ptr {a : Addr} (h : Im K H v (.ptr a)) : v = .ref a := by cases h; rfl
theorem im_tup (h : Im K H v (.tup ds)) : ∃ a xs, v = .ref a ∧ SqT K H a xs ∧ ImA K H xs ds := by
  cases h with
  | tup h r => exact ⟨_, _, rfl, h, r⟩
theorem ima_ints : ∀ {ns : List Int} {vs : List V}, ImA K H vs (ns.map D.int) → vs = ns.map V.int
  | [], _, .nil => rfl
  | n :: ns, _, .cons h r => by
    rw [im_int h, ima_ints r]
    rfl
theorem ints_ima : ∀ (ns : List Int), ImA K H (ns.map V.int) (ns.map D.int)
  | [] => .nil
  | n :: ns => .cons (.int n) (ints_ima ns)
theorem ima_bls : ∀ {ns : List Bool} {vs : List V}, ImA K H vs (ns.map D.bl) → vs = ns.map V.bl
  | [], _, .nil => rfl
  | n :: ns, _, .cons h r => by
    rw [im_bl h, ima_bls r]
    rfl
/-- the list at p holds these -/
def Ls (K : PySem.W.Frag) (H : Hp) (p : Addr) (ds : List D) : Prop := ∃ vs, H p = some (.lst vs) ∧ ImA K H vs ds
theorem Ls.up {p : Addr} (x : G T ms H H') (h : Ls K H p ds) (n : p ∉ ms) : Ls K H' p ds := by
  obtain ⟨vs, h1, h2⟩ := h
  exact ⟨vs, x.lst h1 n, h2.up x⟩
theorem Ls.up0 {p : Addr} (x : G T [] H H') (h : Ls K H p ds) : Ls K H' p ds := h.up x (by simp)
/-- the list at p, also one of the script's -/
def Lr (K : PySem.W.Frag) (H : Hp) (p : Addr) (ds : List D) : Prop := ∃ vs, SqL K H p vs ∧ ImA K H vs ds
theorem Ls.lr {p : Addr} (h : Ls K H p ds) : Lr K H p ds := let ⟨vs, h1, h2⟩ := h; ⟨vs, SqL.of h1, h2⟩
theorem Lr.up {p : Addr} (x : G T [] H H') (h : Lr K H p ds) : Lr K H' p ds := by
  obtain ⟨vs, h1, h2⟩ := h
  exact ⟨vs, x.seqL h1, h2.up x⟩
/-- another list changes -/
theorem Im.put {p : Addr} {xs : List V} {o : HO} (hp : H p = some (.lst xs)) (h : Im K H v d) : Im K (upd H p o) v d := h.fix fun a ys q => by
  rcases q with (q | ⟨ob, q⟩) | q
  · exact .inl (.inl (upd_fix hp q rfl))
  · exact .inl (.inr ⟨ob, upd_fix hp q rfl⟩)
  · exact .inr q
theorem ImA.putH {p : Addr} {xs : List V} {o : HO} (hp : H p = some (.lst xs)) (h : ImA K H vs ds) : ImA K (upd H p o) vs ds := h.fix fun a ys q => by
  rcases q with (q | ⟨ob, q⟩) | q
  · exact .inl (.inl (upd_fix hp q rfl))
  · exact .inl (.inr ⟨ob, upd_fix hp q rfl⟩)
  · exact .inr q
end

/-! ### what a reading comes to -/
def Ev (T : TL) (te : TE) (σ : L2.St) (H : Hp) (A : Hp → V → Hp → Prop) : Prop := ∀ H1, G T [] H H1 → ∀ Q : VK, (∀ v H2, G T [] H1 H2 → A H1 v H2 → Q v H2) → te σ H1 Q
/-- .. to the data d -/
abbrev EvI (T : TL) (K : PySem.W.Frag) (te : TE) (σ : L2.St) (H : Hp) (d : D) : Prop := Ev T te σ H fun _ v H2 => Im K H2 v d
/-- .. to a new list of these -/
abbrev EvN (T : TL) (K : PySem.W.Frag) (te : TE) (σ : L2.St) (H : Hp) (ds : List D) : Prop := Ev T te σ H fun H1 v H2 => ∃ p, v = .ref p ∧ Nw H1 p ∧ Ls K H2 p ds
def EvT (T : TL) (tt : TT) (σ : L2.St) (H : Hp) (b : Bool) : Prop := ∀ H1, G T [] H H1 → ∀ Q : Bool → Hp → Prop, (∀ H2, G T [] H1 H2 → Q b H2) → tt σ H1 Q
def EvA (T : TL) (K : PySem.W.Frag) (ta : TA) (σ : L2.St) (H : Hp) (ds : List D) : Prop := ∀ H1, G T [] H H1 → ∀ Q : List V → Hp → Prop, (∀ vs H2, G T [] H1 H2 → ImA K H2 vs ds → Q vs H2) → ta σ H1 Q
/-- a pure def: it gives r for the arguments ds -/
def spF (T : TL) (K : PySem.W.Frag) (F : List D → D → Prop) : Sp := fun vs H Q _ => ∃ ds r, ImA K H vs ds ∧ Tabs T H ∧ F ds r ∧ ∀ v H2, G T [] H H2 → Im K H2 v r → Q v H2
/-- .. it gives a new list -/
def spN (T : TL) (K : PySem.W.Frag) (F : List D → List D → Prop) : Sp := fun vs H Q _ => ∃ ds r, ImA K H vs ds ∧ Tabs T H ∧ F ds r ∧ ∀ p H2, G T [] H H2 → Nw H p → Ls K H2 p r → Q (.ref p) H2
section
variable {T : TL} {K : PySem.W.Frag} {σ : L2.St} {H H' : Hp} {te ta tb tc : TE} {t u : TT} {d e : D} {ds es : List D} {v : V} {x y : D}
theorem Ev.up {A : Hp → V → Hp → Prop} (g : G T [] H H') (h : Ev T te σ H A) : Ev T te σ H' A := fun H1 a Q q => h H1 (g.trans a) Q q
theorem EvT.up {b : Bool} (g : G T [] H H') (h : EvT T t σ H b) : EvT T t σ H' b := fun H1 a Q q => h H1 (g.trans a) Q q
theorem ei_var {i : Nat} (h : σ[i]? = some (some v)) (hd : Im K H v d) : EvI T K (tVar i) σ H d := fun H1 g _ q => ⟨v, h, q v H1 (.refl g.tabs) (hd.up g)⟩
theorem ei_c (h : Im K H v d) : EvI T K (tC v) σ H d := fun H1 g _ q => q v H1 (.refl g.tabs) (h.up g)
theorem ei_i {i : Int} : EvI T K (tC (.int i)) σ H (.int i) := ei_c (.int i)
theorem ei_b {b : Bool} : EvI T K (tC (.bl b)) σ H (.bl b) := ei_c (.bl b)
theorem ei_n : EvI T K (tC .non) σ H .non := ei_c .non
theorem ei_s {s : Str} : EvI T K (tC (.str s)) σ H (.str s) := ei_c (.str s)
/-- two operands, then an operation on values -/
theorem ei_op2 {r : R2} {A : Hp → V → Hp → Prop} (ha : EvI T K ta σ H x) (hb : EvI T K tb σ H y)
    (hr : ∀ H1, G T [] H H1 → ∀ v w, Im K H1 v x → Im K H1 w y → ∀ Q : VK, (∀ z H2, G T [] H1 H2 → A H1 z H2 → Q z H2) → r v w H1 Q) (hA : ∀ H1 H2 z H3, G T [] H1 H2 → A H2 z H3 → A H1 z H3) : Ev T (tOp r ta tb) σ H A := fun H1 g Q q =>
  ha H1 g _ fun v H2 g2 hv => hb H2 (g.trans g2) _ fun w H3 g3 hw => hr H3 ((g.trans g2).trans g3) v w (hv.up g3) hw Q fun z H4 g4 hz => q z H4 ((g2.trans g3).trans g4) (hA _ _ _ _ (g2.trans g3) hz)
theorem ei_op {r : R2} (ha : EvI T K ta σ H x) (hb : EvI T K tb σ H y)
    (hr : ∀ H1, G T [] H H1 → ∀ v w, Im K H1 v x → Im K H1 w y → ∀ Q : VK, (∀ z H2, G T [] H1 H2 → Im K H2 z d → Q z H2) → r v w H1 Q) : EvI T K (tOp r ta tb) σ H d := ei_op2 ha hb hr fun _ _ _ _ _ h => h
/-- ints -/
theorem ei_I0 {g : Int → Int → V} {i j : Int} (ha : EvI T K ta σ H (.int i)) (hb : EvI T K tb σ H (.int j)) (hd : ∀ H, Im K H (g i j) d) : EvI T K (tOp (rI0 g) ta tb) σ H d :=
  ei_op ha hb fun H1 g1 v w hv hw Q q => ⟨i, j, im_int hv, im_int hw, q _ H1 (.refl g1.tabs) (hd H1)⟩
theorem ei_I {C : Int → Int → Prop} {g : Int → Int → V} {i j : Int} (ha : EvI T K ta σ H (.int i)) (hb : EvI T K tb σ H (.int j)) (hc : C i j) (hd : ∀ H, Im K H (g i j) d) : EvI T K (tOp (rI C g) ta tb) σ H d :=
  ei_op ha hb fun H1 g1 v w hv hw Q q => ⟨i, j, im_int hv, im_int hw, hc, q _ H1 (.refl g1.tabs) (hd H1)⟩
theorem ei_add {i j : Int} (ha : EvI T K ta σ H (.int i)) (hb : EvI T K tb σ H (.int j)) : EvI T K (tOp (rI0 fun i j => .int (i + j)) ta tb) σ H (.int (i + j)) := ei_I0 ha hb fun _ => .int _
theorem ei_sub {i j : Int} (ha : EvI T K ta σ H (.int i)) (hb : EvI T K tb σ H (.int j)) : EvI T K (tOp (rI0 fun i j => .int (i - j)) ta tb) σ H (.int (i - j)) := ei_I0 ha hb fun _ => .int _
theorem ei_lt {i j : Int} (ha : EvI T K ta σ H (.int i)) (hb : EvI T K tb σ H (.int j)) : EvI T K (tOp (rI0 fun i j => .bl (decide (i < j))) ta tb) σ H (.bl (decide (i < j))) := ei_I0 ha hb fun _ => .bl _
theorem ei_ge {i j : Int} (ha : EvI T K ta σ H (.int i)) (hb : EvI T K tb σ H (.int j)) : EvI T K (tOp (rI0 fun i j => .bl (decide (j ≤ i))) ta tb) σ H (.bl (decide (j ≤ i))) := ei_I0 ha hb fun _ => .bl _
theorem ei_gt {i j : Int} (ha : EvI T K ta σ H (.int i)) (hb : EvI T K tb σ H (.int j)) : EvI T K (tOp (rI0 fun i j => .bl (decide (j < i))) ta tb) σ H (.bl (decide (j < i))) := ei_I0 ha hb fun _ => .bl _
theorem ei_mul {i j : Int} (ha : EvI T K ta σ H (.int i)) (hb : EvI T K tb σ H (.int j)) (hc : CMul i j) : EvI T K (tOp (rI CMul fun i j => .int (i * j)) ta tb) σ H (.int (i * j)) := ei_I ha hb hc fun _ => .int _
theorem ei_mod {i j : Int} (ha : EvI T K ta σ H (.int i)) (hb : EvI T K tb σ H (.int j)) (hc : 0 < j) : EvI T K (tOp (rI (fun _ j => 0 < j) fun i j => .int (i % j)) ta tb) σ H (.int (i % j)) := ei_I ha hb hc fun _ => .int _
theorem ei_div {i j : Int} (ha : EvI T K ta σ H (.int i)) (hb : EvI T K tb σ H (.int j)) (hc : CDiv i j) : EvI T K (tOp (rI CDiv fun i j => .int (i / j)) ta tb) σ H (.int (i / j)) := ei_I ha hb hc fun _ => .int _
theorem ei_pow {i j : Int} (ha : EvI T K ta σ H (.int i)) (hb : EvI T K tb σ H (.int j)) (hc : CPow i j) : EvI T K (tOp (rI CPow fun i j => .int (i ^ j.toNat)) ta tb) σ H (.int (i ^ j.toNat)) := ei_I ha hb hc fun _ => .int _
/-- scalars compared -/
theorem ei_eqI {i j : Int} (ha : EvI T K ta σ H (.int i)) (hb : EvI T K tb σ H (.int j)) : EvI T K (tOp rEq ta tb) σ H (.bl (decide (i = j))) :=
  ei_op ha hb fun H1 g1 v w hv hw Q q => by
    rw [im_int hv, im_int hw]
    refine ⟨rfl, q _ H1 (.refl g1.tabs) ?_⟩
    rw [show decide (V.int i = V.int j) = decide (i = j) from decide_eq_decide.mpr ⟨fun h => V.int.inj h, fun h => by rw [h]⟩]
    exact .bl _
theorem ei_neI {i j : Int} (ha : EvI T K ta σ H (.int i)) (hb : EvI T K tb σ H (.int j)) : EvI T K (tOp rNe ta tb) σ H (.bl (!decide (i = j))) :=
  ei_op ha hb fun H1 g1 v w hv hw Q q => by
    rw [im_int hv, im_int hw]
    refine ⟨rfl, q _ H1 (.refl g1.tabs) ?_⟩
    rw [show decide (V.int i = V.int j) = decide (i = j) from decide_eq_decide.mpr ⟨fun h => V.int.inj h, fun h => by rw [h]⟩]
    exact .bl _
theorem ei_eqB {i j : Bool} (ha : EvI T K ta σ H (.bl i)) (hb : EvI T K tb σ H (.bl j)) : EvI T K (tOp rEq ta tb) σ H (.bl (i == j)) :=
  ei_op ha hb fun H1 g1 v w hv hw Q q => by
    rw [im_bl hv, im_bl hw]
    refine ⟨by cases i <;> cases j <;> rfl, q _ H1 (.refl g1.tabs) ?_⟩
    rw [show decide (V.bl i = V.bl j) = (i == j) by cases i <;> cases j <;> rfl]
    exact .bl _
/-- an item -/
theorem ixA {vs : List V} {i : Int} (h : ImA K H vs ds) (hd : atI ds i = some d) : ∃ v, atI vs i = some v ∧ Im K H v d := by
  unfold atI at hd ⊢
  rw [h.length]
  cases e : ixN ds.length i with
  | none =>
    rw [e] at hd
    cases hd
  | some j =>
    rw [e] at hd
    exact h.get hd
theorem ei_ixT {i : Int} (ha : EvI T K ta σ H (.tup ds)) (hb : EvI T K tb σ H (.int i)) (hd : atI ds i = some d) : EvI T K (tOp (rIx K) ta tb) σ H d :=
  ei_op ha hb fun H1 g1 v w hv hw Q q => by
    obtain ⟨a, xs, rfl, h1, h2⟩ := im_tup hv
    obtain ⟨z, h3, h4⟩ := ixA h2 hd
    exact .inr (.inl ⟨a, xs, i, z, rfl, im_int hw, h1, h3, q z H1 (.refl g1.tabs) h4⟩)
theorem ei_ixL {i : Int} {p : Addr} (ha : EvI T K ta σ H (.ptr p)) (hl : Lr K H p ds) (hb : EvI T K tb σ H (.int i)) (hd : atI ds i = some d) : EvI T K (tOp (rIx K) ta tb) σ H d :=
  ei_op ha hb fun H1 g1 v w hv hw Q q => by
    obtain ⟨vs, h1, h2⟩ := hl.up g1
    obtain ⟨z, h3, h4⟩ := ixA h2 hd
    exact .inl ⟨p, vs, i, z, im_ptr hv, im_int hw, h1, h3, q z H1 (.refl g1.tabs) h4⟩
/-- arguments -/
theorem ea_nil : EvA T K tNil σ H [] := fun H1 g _ q => q [] H1 (.refl g.tabs) .nil
theorem ea_cons {tr : TA} (h : EvI T K ta σ H d) (hr : EvA T K tr σ H ds) : EvA T K (tCons ta tr) σ H (d :: ds) := fun H1 g _ q =>
  h H1 g _ fun v H2 g2 hv => hr H2 (g.trans g2) _ fun vs H3 g3 hvs => q (v :: vs) H3 (g2.trans g3) (.cons (hv.up g3) hvs)
theorem ei_call {F : List D → D → Prop} {tr : TA} (h : EvA T K tr σ H ds) (hF : F ds d) : EvI T K (tCall (spF T K F) [] L2.E0 tr) σ H d := fun H1 g Q q =>
  h H1 g _ fun vs H2 g2 hvs => ⟨ds, d, by rw [List.append_nil]; exact hvs, g2.tabs, hF, fun v H3 g3 hv => q v H3 (g2.trans g3) hv⟩
theorem en_call {F : List D → List D → Prop} {tr : TA} (h : EvA T K tr σ H ds) (hF : F ds es) : EvN T K (tCall (spN T K F) [] L2.E0 tr) σ H es := fun H1 g Q q =>
  h H1 g _ fun vs H2 g2 hvs => ⟨ds, es, by rw [List.append_nil]; exact hvs, g2.tabs, hF, fun p H3 g3 hp hl => q _ H3 (g2.trans g3) ⟨p, rfl, hp.back0 g2, hl⟩⟩
/-- tests -/
theorem et_B {b : Bool} (h : EvI T K te σ H (.bl b)) : EvT T (tB te) σ H b := fun H1 g Q q => h H1 g _ fun v H2 g2 hv => ⟨b, im_bl hv, q H2 g2⟩
theorem et_test {b : Bool} (h : EvI T K te σ H (.bl b)) : EvT T (tTest te) σ H b := fun H1 g Q q => h H1 g _ fun v H2 g2 hv => ⟨b, im_bl hv, q H2 g2⟩
theorem et_yes : EvT T tYes σ H true := fun H1 g Q q => q H1 (.refl g.tabs)
theorem et_and {a b : Bool} (h1 : EvT T t σ H a) (h2 : a = true → EvT T u σ H b) : EvT T (tAnd t u) σ H (a && b) := fun H1 g Q q => h1 H1 g _ fun H2 g2 => by
  cases a with
  | true => exact h2 rfl H2 (g.trans g2) Q fun H3 g3 => q H3 (g2.trans g3)
  | false => exact q H2 g2
theorem et_or {a b : Bool} (h1 : EvT T t σ H a) (h2 : a = false → EvT T u σ H b) : EvT T (tOr t u) σ H (a || b) := fun H1 g Q q => h1 H1 g _ fun H2 g2 => by
  cases a with
  | true => exact q H2 g2
  | false => exact h2 rfl H2 (g.trans g2) Q fun H3 g3 => q H3 (g2.trans g3)
theorem et_not {a : Bool} (h1 : EvT T t σ H a) : EvT T (tNot t) σ H (!a) := fun H1 g Q q => h1 H1 g _ fun H2 g2 => q H2 g2
theorem et_is {a b : Bool} (h : EvT T t σ H a) (e : a = b) : EvT T t σ H b := e ▸ h
theorem ei_is (h : EvI T K te σ H d) (e : d = x) : EvI T K te σ H x := e ▸ h
theorem en_is (h : EvN T K te σ H ds) (e : ds = es) : EvN T K te σ H es := e ▸ h
/-- and, or, not, if as values -/
theorem ei_and {a : Bool} (h1 : EvI T K ta σ H (.bl a)) (h2 : a = true → EvI T K tb σ H d) (h3 : a = false → d = .bl false) : EvI T K (tAndV ta tb) σ H d := fun H1 g Q q => h1 H1 g _ fun v H2 g2 hv => ⟨a, im_bl hv, by
  cases a with
  | true => exact h2 rfl H2 (g.trans g2) Q fun v H3 g3 hv => q v H3 (g2.trans g3) hv
  | false =>
    refine q _ H2 g2 ?_
    rw [h3 rfl]
    exact .bl _⟩
theorem ei_or {a : Bool} (h1 : EvI T K ta σ H (.bl a)) (h2 : a = false → EvI T K tb σ H d) (h3 : a = true → d = .bl true) : EvI T K (tOrV ta tb) σ H d := fun H1 g Q q => h1 H1 g _ fun v H2 g2 hv => ⟨a, im_bl hv, by
  cases a with
  | false => exact h2 rfl H2 (g.trans g2) Q fun v H3 g3 hv => q v H3 (g2.trans g3) hv
  | true =>
    refine q _ H2 g2 ?_
    rw [h3 rfl]
    exact .bl _⟩
theorem ei_not {a : Bool} (h1 : EvI T K ta σ H (.bl a)) : EvI T K (tNotV ta) σ H (.bl (!a)) := fun H1 g Q q => h1 H1 g _ fun v H2 g2 hv => ⟨a, im_bl hv, q _ H2 g2 (.bl _)⟩
theorem ei_if {b : Bool} (h : EvT T t σ H b) (h1 : b = true → EvI T K ta σ H d) (h2 : b = false → EvI T K tb σ H d) : EvI T K (tIf t ta tb) σ H d := fun H1 g Q q => h H1 g _ fun H2 g2 => by
  cases b with
  | true => exact h1 rfl H2 (g.trans g2) Q fun v H3 g3 hv => q v H3 (g2.trans g3) hv
  | false => exact h2 rfl H2 (g.trans g2) Q fun v H3 g3 hv => q v H3 (g2.trans g3) hv
/-- displays -/
theorem ei_tup {tr : TA} (h : EvA T K tr σ H ds) (hl : ds.length ≤ 100000) : EvI T K (tTup tr) σ H (.tup ds) := fun H1 g Q q => h H1 g _ fun vs H2 g2 hvs => by
  refine ⟨Nat.le_trans (by rw [hvs.length]; exact hl) (by decide), fun p hp => ?_⟩
  have gn : G T [] H2 (upd H2 p (.tup vs)) := G.new g2.tabs hp
  exact q _ _ (g2.trans gn) (.tup (SqT.of upd_same) (hvs.up gn))
theorem en_lst {tr : TA} (h : EvA T K tr σ H ds) (hl : ds.length ≤ 100000) : EvN T K (tLst tr) σ H ds := fun H1 g Q q => h H1 g _ fun vs H2 g2 hvs => by
  refine ⟨Nat.le_trans (by rw [hvs.length]; exact hl) (by decide), fun p hp => ?_⟩
  have gn : G T [] H2 (upd H2 p (.lst vs)) := G.new g2.tabs hp
  exact q _ _ (g2.trans gn) ⟨p, rfl, (Nw.of hp).back0 g2, vs, upd_same, hvs.up gn⟩
/-- built-ins of one value -/
abbrev rLenQ (K : PySem.W.Frag) : List V → Hp → VK → Prop := fun xs H Q => ∃ p ys, xs = [.ref p] ∧ (SqL K H p ys ∨ SqT K H p ys) ∧ Q (.int ys.length) H
theorem ei_lenT (h : EvI T K ta σ H (.tup ds)) : EvI T K (tCB (rLenQ K) (tCons ta tNil)) σ H (.int ds.length) := fun H1 g Q q => h H1 g _ fun v H2 g2 hv => by
  obtain ⟨a, xs, rfl, h1, h2⟩ := im_tup hv
  refine ⟨a, xs, rfl, .inr h1, ?_⟩
  rw [h2.length]
  exact q _ H2 g2 (.int _)
theorem ei_lenL {p : Addr} (h : EvI T K ta σ H (.ptr p)) (hl : Lr K H p ds) : EvI T K (tCB (rLenQ K) (tCons ta tNil)) σ H (.int ds.length) := fun H1 g Q q => h H1 g _ fun v H2 g2 hv => by
  obtain ⟨vs, h1, h2⟩ := hl.up (g.trans g2)
  refine ⟨p, vs, by rw [im_ptr hv], .inl h1, ?_⟩
  rw [h2.length]
  exact q _ H2 g2 (.int _)
theorem ei_lenN (h : EvN T K ta σ H ds) : EvI T K (tCB (rLenQ K) (tCons ta tNil)) σ H (.int ds.length) := fun H1 g Q q => h H1 g _ fun v H2 g2 hv => by
  obtain ⟨p, rfl, _, vs, h1, h2⟩ := hv
  refine ⟨p, vs, rfl, .inl (SqL.of h1), ?_⟩
  rw [h2.length]
  exact q _ H2 g2 (.int _)
abbrev rTupQ (K : PySem.W.Frag) : List V → Hp → VK → Prop := fun xs H Q => ∃ p ys, xs = [.ref p] ∧ ((SqL K H p ys ∧ ∀ l, H l = none → Q (.ref l) (upd H l (.tup ys))) ∨ (SqT K H p ys ∧ Q (.ref p) H))
theorem ei_tupN (h : EvN T K ta σ H ds) : EvI T K (tCB (rTupQ K) (tCons ta tNil)) σ H (.tup ds) := fun H1 g Q q => h H1 g _ fun v H2 g2 hv => by
  obtain ⟨p, rfl, _, vs, h1, h2⟩ := hv
  refine ⟨p, vs, rfl, .inl ⟨SqL.of h1, fun l hl => ?_⟩⟩
  have gn : G T [] H2 (upd H2 l (.tup vs)) := G.new g2.tabs hl
  exact q _ _ (g2.trans gn) (.tup (SqT.of upd_same) (h2.up gn))
theorem ei_tupL {p : Addr} (h : EvI T K ta σ H (.ptr p)) (hl : Lr K H p ds) : EvI T K (tCB (rTupQ K) (tCons ta tNil)) σ H (.tup ds) := fun H1 g Q q => h H1 g _ fun v H2 g2 hv => by
  obtain ⟨vs, h1, h2⟩ := hl.up (g.trans g2)
  refine ⟨p, vs, by rw [im_ptr hv], .inl ⟨h1, fun l hl => ?_⟩⟩
  have gn : G T [] H2 (upd H2 l (.tup vs)) := G.new g2.tabs hl
  exact q _ _ (g2.trans gn) (.tup (SqT.of upd_same) (h2.up gn))
abbrev rLstQ (K : PySem.W.Frag) : List V → Hp → VK → Prop := fun xs H Q => ∃ p ys, xs = [.ref p] ∧ (SqL K H p ys ∨ SqT K H p ys) ∧ ∀ l, H l = none → Q (.ref l) (upd H l (.lst ys))
theorem en_lstT (h : EvI T K ta σ H (.tup ds)) : EvN T K (tCB (rLstQ K) (tCons ta tNil)) σ H ds := fun H1 g Q q => h H1 g _ fun v H2 g2 hv => by
  obtain ⟨a, xs, rfl, h1, h2⟩ := im_tup hv
  refine ⟨a, xs, rfl, .inr h1, fun l hl => ?_⟩
  have gn : G T [] H2 (upd H2 l (.lst xs)) := G.new g2.tabs hl
  exact q _ _ (g2.trans gn) ⟨l, rfl, (Nw.of hl).back0 g2, xs, upd_same, h2.up gn⟩
theorem en_lstL {p : Addr} (h : EvI T K ta σ H (.ptr p)) (hl : Lr K H p ds) : EvN T K (tCB (rLstQ K) (tCons ta tNil)) σ H ds := fun H1 g Q q => h H1 g _ fun v H2 g2 hv => by
  obtain ⟨vs, h1, h2⟩ := hl.up (g.trans g2)
  refine ⟨p, vs, by rw [im_ptr hv], .inl h1, fun l hl => ?_⟩
  have gn : G T [] H2 (upd H2 l (.lst vs)) := G.new g2.tabs hl
  exact q _ _ (g2.trans gn) ⟨l, rfl, (Nw.of hl).back0 g2, vs, upd_same, h2.up gn⟩
theorem ei_allN {bs : List Bool} (h : EvN T K ta σ H (bs.map D.bl)) : EvI T K (tCB (rAll K) (tCons ta tNil)) σ H (.bl (bs.all id)) := fun H1 g Q q => h H1 g _ fun v H2 g2 hv => by
  obtain ⟨p, rfl, _, vs, h1, h2⟩ := hv
  rw [ima_bls h2] at h1
  exact ⟨p, bs, rfl, SqL.of h1, q _ H2 g2 (.bl _)⟩
abbrev rAbsQ : List V → Hp → VK → Prop := fun xs H Q => ∃ i, xs = [.int i] ∧ Q (.int (if i < 0 then -i else i)) H
theorem ei_abs {i : Int} (h : EvI T K ta σ H (.int i)) : EvI T K (tCB rAbsQ (tCons ta tNil)) σ H (.int i.natAbs) := fun H1 g Q q => h H1 g _ fun v H2 g2 hv => by
  refine ⟨i, by rw [im_int hv], ?_⟩
  rw [show (if i < 0 then -i else i) = (i.natAbs : Int) by split <;> omega]
  exact q _ H2 g2 (.int _)
abbrev rIntQ : List V → Hp → VK → Prop := fun xs H Q => (∃ i, xs = [.int i] ∧ Q (.int i) H) ∨ ∃ k, xs = [.bl k] ∧ Q (.int (if k then 1 else 0)) H
theorem ei_intI {i : Int} (h : EvI T K ta σ H (.int i)) : EvI T K (tCB rIntQ (tCons ta tNil)) σ H (.int i) := fun H1 g Q q => h H1 g _ fun v H2 g2 hv => .inl ⟨i, by rw [im_int hv], q _ H2 g2 (.int _)⟩
theorem ei_intB {b : Bool} (h : EvI T K ta σ H (.bl b)) : EvI T K (tCB rIntQ (tCons ta tNil)) σ H (.int (if b then 1 else 0)) := fun H1 g Q q => h H1 g _ fun v H2 g2 hv => .inr ⟨b, by rw [im_bl hv], q _ H2 g2 (.int _)⟩
/-- membership -/
theorem inV_ints : ∀ (i : Int) (ns : List Int), inV (.int i) (ns.map V.int) = decide (i ∈ ns)
  | i, [] => rfl
  | i, n :: ns => by
    have ih := inV_ints i ns
    unfold inV at ih ⊢
    rw [List.map_cons, List.any_cons, ih]
    rw [show eqV (.int n) (.int i) = decide (i = n) from by
      show (n == i) = _
      by_cases h : i = n
      · subst h; simp
      · rw [decide_eq_false h]
        exact beq_eq_false_iff_ne.mpr fun z => h z.symm]
    by_cases h : i = n
    · simp [h]
    · simp [h]
theorem flat_ints : ∀ ns : List Int, (ns.map V.int).all flatV = true
  | [] => rfl
  | n :: ns => by
    rw [List.map_cons, List.all_cons, flat_ints ns]
    rfl
theorem ei_inT {i : Int} {ns : List Int} (ha : EvI T K ta σ H (.int i)) (hb : EvI T K tb σ H (.tup (ns.map D.int))) : EvI T K (tOp (rIn K false) ta tb) σ H (.bl (decide (i ∈ ns))) :=
  ei_op ha hb fun H1 g1 v w hv hw Q q => by
    obtain ⟨a, xs, rfl, h1, h2⟩ := im_tup hw
    rw [ima_ints h2] at h1
    rw [im_int hv]
    refine ⟨a, _, rfl, .inr h1, rfl, flat_ints ns, ?_⟩
    rw [inV_ints]
    exact q _ H1 (.refl g1.tabs) (.bl _)
theorem ei_ninL {i : Int} {ns : List Int} {p : Addr} (ha : EvI T K ta σ H (.int i)) (hb : EvI T K tb σ H (.ptr p)) (hl : Lr K H p (ns.map D.int)) : EvI T K (tOp (rIn K true) ta tb) σ H (.bl (!decide (i ∈ ns))) :=
  ei_op ha hb fun H1 g1 v w hv hw Q q => by
    obtain ⟨xs, h1, h2⟩ := hl.up g1
    rw [ima_ints h2] at h1
    rw [im_int hv, im_ptr hw]
    refine ⟨p, _, rfl, .inl h1, rfl, flat_ints ns, ?_⟩
    rw [inV_ints]
    exact q _ H1 (.refl g1.tabs) (.bl _)
end
end U
/-! Comprehensions and statements. -/
namespace U
open PySem PySem.Spec PyProof.Rows L2 LamX
/-- of the first n, those with f, by v -/
def outs (f : Nat → Bool) (v : Nat → D) (n : Nat) : List D := ((List.range n).filter f).map v
theorem outs_yes {f : Nat → Bool} {v : Nat → D} {n : Nat} (h : f n = true) : outs f v (n + 1) = outs f v n ++ [v n] := by
  unfold outs
  rw [List.range_succ, List.filter_append, List.filter_cons_of_pos h, List.map_append]
  rfl
theorem outs_no {f : Nat → Bool} {v : Nat → D} {n : Nat} (h : f n = false) : outs f v (n + 1) = outs f v n := by
  unfold outs
  rw [List.range_succ, List.filter_append, List.filter_cons_of_neg (by rw [h]; exact Bool.false_ne_true)]
  simp
theorem outs_len (f : Nat → Bool) (v : Nat → D) (n : Nat) : (outs f v n).length ≤ n := by
  unfold outs
  rw [List.length_map]
  have h := List.length_filter_le f (List.range n)
  rw [List.length_range] at h
  exact h
theorem outs_all (v : Nat → D) (n : Nat) : outs (fun _ => true) v n = (List.range n).map v := by
  unfold outs
  rw [List.filter_eq_self.mpr fun _ _ => rfl]
section
variable {T : TL} {K : PySem.W.Frag} {σ : L2.St} {H H' : Hp} {te ta tb tc tl : TE} {t u : TT} {d e : D} {ds es : List D} {v : V} {x y : D}
/-- the list that is made: after n turns -/
def Mk (T : TL) (K : PySem.W.Frag) (H : Hp) (f : Nat → Bool) (v : Nat → D) (Dl : Addr) (n : Nat) (H' : Hp) : Prop := Nw H Dl ∧ G T [] H H' ∧ Ls K H' Dl (outs f v n)
theorem mk_turn {f : Nat → Bool} {v : Nat → D} {Dl : Addr} {i : Nat} {σ2 : L2.St} (p : Mk T K H f v Dl i H') (hi : i < 1000000) (ht : EvT T t σ2 H (f i)) (he : f i = true → EvI T K te σ2 H (v i)) :
    t σ2 H' fun b H3 => if b = true then te σ2 H3 fun y H4 => ∃ acc, H4 Dl = some (.lst acc) ∧ acc.length < sizeLine ∧ Mk T K H f v Dl (i + 1) (upd H4 Dl (.lst (acc ++ [y]))) else Mk T K H f v Dl (i + 1) H3 := by
  obtain ⟨p1, p2, p3⟩ := p
  refine ht H' p2 _ fun H3 g3 => ?_
  cases hf : f i with
  | true =>
    rw [if_pos rfl]
    refine he hf H3 (p2.trans g3) _ fun z H4 g4 hz => ?_
    obtain ⟨vs, q1, q2⟩ := (p3.up0 g3).up0 g4
    refine ⟨vs, q1, Nat.lt_of_le_of_lt (by rw [q2.length]; exact outs_len f v i) (Nat.lt_of_lt_of_le hi (by decide)), p1, ((p2.trans g3).trans g4).put (.inr p1) q1, vs ++ [z], upd_same, ?_⟩
    rw [outs_yes hf]
    exact (q2.append (.cons hz .nil)).putH q1
  | false =>
    rw [if_neg Bool.false_ne_true]
    refine ⟨p1, p2.trans g3, ?_⟩
    rw [outs_no hf]
    exact p3.up0 g3
theorem mk_start {f : Nat → Bool} {v : Nat → D} {Dl : Addr} (tb : Tabs T H) (h : H Dl = none) : Mk T K H f v Dl 0 (upd H Dl (.lst [])) := ⟨.of h, .new tb h, [], upd_same, .nil⟩
theorem en_lcR {j : Nat} {vs : List Nat} {n : Int} {ta : TA} (f : Nat → Bool) (v : Nat → D) (h : EvA T K ta σ H [.int n]) (hn : n ≤ 1000000) (hw : ∀ x, wipe ((wipe σ vs).set j (some x)) vs = wipe σ vs)
    (ht : ∀ (i : Nat) H1, G T [] H H1 → (i : Int) < n → EvT T t ((wipe σ vs).set j (some (.int (i : Int)))) H1 (f i)) (he : ∀ (i : Nat) H1, G T [] H H1 → (i : Int) < n → f i = true → EvI T K te ((wipe σ vs).set j (some (.int (i : Int)))) H1 (v i))
    (h0 : -(2 ^ 62) ≤ n := by omega) : EvN T K (tLc (iRng1 ta) (gName j) t te vs) σ H (outs f v n.toNat) := fun H0 g Q q => h H0 g _ fun ws H1 g1 hws => by
  have e1 : ws = [.int n] := ima_ints (ns := [n]) hws
  refine ⟨n, e1, h0, by omega, fun Dl hD => lc_range (lo := 0) (n := n.toNat) (Mk T K H1 f v Dl) (mk_start g1.tabs hD) (fun i H' hi p => ?_) fun H' p => q _ H' (g1.trans p.2.1) ⟨Dl, rfl, p.1.back0 g1, p.2.2⟩⟩
  rw [Int.zero_add]
  exact ⟨hw _, mk_turn p (by omega) (ht i H1 (g.trans g1) (by omega)) fun hf => he i H1 (g.trans g1) (by omega) hf⟩
/-- over a list -/
theorem en_lcL {a : Addr} {j : Nat} {vs : List Nat} (f : Nat → Bool) (v : Nat → D) (h : EvI T K tl σ H (.ptr a)) (hx : Lr K H a ds) (hz : ds.length ≤ 1000000) (hw : ∀ x, wipe ((wipe σ vs).set j (some x)) vs = wipe σ vs)
    (ht : ∀ (i : Nat) (d : D) (z : V) H1, G T [] H H1 → ds[i]? = some d → Im K H1 z d → EvT T t ((wipe σ vs).set j (some z)) H1 (f i)) (he : ∀ (i : Nat) (d : D) (z : V) H1, G T [] H H1 → ds[i]? = some d → Im K H1 z d → f i = true → EvI T K te ((wipe σ vs).set j (some z)) H1 (v i)) :
    EvN T K (tLc (iList K tl) (gName j) t te vs) σ H (outs f v ds.length) := fun H0 g Q q => h H0 g _ fun w H1 g1 hv => by
  obtain ⟨xs, h1, h2⟩ := hx.up (g.trans g1)
  refine ⟨a, im_ptr hv, ⟨xs, h1⟩, fun Dl hD => ?_⟩
  refine lc_list (xs := xs) (Mk T K H1 f v Dl) (mk_start g1.tabs hD) (fun i H' _ p => p.2.1.seqL h1) (fun i x H' hi p => ⟨hw x, ?_⟩) fun H' p => q _ H' (g1.trans p.2.1) ⟨Dl, rfl, p.1.back0 g1, by rw [← h2.length]; exact p.2.2⟩
  obtain ⟨d, hd, hm⟩ := h2.getV hi
  have hlt := (List.getElem?_eq_some_iff.mp hd).1
  exact mk_turn p (by omega) (ht i d x H1 (g.trans g1) hd hm) fun hf => he i d x H1 (g.trans g1) hd hm hf
/-- over a list that was just made -/
theorem en_lcN {j : Nat} {vs : List Nat} (f : Nat → Bool) (v : Nat → D) (h : EvN T K tl σ H ds) (hz : ds.length ≤ 1000000) (hw : ∀ x, wipe ((wipe σ vs).set j (some x)) vs = wipe σ vs)
    (ht : ∀ (i : Nat) (d : D) (z : V) H1, G T [] H H1 → ds[i]? = some d → Im K H1 z d → EvT T t ((wipe σ vs).set j (some z)) H1 (f i)) (he : ∀ (i : Nat) (d : D) (z : V) H1, G T [] H H1 → ds[i]? = some d → Im K H1 z d → f i = true → EvI T K te ((wipe σ vs).set j (some z)) H1 (v i)) :
    EvN T K (tLc (iList K tl) (gName j) t te vs) σ H (outs f v ds.length) := fun H0 g Q q => h H0 g _ fun w H1 g1 hv => by
  obtain ⟨a, rfl, _, hx⟩ := hv
  obtain ⟨xs, h1, h2⟩ := hx.lr
  refine ⟨a, rfl, ⟨xs, h1⟩, fun Dl hD => ?_⟩
  refine lc_list (xs := xs) (Mk T K H1 f v Dl) (mk_start g1.tabs hD) (fun i H' _ p => p.2.1.seqL h1) (fun i x H' hi p => ⟨hw x, ?_⟩) fun H' p => q _ H' (g1.trans p.2.1) ⟨Dl, rfl, p.1.back0 g1, by rw [← h2.length]; exact p.2.2⟩
  obtain ⟨d, hd, hm⟩ := h2.getV hi
  have hlt := (List.getElem?_eq_some_iff.mp hd).1
  exact mk_turn p (by omega) (ht i d x H1 (g.trans g1) hd hm) fun hf => he i d x H1 (g.trans g1) hd hm hf
/-- over a tuple -/
theorem en_lcT {j : Nat} {vs : List Nat} (f : Nat → Bool) (v : Nat → D) (h : EvI T K tl σ H (.tup ds)) (hz : ds.length ≤ 1000000) (hw : ∀ x, wipe ((wipe σ vs).set j (some x)) vs = wipe σ vs)
    (ht : ∀ (i : Nat) (d : D) (z : V) H1, G T [] H H1 → ds[i]? = some d → Im K H1 z d → EvT T t ((wipe σ vs).set j (some z)) H1 (f i)) (he : ∀ (i : Nat) (d : D) (z : V) H1, G T [] H H1 → ds[i]? = some d → Im K H1 z d → f i = true → EvI T K te ((wipe σ vs).set j (some z)) H1 (v i)) :
    EvN T K (tLc (iTup K tl) (gName j) t te vs) σ H (outs f v ds.length) := fun H0 g Q q => h H0 g _ fun w H1 g1 hv => by
  obtain ⟨a, xs, rfl, h1, h2⟩ := im_tup hv
  refine ⟨a, rfl, ⟨xs, h1⟩, fun Dl hD => ?_⟩
  refine lc_tup (xs := xs) (Mk T K H1 f v Dl) (mk_start g1.tabs hD) (fun i H' _ p => p.2.1.seqT h1) (fun i x H' hi p => ⟨hw x, ?_⟩) fun H' p => q _ H' (g1.trans p.2.1) ⟨Dl, rfl, p.1.back0 g1, by rw [← h2.length]; exact p.2.2⟩
  obtain ⟨d, hd, hm⟩ := h2.getV hi
  have hlt := (List.getElem?_eq_some_iff.mp hd).1
  exact mk_turn p (by omega) (ht i d x H1 (g.trans g1) hd hm) fun hf => he i d x H1 (g.trans g1) hd hm hf

/-! ### what changes a list -/
/-- te, run in H, changes nothing but the lists at ms, and gives a value with A -/
def Rn (T : TL) (ms : List Addr) (te : TE) (σ : L2.St) (H : Hp) (A : V → Hp → Prop) : Prop := ∀ Q : VK, (∀ v H2, G T ms H H2 → A v H2 → Q v H2) → te σ H Q
theorem Ev.rn {A : Hp → V → Hp → Prop} {ms : List Addr} (h : Ev T te σ H A) (tb : Tabs T H) : Rn T ms te σ H (A H) := fun Q q => h H (.refl tb) Q fun v H2 g hv => q v H2 g.wide hv
/-- a comprehension over a range whose turns change the list at p: S, what it holds ahead of turn i -/
theorem rn_lcR {j : Nat} {vs : List Nat} {n : Int} {ta : TA} {p : Addr} (S : Nat → List D) (v : Nat → D) (h : EvA T K ta σ H [.int n]) (hn : n ≤ 1000000) (hw : ∀ x, wipe ((wipe σ vs).set j (some x)) vs = wipe σ vs) (hp : Ls K H p (S 0)) (tb : Tabs T H)
    (he : ∀ (i : Nat) H1, G T [p] H H1 → Ls K H1 p (S i) → (i : Int) < n → Rn T [p] te ((wipe σ vs).set j (some (.int (i : Int)))) H1 fun z H2 => Im K H2 z (v i) ∧ Ls K H2 p (S (i + 1)))
    (h0 : -(2 ^ 62) ≤ n := by omega) : Rn T [p] (tLc (iRng1 ta) (gName j) tYes te vs) σ H fun z H2 => ∃ q, z = .ref q ∧ Nw H q ∧ q ≠ p ∧ Ls K H2 q ((List.range n.toNat).map v) ∧ Ls K H2 p (S n.toNat) := fun Q q => h H (.refl tb) _ fun ws H1 g1 hws => by
  have e1 : ws = [.int n] := ima_ints (ns := [n]) hws
  have hp1 := hp.up0 g1
  refine ⟨n, e1, h0, by omega, fun Dl hD => ?_⟩
  have nD : Nw H Dl := (Nw.of hD).back0 g1
  have nDp : Dl ≠ p := by
    obtain ⟨zs, z1, _⟩ := hp1
    exact ((Nw.of hD).ne z1).symm
  refine lc_range (lo := 0) (n := n.toNat) (fun i H' => G T [p] H H' ∧ Ls K H' p (S i) ∧ Ls K H' Dl ((List.range i).map v)) ?_ (fun i H' hi p => ?_) fun H' p => q _ H' p.1 ⟨Dl, rfl, nD, nDp, p.2.2, p.2.1⟩
  · have gn : G T [] H1 (upd H1 Dl (.lst [])) := .new g1.tabs hD
    exact ⟨g1.wide.trans gn.wide, hp1.up0 gn, [], upd_same, .nil⟩
  · obtain ⟨p1, p2, p3⟩ := p
    rw [Int.zero_add]
    refine ⟨hw _, ?_⟩
    unfold tYes
    refine iteT ?_
    refine he i H' p1 p2 (by omega) _ fun z H4 g4 hz => ?_
    obtain ⟨z1, z2⟩ := hz
    obtain ⟨ys, y1, y2⟩ := p3.up g4 (by simpa using nDp)
    have gp : G T [] H4 H4 := .refl g4.tabs
    refine ⟨ys, y1, ?_, (p1.trans g4).put (.inr nD) y1, ?_, ys ++ [z], upd_same, ?_⟩
    · rw [y2.length, List.length_map, List.length_range]
      exact Nat.lt_of_lt_of_le (show i < 1000001 by omega) (by decide)
    · obtain ⟨cs, c1, c2⟩ := z2
      refine ⟨cs, ?_, c2.putH y1⟩
      rw [upd_ne nDp.symm]
      exact c1
    · rw [List.range_succ, List.map_append]
      exact (y2.append (.cons z1 .nil)).putH y1

/-! ### statements -/
variable {Dn : Ends} {tu tw tz : TS} {ms : List Addr}
theorem s_asg {A : V → Hp → Prop} {i : Nat} (h : Rn T ms te σ H A) (k : ∀ v H1, G T ms H H1 → A v H1 → Dn.nx (σ.set i (some v)) H1) : tAsg te (gName i) Dn σ H := h _ fun v H1 g hv => k v H1 g hv
theorem s_asgI {i : Nat} (tb : Tabs T H) (h : EvI T K te σ H d) (k : ∀ v H1, G T [] H H1 → Im K H1 v d → Dn.nx (σ.set i (some v)) H1) : tAsg te (gName i) Dn σ H := h H (.refl tb) _ fun v H1 g hv => k v H1 g hv
theorem s_asgZ {i : Nat} {n : Int} (tb : Tabs T H) (h : EvI T K te σ H (.int n)) (k : ∀ H1, G T [] H H1 → Dn.nx (σ.set i (some (.int n))) H1) : tAsg te (gName i) Dn σ H := h H (.refl tb) _ fun v H1 g hv => by
  rw [im_int hv]
  exact k H1 g
theorem s_asgN {i : Nat} (tb : Tabs T H) (h : EvN T K te σ H ds) (k : ∀ p H1, G T [] H H1 → Nw H p → Ls K H1 p ds → Dn.nx (σ.set i (some (.ref p))) H1) : tAsg te (gName i) Dn σ H := h H (.refl tb) _ fun v H1 g hv => by
  obtain ⟨p, rfl, h1, h2⟩ := hv
  exact k p H1 g h1 h2
theorem s_ret (tb : Tabs T H) (h : EvI T K te σ H d) (k : ∀ v H1, G T [] H H1 → Im K H1 v d → Dn.rt v H1) : tRet te Dn σ H := h H (.refl tb) _ k
theorem s_retN (tb : Tabs T H) (h : EvN T K te σ H ds) (k : ∀ p H1, G T [] H H1 → Nw H p → Ls K H1 p ds → Dn.rt (.ref p) H1) : tRet te Dn σ H := h H (.refl tb) _ fun v H1 g hv => by
  obtain ⟨p, rfl, h1, h2⟩ := hv
  exact k p H1 g h1 h2
theorem s_drop (tb : Tabs T H) (h : EvI T K te σ H d) (k : ∀ H1, G T [] H H1 → Dn.nx σ H1) : tDrop te Dn σ H := h H (.refl tb) _ fun v H1 g _ => k H1 g
theorem s_if {b : Bool} (tb : Tabs T H) (h : EvT T t σ H b) (h1 : b = true → ∀ H1, G T [] H H1 → tu Dn σ H1) (h2 : b = false → ∀ H1, G T [] H H1 → tw Dn σ H1) : tIfS t tu tw Dn σ H := h H (.refl tb) _ fun H1 g => by
  cases b with
  | true =>
    rw [if_pos rfl]
    exact h1 rfl H1 g
  | false =>
    rw [if_neg Bool.false_ne_true]
    exact h2 rfl H1 g
/-- xs.append(e) -/
theorem s_app {p : Addr} {tr : TE} (tb : Tabs T H) (hr : EvI T K tr σ H (.ptr p)) (h : EvI T K te σ H d) (hp : Ls K H p ds) (hz : ds.length < 1000000) (k : ∀ H1, G T [p] H H1 → Ls K H1 p (ds ++ [d]) → Dn.nx σ H1) : tDrop (tBM K "list" rAppend tr (tCons te tNil)) Dn σ H :=
  hr H (.refl tb) _ fun v H1 g1 hv => by
    rw [im_ptr hv]
    obtain ⟨vs, q1, q2⟩ := hp.up0 g1
    refine ⟨.inl ⟨rfl, _, SqL.of q1⟩, h H1 g1 _ fun w H2 g2 hw => ?_⟩
    obtain ⟨vs, q1, q2⟩ := (hp.up0 g1).up0 g2
    refine ⟨p, vs, w, rfl, rfl, q1, Nat.lt_of_le_of_lt (Nat.le_of_eq q2.length) (Nat.lt_of_lt_of_le hz (by decide)), k _ ((g1.trans g2).wide.put (.inl (by simp)) q1) ⟨vs ++ [w], upd_same, (q2.append (.cons hw .nil)).putH q1⟩⟩
end
end U
/-! list(reversed(a list)) -/
namespace LRev
open PySem PySem.Spec PyProof.Rows L2 LamX RT
section
variable {prog : Program} {w : World} {A : Around} {E : Value → Shared → Prop} {s : Shared}
theorem lri_no_len : typeLookup (.type "list_reverseiterator") "__len__" = pure none := by rw [typeLookup_type, builtinLookup_eq_fast]; kernel_rfl
theorem lri_hint : typeLookup (.type "list_reverseiterator") "__length_hint__" = pure (some (.builtin "list_reverseiterator.__length_hint__")) := by rw [typeLookup_type, builtinLookup_eq_fast]; kernel_rfl
theorem extend_rev {R : Result → Shared → Prop} (hh : A.handled = none) {it l S : Addr} {items : Array Value} {res : Value} {c₀ : Nat} (hit : s.heap.IsRevIter it l ((items.size : Int) - 1)) (hl : s.heap.IsList l items) (hne : l ≠ it) (hS : s.heap.get? S = some { cls := .type "list", data := .seq #[] c₀ }) (hSi : S ≠ it) (hSl : S ≠ l) (hn : items.size ≤ sizeLine)
    (hR : ∀ h' tk acc c', (∀ b o, b ≠ S → b ≠ it → s.heap.get? b = some o → h'.get? b = some o) → h'.get? S = some { cls := .type "list", dict := none, data := .seq acc c', slots := #[] } →
      ItemsOf (fun i v => items[items.size - 1 - i]? = some v) acc items.size → R (.ok (.ret res)) { s with heap := h', toks := tk }) :
    wpAny (model prog w) A.in1 (Builtin.List.listExtendWith (.ref S) (.ref it) res)
      (fun fin s' => match fin with | .done f => R (.ok f) s' | .again c' => c'.quiet = true ∧ codeAny (model prog w) A c' R s') (fun e s' => R (.error e) s') s := by
  have hT := hit.typeIs
  unfold Builtin.List.listExtendWith
  refine wpAny_bind (wpAny_typeOf hT ?_)
  have h1 : Builtin.List.listSameRef (.ref S) (.ref it) = false := by simp [Builtin.List.listSameRef, hSi]
  have h2 : (Value.type "list_reverseiterator" == Value.type "list") = false := by decide
  have h3 : (Value.type "list_reverseiterator" == Value.type "tuple") = false := by decide
  simp only [h1, h2, h3, Bool.or_false, Bool.false_eq_true, if_false]
  refine wpAny_bind (wpAny_pyIter_revIter hit ?_)
  refine wpAny_bind (wpAny_holding ?_)
  unfold Builtin.List.listLengthHint
  refine wpAny_bind (wpAny_specialOf hT lri_no_len ?_)
  show wpAny _ A.in1 (specialOf (Value.ref it) (Str.ofString "__length_hint__") >>= _) _ _ _
  refine wpAny_bind (wpAny_specialOf hT lri_hint ?_)
  wp_delta
  refine wpAny_bind (wpAny_isInstance hT (b := true) (by rw [isSubtype_type]; kernel_rfl) ?_)
  refine wpAny_pure ?_
  rw [if_neg (by decide)]
  have hSf : S ∉ [it, l] := fun hm => by
    rcases List.mem_cons.mp hm with e | hm
    · exact hSi e
    · exact hSl (List.mem_singleton.mp hm)
  have e0 : (items.size : Int) - 1 - ((0 : Nat) : Int) = (items.size : Int) - 1 := by omega
  refine wpAny_pure ⟨plainId_quiet F.plain_extend_loop _, codeAny_extend_loopS (Walks.listRev (A := A.in1) hh it l hne items).toS hn S hSf _ items.size 0 _ _ _ rfl (Nat.zero_le _)
    ⟨Nat.zero_le _, by rw [e0]; exact hit, hl⟩ hS (ItemsOf.nil _) fun s' acc c' hm hS' hacc => ?_⟩
  rw [Moved.eq_with hm]
  refine hR s'.heap s'.toks acc c' (fun b o hb hb2 e => hm.heap b o (fun hmem => ?_) e) hS' hacc
  rcases List.mem_cons.mp hmem with e' | hmem
  · exact hb e'
  · exact hb2 (List.mem_singleton.mp hmem)
theorem list_init_rev {R : Result → Shared → Prop} (hh : A.handled = none) {it l S : Addr} {items : Array Value} (hit : s.heap.IsRevIter it l ((items.size : Int) - 1)) (hl : s.heap.IsList l items) (hne : l ≠ it) (hS : s.heap.get? S = some { cls := .type "list", data := .seq #[] }) (hSi : S ≠ it) (hSl : S ≠ l) (hn : items.size ≤ sizeLine)
    (hR : ∀ h' tk acc c', (∀ b o, b ≠ S → b ≠ it → s.heap.get? b = some o → h'.get? b = some o) → h'.get? S = some { cls := .type "list", dict := none, data := .seq acc c', slots := #[] } →
      ItemsOf (fun i v => items[items.size - 1 - i]? = some v) acc items.size → R (.ok (.ret .none)) { s with heap := h', toks := tk }) :
    wpAny (model prog w) A.in1 (Builtin.«list.__init__» ⟨[.ref S, .ref it], []⟩)
      (fun fin s' => match fin with | .done f => R (.ok f) s' | .again c' => c'.quiet = true ∧ codeAny (model prog w) A c' R s') (fun e s' => R (.error e) s') s := by
  show wpAny _ A.in1 (do
    let old ← Builtin.List.listItems (.ref S)
    Builtin.List.listUpdate (.ref S) (fun _ => #[])
    letGo old.toList.reverse
    Builtin.List.listExtendWith (.ref S) (.ref it) .none) _ _ s
  refine wpAny_bind ?_
  unfold Builtin.List.listItems
  refine wpAny_bind (wpAny_seqItems hS rfl (wpAny_pure ?_))
  show wpAny _ A.in1 (updateSeq S (fun _ => #[]) >>= fun _ => letGo (#[] : Array Value).toList.reverse >>= fun _ => Builtin.List.listExtendWith (.ref S) (.ref it) .none) _ _ s
  refine wpAny_bind (wpAny_updateSeq hS rfl ?_)
  have hS2 := Heap.get?_update_self (Obj.mapSeq (fun _ => (#[] : Array Value))) hS rfl
  have kp : ∀ b o, b ≠ S → s.heap.get? b = some o → (s.heap.update S (Obj.mapSeq (fun _ => (#[] : Array Value)))).get? b = some o := fun b o hb e => (Heap.get?_update_other _ _ (Ne.symm hb)).trans e
  refine wpAny_bind (wpAny_letGo ?_)
  exact extend_rev hh (hit.at fun o e => kp it o hSi.symm e) (hl.at fun o e => kp l o hSl.symm e) hne hS2 hSi hSl hn fun h' tk acc c' hk hS' hacc => hR h' tk acc c' (fun b o hb hb2 e => hk b o hb hb2 (kp b o hb e)) hS' hacc
theorem call_list_rev {Q : Value → Shared → Prop} (hh : A.handled = none) {it l : Addr} {items : Array Value} (hit : s.heap.IsRevIter it l ((items.size : Int) - 1)) (hl : s.heap.IsList l items) (hne : l ≠ it) (hn : items.size ≤ sizeLine)
    (hQ : ∀ h' tk acc c', (∀ b o, b ≠ it → s.heap.get? b = some o → h'.get? b = some o) → h'.get? s.heap.objs.size = some { cls := .type "list", dict := none, data := .seq acc c', slots := #[] } →
      ItemsOf (fun i v => items[items.size - 1 - i]? = some v) acc items.size → Q (.ref s.heap.objs.size) { s with heap := h', toks := tk }) :
    wpAny (model prog w) A (call (.type "list") [.ref it]) Q E s := by
  obtain ⟨oi, hoi, _⟩ := id hit
  obtain ⟨ol, hol, _⟩ := id hl
  have n1 : s.heap.objs.size ≠ it := Nat.ne_of_gt (Heap.lt_size hoi)
  have n2 : s.heap.objs.size ≠ l := Nat.ne_of_gt (Heap.lt_size hol)
  refine callType_codes (Q₁ := fun obj s₁ => obj = .ref s.heap.objs.size ∧ s₁ = { s with heap := s.heap.push { cls := .type "list", data := .seq #[] } }) F.called_list (F.typeCall_list_1 _) F.entry_list_init
    (code_list_new _ ⟨rfl, rfl⟩) fun obj s₁ h₁ => ?_
  obtain ⟨rfl, rfl⟩ := h₁
  have hS : (s.heap.push { cls := .type "list", data := .seq #[] }).get? s.heap.objs.size = some { cls := .type "list", data := .seq #[] } := Heap.get?_push_size _ rfl
  refine ⟨⟨_, hS, rfl⟩, F.args_list_init_2 _ _, ?_⟩
  refine list_init_rev (A := A.in1) hh (hit.at fun o e => Heap.get?_push_of_some _ e) (hl.push _) hne hS n1 n2 hn fun h' tk acc c' hk hS' hacc => ⟨rfl, hQ h' tk acc c' (fun b o hb e => hk b o ?_ hb (Heap.get?_push_of_some _ e)) hS' hacc⟩
  exact Nat.ne_of_lt (Heap.lt_size e)
end
section
variable {X : Cx}
def tLstRev (K : PySem.W.Frag) (te : TE) : TE := fun σ H Q => te σ H fun v H1 => ∃ (a : Addr) (xs : List V), v = .ref a ∧ SqL K H1 a xs ∧ ∀ q, H1 q = none → Q (.ref q) (upd H1 q (.lst xs.reverse))
theorem pe_lstRev {e : Expr} {te : TE} {p p2 pos pos2 : Pos} (hc : X.calm = true) (hg : Gl X "list") (hm : X.mg "list" = none) (hg2 : Gl X "reversed") (hm2 : X.mg "reversed" = none) (he : PE X e te)
    (hs : starEach [e] X.env = (false, eval e X.env) :: starEach [] X.env := by rfl)
    (hs2 : starEach [.Call (.Name "reversed" p2) [e] [] pos2] X.env = (false, eval (.Call (.Name "reversed" p2) [e] [] pos2) X.env) :: starEach [] X.env := by rfl) :
    PE X (.Call (.Name "list" p) [.Call (.Name "reversed" p2) [e] [] pos2] [] pos) (tLstRev X.K te) := by
  refine ⟨fun pins s σ H Q I h => ?_⟩
  refine Call_ (ld_blt I hg hm boot_list (PyProof.Rows.callWith_type1 (args_cons (Call_ (ld_blt I hg2 hm2 PyProof.Rows.boot_reversed (PyProof.Rows.callWith_type1 (args_cons (thn (he.run pins s σ H _ I h) fun u s1 ⟨v, H1, I1, r1, q1⟩ => args_nil ?_) hs) hs rfl))) hs2) hs2 rfl))
  obtain ⟨a, xs, ev, hq, q⟩ := q1
  subst ev
  obtain rfl : u = Value.ref a := r1
  obtain ⟨its, rv, p', hz⟩ := I1.list hq
  refine call_reversed_list p'.isList (args_nil ?_)
  generalize hs2 : ({ s1 with heap := s1.heap.push (revObj a ((its.toArray.size : Int) - 1)) } : Shared) = s2
  have k0 : ∀ b o, s1.heap.get? b = some o → s2.heap.get? b = some o := fun b o e => by rw [← hs2]; exact Heap.get?_push_of_some _ e
  have I2 : Inv X pins σ H1 s2 := by
    rw [← hs2]
    exact I1.kept (t' := s1.toks) fun b o e => Heap.get?_push_of_some _ e
  have z2 : s2.heap.objs.size = s1.heap.objs.size + 1 := by rw [← hs2]; exact Heap.size_push _ _
  obtain ⟨f0, f1, f2, f3, f4, f5⟩ := I1.fpOk (H' := H1) (b := s1.heap.objs.size) (Nat.le_refl _) (I1.hok.fresh (Nat.le_refl _))
  have hl := p'.isList
  obtain ⟨ol, hol, _⟩ := id hl
  have hne : a ≠ s1.heap.objs.size := Nat.ne_of_lt (Heap.lt_size hol)
  have hn : its.toArray.size ≤ sizeLine := by rw [List.size_toArray, ← rv.length]; exact hz
  have hit : s2.heap.IsRevIter s1.heap.objs.size a ((its.toArray.size : Int) - 1) := by
    rw [← hs2]
    exact ⟨_, Heap.get?_push_size _ rfl, rfl, rfl⟩
  refine call_list_rev (I1.ok.hd hc) hit (hl.at fun o e => k0 a o e) hne hn fun h' tk acc c' hk hS hi => ?_
  have nS : H1 s2.heap.objs.size = none := I2.hok.fresh (Nat.le_refl _)
  have hr := vals_rev rv hi
  -- from the state ahead of the iterator: the list is laid
  have k1 : ∀ b o, s1.heap.get? b = some o → h'.get? b = some o := fun b o e => hk b o (Nat.ne_of_lt (Heap.lt_size e)) (k0 b o e)
  have new : ObjOk X.prog X.w (upd H1 s2.heap.objs.size (.lst xs.reverse)) h' s2.heap.objs.size (.lst xs.reverse) := by
    refine ⟨by rw [List.length_reverse]; exact hz, acc.toList, c', hr, ?_⟩
    rw [Array.toArray_toList]
    exact hS
  have I3 : Inv X pins σ (upd H1 s2.heap.objs.size (.lst xs.reverse)) { s1 with heap := h', toks := tk } := I1.laid (t' := tk) k1 (by omega) new
  rw [show ({ s2 with heap := h', toks := tk } : Shared) = { s1 with heap := h', toks := tk } by rw [← hs2]]
  exact ⟨.ref s2.heap.objs.size, _, I3, rfl, q _ nS⟩
end
end LRev
/-! The text's defs, their calls; lambdas handed on; isinstance; what changes lists. -/
namespace U
open PySem PySem.Spec PyProof.Rows L2 LamX NdefX Clo LRev

/-! ### defs of the text -/
structure Dfn (K : PySem.W.Frag) (mg : Str → Option Value) (x : Str) (st : Stmt) (ps : List Str) where
  f : Addr
  fd : FuncData
  F : Fun K x x st f fd
  g : mg x = some (.ref f)
  b : Binds K fd ps []
section
variable {X : Cx} {k : Nat} {x : Str} {st : Stmt} {ps : List Str} {sp : Sp} {p pos : Pos} {e : Expr} {es : List Expr} {t : TA}
theorem pc (D : Dfn X.K X.mg x st ps) (G : FnOk X.prog X.w X.K X.mg X.base L2.CX0 k D.f D.fd ps sp) (hr : Room k X.A) (hg : Gl X x) (ha : PA X (e :: es) t) (hdb : (x == ("__debug__" : Str)) = false := by decide)
    (he : starEach (e :: es) X.env = (false, eval e X.env) :: starEach es X.env := by rfl) (hpl : (backTo pos (starEach es X.env)).any (·.1) = false := by rfl) : PE X (.Call (.Name x p) (e :: es) [] pos) (tCall sp [] L2.E0 t) :=
  pe_call G hr hg D.g D.F.kp D.b .nil pass0 ha hdb he hpl
/-- values put in another order -/
def perm {α : Type} (z : α) (prm : List Nat) (vs : List α) : List α := prm.map fun i => vs.getD i z
theorem vals_perm {vs : List V} {us : List Value} (r : Vals vs us) : ∀ prm : List Nat, Vals (perm V.non prm vs) (perm Value.none prm us)
  | [] => .nil
  | i :: prm => by
    refine .cons ?_ (vals_perm r prm)
    show RelV (vs.getD i .non) (us.getD i .none)
    rw [List.getD_eq_getElem?_getD, List.getD_eq_getElem?_getD]
    cases h : vs[i]? with
    | none =>
      rw [r.none_of h]
      rfl
    | some v =>
      obtain ⟨u, h1, h2⟩ := r.get h
      rw [h1]
      exact h2
/-- f(k = e, ..): every parameter by its name -/
def tCallP (sp : Sp) (n : Nat) (prm : List Nat) (tk : TA) : TE := fun σ H Q => tk σ H fun zs H2 => zs.length = n ∧ sp (perm V.non prm zs) H2 Q L2.E0
theorem pck {kws : List Keyword} {tk : TA} {ks : List Str} {prm : List Nat} (D : Dfn X.K X.mg x st ps) (G : FnOk X.prog X.w X.K X.mg X.base L2.CX0 k D.f D.fd ps sp) (hr : Room k X.A) (hg : Gl X x)
    (hb : ∀ (s : Shared) (ws : List Value), ws.length = ks.length → BindsTo s D.fd ⟨[], ks.zip ws⟩ (ps.zip (perm Value.none prm ws))) (hkw : PK X kws tk)
    (hdb : (x == ("__debug__" : Str)) = false := by decide) (hall : (backToKw pos (keywordEach kws X.env)).all (·.1.isSome) = true := by rfl) (hks : (backToKw pos (keywordEach kws X.env)).filterMap (·.1) = ks := by rfl)
    (hpl : ((backTo pos (starEach [] X.env)).any (·.1) || (backToKw pos (keywordEach kws X.env)).any (·.1.isNone)) = false := by rfl) :
    PE X (.Call (.Name x p) [] kws pos) (tCallP sp ks.length prm tk) := by
  refine ⟨fun pins s σ H Q I h => ?_⟩
  refine wpAny_Call_Name_kw (ld_glob I hg D.g ?_ hdb)
  refine PySem.W.callWith_KW0 (h₀ := X.base) I.ok.mod.kin D.F.kp hall (thn (hkw.run pos pins s σ H _ I h) fun ws s2 ⟨zs, H2, I2, rz, hl, q⟩ => ⟨I2.kIn, ?_⟩) hpl
  rw [hks]
  have hw : ws.length = ks.length := by rw [← rz.length]; exact hl
  have rp := vals_perm rz prm
  refine wpAny_call (codeAny_mono (G.run X.A X.stack s2 H2 ⟨[], ks.zip ws⟩ (perm Value.none prm ws) (perm V.non prm zs) Q L2.E0 hr I2.env0 (hb s2 ws hw) rp q) fun r s' hq => ?_)
  cases r with
  | error e => exact (show False from hq).elim
  | ok fl =>
    cases fl with
    | ret u => exact I2.after hq
    | next => exact False.elim hq
    | brk => exact False.elim hq
    | cont => exact False.elim hq
end
section
variable {T : TL} {K : PySem.W.Frag} {σ : L2.St} {H H' : Hp} {te ta tb tc tl : TE} {t u : TT} {d e : D} {ds es : List D} {v : V} {x y : D}
theorem ima_perm {vs : List V} (r : ImA K H vs ds) : ∀ prm : List Nat, ImA K H (perm V.non prm vs) (perm D.non prm ds)
  | [] => .nil
  | i :: prm => by
    refine .cons ?_ (ima_perm r prm)
    show Im K H (vs.getD i .non) (ds.getD i .non)
    rw [List.getD_eq_getElem?_getD, List.getD_eq_getElem?_getD]
    cases h : ds[i]? with
    | none =>
      have h2 : vs[i]? = none := by
        rw [List.getElem?_eq_none_iff] at h ⊢
        rw [r.length]
        exact h
      rw [h2]
      exact .non
    | some d =>
      obtain ⟨u, h1, h2⟩ := r.get h
      rw [h1]
      exact h2
theorem ei_callP {F : List D → D → Prop} {n : Nat} {prm : List Nat} {tk : TA} (h : EvA T K tk σ H ds) (hn : ds.length = n) (hF : F (perm D.non prm ds) d) : EvI T K (tCallP (spF T K F) n prm tk) σ H d := fun H1 g Q q =>
  h H1 g _ fun vs H2 g2 hvs => ⟨by rw [hvs.length]; exact hn, _, d, ima_perm hvs prm, g2.tabs, hF, fun v H3 g3 hv => q v H3 (g2.trans g3) hv⟩

/-! ### isinstance -/
/-- the type's name of a datum (of no list) -/
def tyD : D → String
  | .non => "NoneType"
  | .bl _ => "bool"
  | .int _ => "int"
  | .str _ => "str"
  | .tup _ => "tuple"
  | .ptr _ => "list"
theorem tyx_im (h : Im K H v d) (hp : ∀ a, d ≠ .ptr a) : TyX K H v (.type (tyD d)) := by
  cases h with
  | non => exact .base .non
  | bl b => exact .base (.bl b)
  | int i => exact .base (.int i)
  | str s => exact .base (.str s)
  | tup h r =>
    rcases h with (h | ⟨o, h⟩) | ⟨o, its, n, h1, h2, _⟩
    · exact .base (.tup h)
    · exact .fTuple h
    · exact .kTuple h1 h2
  | ptr a => exact absurd rfl (hp a)
theorem ei_isi {T' : TL} {ty : String} {b : Bool} (h : EvI T K ta σ H d) (hp : ∀ a, d ≠ .ptr a) (hk : kitB (tyD d) ty = some b) : EvI T K (tCB (rIsi K) (tCons ta (tCons (tC (.ty ty)) tNil))) σ H (.bl b) := fun H1 g Q q =>
  h H1 g _ fun v H2 g2 hv => ⟨v, .ty ty, .type (tyD d), .type ty, b, rfl, .ty ty, tyx_im hv hp, kit_ty hk, q _ H2 g2 (.bl b)⟩
/-- a list is no .. -/
theorem ei_isiL {ty : String} {b : Bool} {p : Addr} (h : EvI T K ta σ H (.ptr p)) (hl : Ls K H p ds) (hk : kitB "list" ty = some b) : EvI T K (tCB (rIsi K) (tCons ta (tCons (tC (.ty ty)) tNil))) σ H (.bl b) := fun H1 g Q q =>
  h H1 g _ fun v H2 g2 hv => by
    obtain ⟨vs, h1, _⟩ := (hl.up0 g).up0 g2
    rw [im_ptr hv]
    exact ⟨.ref p, .ty ty, .type "list", .type ty, b, rfl, .ty ty, .base (.lst h1), kit_ty hk, q _ H2 g2 (.bl b)⟩

/-! ### list(range(..)), list(reversed(..)) -/
theorem en_listRg1 {n : Int} (h : EvI T K ta σ H (.int n)) (h0 : 0 ≤ n) (h1 : n ≤ 1000000) : EvN T K (tLstRg (tRg1 ta)) σ H ((List.range n.toNat).map fun i => D.int (i : Nat)) := fun H1 g Q q =>
  h H1 g _ fun v H2 g2 hv => by
    refine ⟨n, im_int hv, .of_le (by omega) (by omega) (by omega) h0, fun p hp => ?_⟩
    have gn : G T [] H2 (upd H2 p (.lst (rgV 0 n))) := G.new g2.tabs hp
    refine q _ _ (g2.trans gn) ⟨p, rfl, (Nw.of hp).back0 g2, _, upd_same, ?_⟩
    have e : rgV 0 n = ((List.range n.toNat).map fun i => ((i : Nat) : Int)).map V.int := by
      unfold rgV
      rw [List.map_map, show (n - 0).toNat = n.toNat by omega]
      refine List.map_congr_left fun i _ => ?_
      show V.int (0 + (i : Int)) = V.int (i : Int)
      rw [Int.zero_add]
    rw [e, show ((List.range n.toNat).map fun i => D.int (i : Nat)) = ((List.range n.toNat).map fun i => ((i : Nat) : Int)).map D.int by rw [List.map_map]; rfl]
    exact ints_ima _
theorem en_lstRev {p : Addr} (h : EvI T K ta σ H (.ptr p)) (hl : Lr K H p ds) : EvN T K (tLstRev K ta) σ H ds.reverse := fun H1 g Q q =>
  h H1 g _ fun v H2 g2 hv => by
    obtain ⟨vs, h1, h2⟩ := hl.up (g.trans g2)
    refine ⟨p, vs, im_ptr hv, h1, fun l hl => ?_⟩
    have gn : G T [] H2 (upd H2 l (.lst vs.reverse)) := G.new g2.tabs hl
    exact q _ _ (g2.trans gn) ⟨l, rfl, (Nw.of hl).back0 g2, _, upd_same, (h2.up gn).rev⟩

/-! ### what changes a list -/
/-- xs.pop() -/
theorem rn_pop {p : Addr} (tb : Tabs T H) (h : EvI T K ta σ H (.ptr p)) (hp : Ls K H p (ds ++ [d])) : Rn T [p] (tBM0 K "list" rPop ta) σ H fun z H2 => Im K H2 z d ∧ Ls K H2 p ds := fun Q q =>
  h H (.refl tb) _ fun v H1 g hv => by
    rw [im_ptr hv]
    obtain ⟨vs, h1, h2⟩ := hp.up0 g
    have hl := h2.length
    rw [List.length_append, List.length_cons, List.length_nil] at hl
    obtain ⟨z, z1, z2⟩ := h2.get (i := ds.length) (d := d) (by rw [List.getElem?_append_right (Nat.le_refl _), Nat.sub_self]; rfl)
    refine ⟨.inl ⟨rfl, _, SqL.of h1⟩, p, vs, z, rfl, rfl, h1, by rw [hl]; exact z1, q _ _ (g.wide.put (.inl (by simp)) h1) ⟨z2.put h1, vs.dropLast, upd_same, ?_⟩⟩
    have h3 := h2.init
    rw [List.dropLast_concat] at h3
    exact h3.putH h1
theorem G.more {ms' : List Addr} {ms : List Addr} (h : G T ms H H') (sub : ∀ a ∈ ms, a ∈ ms') : G T ms' H H' := ⟨fun a o e n z => h.keep a o e (fun q => n (sub a q)) z, h.fix, h.tabs⟩
/-- xs.pop(i), i reckoned by something that changes other lists -/
theorem r_popAt {p : Addr} {ms : List Addr} {A : V → Hp → Prop} {tz : TE} {Q : VK} (tb : Tabs T H) (h : EvI T K ta σ H (.ptr p)) (hp : Ls K H p ds) (hm : p ∉ ms) (hz : ds.length < 1000000) (hi : ∀ H1, G T [] H H1 → Rn T ms tz σ H1 A) (hA : ∀ z H2, A z H2 → ∃ i : Nat, z = .int (i : Nat) ∧ i < ds.length)
    (q : ∀ (i : Nat) d z vs H2, G T ms H H2 → A (.int (i : Nat)) H2 → H2 p = some (.lst vs) → ImA K H2 vs ds → ds[i]? = some d → Im K H2 z d → Q z (upd H2 p (.lst (vs.eraseIdx i)))) : tBM K "list" rPopAt ta (tCons tz tNil) σ H Q :=
  h H (.refl tb) _ fun v H1 g hv => by
    rw [im_ptr hv]
    obtain ⟨vs, h1, h2⟩ := hp.up0 g
    refine ⟨.inl ⟨rfl, _, SqL.of h1⟩, hi H1 g _ fun w H2 g2 hw => ?_⟩
    obtain ⟨vs, h1, h2⟩ := (hp.up0 g).up g2 hm
    obtain ⟨i, ew, hid⟩ := hA w H2 hw
    subst ew
    have hd : ds[i]? = some ds[i] := List.getElem?_eq_getElem hid
    obtain ⟨z, z1, z2⟩ := h2.get hd
    have hlt : i < vs.length := (List.getElem?_eq_some_iff.mp z1).1
    have hl := h2.length
    exact ⟨p, vs, i, i, z, rfl, rfl, h1, by omega, by omega, by rw [seqIndex_of (by omega) (by omega)]; rfl, z1, q i _ z vs H2 (g.wide.trans g2) hw h1 h2 hd z2⟩
/-- xs.append(e), e reckoned by something that changes other lists -/
theorem r_app {p : Addr} {ms : List Addr} {A : V → Hp → Prop} {Q : VK} (tb : Tabs T H) (h : EvI T K ta σ H (.ptr p)) (hp : Ls K H p ds) (hm : p ∉ ms) (hz : ds.length < 1000000) (hi : ∀ H1, G T [] H H1 → Rn T ms te σ H1 A)
    (q : ∀ z vs H2, G T ms H H2 → A z H2 → H2 p = some (.lst vs) → ImA K H2 vs ds → Q .non (upd H2 p (.lst (vs ++ [z])))) : tBM K "list" rAppend ta (tCons te tNil) σ H Q :=
  h H (.refl tb) _ fun v H1 g hv => by
    rw [im_ptr hv]
    obtain ⟨vs, h1, h2⟩ := hp.up0 g
    refine ⟨.inl ⟨rfl, _, SqL.of h1⟩, hi H1 g _ fun w H2 g2 hw => ?_⟩
    obtain ⟨vs, h1, h2⟩ := (hp.up0 g).up g2 hm
    exact ⟨p, vs, w, rfl, rfl, h1, Nat.lt_of_le_of_lt (Nat.le_of_eq h2.length) (Nat.lt_of_lt_of_le hz (by decide)), q w vs H2 (g.wide.trans g2) hw h1 h2⟩
/-- xs.insert(i, e) -/
abbrev rInsQ : V → List V → Hp → VK → Prop := fun x vs H Q => ∃ (l : Addr) (xs : List V) (i : Int) (y : V), x = .ref l ∧ vs = [.int i, y] ∧ H l = some (.lst xs) ∧ xs.length < sizeLine ∧ 0 ≤ i ∧ i < 2 ^ 63 ∧ Q .non (upd H l (.lst (xs.take i.toNat ++ [y] ++ xs.drop i.toNat)))
theorem r_ins {p : Addr} {ms : List Addr} {A : V → Hp → Prop} {tz : TE} {Q : VK} (tb : Tabs T H) (h : EvI T K ta σ H (.ptr p)) (hp : Ls K H p ds) (hm : p ∉ ms) (hz : ds.length < 1000000) (hi : ∀ H1, G T [] H H1 → Rn T ms tz σ H1 A) (hA : ∀ z H2, A z H2 → ∃ i : Nat, z = .int (i : Nat) ∧ i < 1000000) (he : ∀ H1, G T ms H H1 → EvI T K te σ H1 d)
    (hst : ∀ z H1 H2, A z H1 → G T [] H1 H2 → A z H2)
    (q : ∀ (i : Nat) z vs H2, G T ms H H2 → A (.int (i : Nat)) H2 → H2 p = some (.lst vs) → ImA K H2 vs ds → Im K H2 z d → Q .non (upd H2 p (.lst (vs.take i ++ [z] ++ vs.drop i)))) : tBM K "list" rInsQ ta (tCons tz (tCons te tNil)) σ H Q :=
  h H (.refl tb) _ fun v H1 g hv => by
    rw [im_ptr hv]
    obtain ⟨vs, h1, h2⟩ := hp.up0 g
    refine ⟨.inl ⟨rfl, _, SqL.of h1⟩, hi H1 g _ fun w H2 g2 hw => ?_⟩
    obtain ⟨i, ew, hi2⟩ := hA w H2 hw
    subst ew
    refine he H2 (g.wide.trans g2) H2 (.refl g2.tabs) _ fun z H3 g3 hz3 => ?_
    obtain ⟨vs, h1, h2⟩ := ((hp.up0 g).up g2 hm).up0 g3
    exact ⟨p, vs, i, z, rfl, rfl, h1, Nat.lt_of_le_of_lt (Nat.le_of_eq h2.length) (Nat.lt_of_lt_of_le hz (by decide)), by omega, by omega, q i z vs H3 ((g.wide.trans g2).trans g3.wide) (hst _ _ _ hw g3) h1 h2 hz3⟩
end

/-! ### a lambda handed on -/
section
variable {X : Cx} {T : TL}
/-- x(lambda .., y): ws what the lambda captures, v the value of y (slot i2) -/
def tLam2 (T : TL) (js : List Nat) (i2 : Nat) (q : Str) (spc : Addr → Addr → List V → Sp) : TE := fun σ H Q => ∃ (ws : List V) (v : V), js.map (slotAt σ) = ws.map some ∧ σ[i2]? = some (some v) ∧ Tabs T H ∧
  ∀ f c' H1, G T [] H H1 → H1 c' = some (CodeO c' q) → spc f c' ws [.ref f, v] H1 Q L2.E0
theorem pe_lam2 {x a2 pa pb : Str} {st : Stmt} {c P : Addr} {k i2 : Nat} {params : Arguments} {body : Expr} {scope : Scope} {fr : List Str} {js : List Nat} {spc : Addr → Addr → List V → Sp} {p p2 lpos pos : Pos} (D : Dfn X.K X.mg x st [pa, pb])
    (hG : ∀ (base' : Heap) (f c' : Addr) (cl : List (Str × Addr)) (ws : List V), IsClo base' f c' (X.env.qual ++ "<lambda>") params body scope cl fr ws → FnOk X.prog X.w X.K X.mg base' L2.CX0 k D.f D.fd [pa, pb] (spc f c' ws)) (hr : Room k X.A) (hg : Gl X x)
    (TB : TabB X.base X.mg c P) (hcode : X.env.code = .ref c) (hm : (P, X.env.qual ++ "<lambda>") ∈ T) (hu : ∀ p ∈ T, p.1 = P → p.2 = X.env.qual ++ "<lambda>") (hdef : defaultsOf params X.env = ([], []))
    (hfree : ∀ y ∈ scope.names, y.2 = .free → X.env.scope.names.lookup y.1 = some .cell ∨ X.env.scope.names.lookup y.1 = some .free) (hfr : ∀ y ∈ fr, (y, NameKind.free) ∈ scope.names) (hjs : js.map (fun j => X.N[j]?) = fr.map some) (hfn : ∀ y, X.fn y = true)
    (hN2 : X.N[i2]? = some a2) (hv2 : Vis X.env.scope a2) (hdb : (x == ("__debug__" : Str)) = false := by decide) (hd2 : (a2 == ("__debug__" : Str)) = false := by decide) (hcd2 : (a2 == ("__classdict__" : Str)) = false := by decide)
    (he : starEach [.Lambda params body scope lpos, .Name a2 p2] X.env = (false, eval (.Lambda params body scope lpos) X.env) :: starEach [.Name a2 p2] X.env := by rfl) (hpl : (backTo pos (starEach [.Name a2 p2] X.env)).any (·.1) = false := by rfl)
    (he2 : starEach [.Name a2 p2] X.env = (false, eval (.Name a2 p2) X.env) :: starEach [] X.env := by rfl) :
    PE X (.Call (.Name x p) [.Lambda params body scope lpos, .Name a2 p2] [] pos) (tLam2 T js i2 (X.env.qual ++ "<lambda>") spc) := by
  refine ⟨fun pins s σ H Q I h => ?_⟩
  obtain ⟨ws, v, hws, hv, hT, h⟩ := h
  have cfree : ∀ y ∈ scope.names, y.2 = .free → ∃ c, X.env.cells.lookup y.1 = some c := fun y hy e => by
    rcases hfree y hy e with k | k
    · exact I.ok.has _ (.inl k)
    · exact I.ok.has _ (.inr k)
  refine wpAny_Call_Name_kw (ld_glob I hg D.g ?_ hdb)
  refine PySem.W.callWith_K (h₀ := X.base) I.ok.mod.kin D.F.kp ?_ he hpl
  rw [he]
  show wpAny _ _ (spliced ((false, eval (.Lambda params body scope lpos) X.env) :: backTo pos (starEach [.Name a2 p2] X.env))) _ _ s
  refine Calls.spliced_cons (lam_make2 I TB hcode hm hu hT hdef cfree fun f c' pm' ctv H1 s' I1 eN T1 hf hfn1 hfr1 hco => ?_)
  have fne : f ≠ X.env.locals := fun z => by
    obtain ⟨m, ⟨o, es, ep, e, hd, _⟩, _⟩ := I1.loc
    rw [← z, hf] at e
    cases e
    cases hd
  have fnf : f ∉ X.fs := fun z => hfr1 (by
    rcases I.ok.stk with e | ⟨e, _⟩
    · rw [e]
      exact z
    · rw [e]
      obtain ⟨env, h1, h2⟩ := List.mem_filterMap.mp z
      exact List.mem_filterMap.mpr ⟨env, List.mem_cons_of_mem _ h1, h2⟩)
  have I1' : Inv X ((f, PySem.W.kla_obj "<lambda>" (X.env.qual ++ "<lambda>") params body scope (cloFrom X.env.cells scope.names []) pm' c' ctv) :: pins) σ H1 s' := I1.pins_of fun p hp => by
    rcases List.mem_cons.mp hp with z | z
    · rw [z]
      exact ⟨hf, hfn1, fne, fnf, fun v z => by cases z⟩
    · exact I1.pin p (List.mem_append_right _ z)
  refine thn ((pa_cons (pe_var (i := i2) hN2 hv2 hd2 hcd2) pa_nil he2).run pos _ s' σ H1 (fun vs H2 => vs = [v] ∧ H2 = H1) I1' ⟨v, hv, rfl, rfl⟩) fun us s2 ⟨vs, H2, I2', r, e1, e2⟩ => ?_
  subst e1
  rw [e2] at I2'
  have I2 : Inv X pins σ H1 s2 := I2'.pins_of fun p hp => I2'.pin p (List.mem_append_right _ (List.mem_cons_of_mem _ hp))
  have hf2 := (I2'.pin (f, _) (List.mem_append_right _ List.mem_cons_self)).1
  have C : CellsAt (cloFrom X.env.cells scope.names []) fr (js.map (slotAt σ)) s2.heap H1 := cells_of I2 (Caps.made I2.ok hfree hfr hjs)
  have stl : ∀ {y : Str} {c : Addr} {v : Option Value}, (cloFrom X.env.cells scope.names []).lookup y = some c → s2.heap.IsCell c v → (still s2.heap H1 (frs X.stack)).IsCell c v := fun {y c v} e ⟨o, ho, hd⟩ => by
    refine ⟨o, still_get ho (C.all y c e).1 fun hm => ?_, hd⟩
    have ec := (Caps.made (fr := fr) (js := js) I2.ok hfree hfr hjs).sub y c e
    rcases List.mem_cons.mp (I2.stkSub c hm) with z | z
    · exact I2.cne y c ec z
    · obtain ⟨_, o', ho', _⟩ := I2.ok.funs.mem z
      exact absurd (Nat.lt_of_lt_of_le (Heap.lt_size ho') (I2.ok.cab y c (hfn y) ec)) (Nat.lt_irrefl _)
  have B : IsClo (still s2.heap H1 (frs X.stack)) f c' (X.env.qual ++ "<lambda>") params body scope (cloFrom X.env.cells scope.names []) fr ws := by
    have hl : ws.length = fr.length := by
      have q := C.len
      rw [hws, List.length_map] at q
      exact q
    refine ⟨⟨pm', ctv, still_get hf2 hfn1 hfr1⟩, hl, C.inj, fun y c e => ?_, fun i y w ey ew => ?_⟩
    · obtain ⟨_, w, z⟩ := C.all y c e
      exact ⟨w, stl e z⟩
    · obtain ⟨c, e, hc⟩ := C.has i y ey
      obtain ⟨u, ru, z⟩ := hc w (by rw [hws, List.getElem?_map, ew]; rfl)
      exact ⟨c, u, e, ru, stl e z⟩
  have e0 := env_still I2
  have g1 : G T [] H H1 := ⟨fun a o e _ z => eN a o e z, fun a o e z => eN a o e (fixed_tbl z), T1⟩
  refine ⟨I2.kIn, ?_⟩
  show wpAny _ _ (call (.ref D.f) (.ref f :: us)) _ _ _
  have r2 : Vals (V.ref f :: [v]) (Value.ref f :: us) := .cons rfl r
  have hl : ((Value.ref f :: us) ++ ([] : List Value)).length = [pa, pb].length := by
    rw [List.append_nil, ← r2.length]
    rfl
  have hb := D.b s2 (Value.ref f :: us) I2.kIn hl
  rw [List.append_nil] at hb
  refine wpAny_call (codeAny_mono ((hG _ f c' _ ws B).run X.A X.stack s2 H1 ⟨Value.ref f :: us, []⟩ (Value.ref f :: us) [.ref f, v] Q L2.E0 hr e0 hb r2 (h f c' H1 g1 hco)) fun r s' hq => ?_)
  cases r with
  | error e => exact (show False from hq).elim
  | ok fl =>
    cases fl with
    | ret u => exact I2.after hq
    | next => exact False.elim hq
    | brk => exact False.elim hq
    | cont => exact False.elim hq
end
end U
namespace K01
open PySem PySem.Spec PyProof.Rows L2 LamX NdefX Clo LRev U
/-! ### the text -/
def topS (i : Nat) : Stmt := PySem.Challenge.pw_unsewn_k01_whole_leaves_by_going_through.main.body.getD i (.Pass ⟨0, 0, 0, 0⟩)
abbrev s_need : Stmt := topS 5
theorem sc_need : FnScope ["holds", "name"] ["holds", "name"] (defScope s_need) := ⟨rfl, rfl, rfl, by decide +kernel, rfl, by decide +kernel, by decide +kernel⟩
abbrev s_is_integer : Stmt := topS 7
theorem sc_is_integer : FnScope ["thing"] ["thing"] (defScope s_is_integer) := ⟨rfl, rfl, rfl, by decide +kernel, rfl, by decide +kernel, by decide +kernel⟩
abbrev s_is_number : Stmt := topS 8
theorem sc_is_number : FnScope ["thing"] ["thing"] (defScope s_is_number) := ⟨rfl, rfl, rfl, by decide +kernel, rfl, by decide +kernel, by decide +kernel⟩
abbrev s_is_below : Stmt := topS 9
theorem sc_is_below : FnScope ["many", "thing"] ["many", "thing"] (defScope s_is_below) := ⟨rfl, rfl, rfl, by decide +kernel, rfl, by decide +kernel, by decide +kernel⟩
abbrev s_is_tuple_of : Stmt := topS 10
theorem sc_is_tuple_of : FnScope ["check", "thing", "part"] ["check", "thing"] (defScope s_is_tuple_of) := ⟨rfl, rfl, rfl, by decide +kernel, rfl, by decide +kernel, by decide +kernel⟩
abbrev s_are_below : Stmt := topS 11
theorem sc_are_below : FnScope ["many", "thing"] ["many", "thing"] (defScope s_are_below) := ⟨rfl, rfl, rfl, by decide +kernel, rfl, by decide +kernel, by decide +kernel⟩
abbrev s_ascends : Stmt := topS 12
theorem sc_ascends : FnScope ["row", "at"] ["row"] (defScope s_ascends) := ⟨rfl, rfl, rfl, by decide +kernel, rfl, by decide +kernel, by decide +kernel⟩
abbrev s_is_word : Stmt := topS 13
theorem sc_is_word : FnScope ["heap", "thing"] ["heap", "thing"] (defScope s_is_word) := ⟨rfl, rfl, rfl, by decide +kernel, rfl, by decide +kernel, by decide +kernel⟩
abbrev s_is_leaf : Stmt := topS 14
theorem sc_is_leaf : FnScope ["heap", "thing"] ["heap", "thing"] (defScope s_is_leaf) := ⟨rfl, rfl, rfl, by decide +kernel, rfl, by decide +kernel, by decide +kernel⟩
abbrev s_is_lot : Stmt := topS 15
theorem sc_is_lot : FnScope ["heap", "thing"] ["heap", "thing"] (defScope s_is_lot) := ⟨rfl, rfl, rfl, by decide +kernel, rfl, by decide +kernel, by decide +kernel⟩
abbrev s_is_set_below : Stmt := topS 16
theorem sc_is_set_below : FnScope ["many", "thing"] ["many", "thing"] (defScope s_is_set_below) := ⟨rfl, rfl, rfl, by decide +kernel, rfl, by decide +kernel, by decide +kernel⟩
abbrev s_fan_of : Stmt := topS 18
theorem sc_fan_of : FnScope ["heap", "word"] ["heap", "word"] (defScope s_fan_of) := ⟨rfl, rfl, rfl, by decide +kernel, rfl, by decide +kernel, by decide +kernel⟩
abbrev s_ends_of : Stmt := topS 19
theorem sc_ends_of : FnScope ["heap", "word"] ["heap", "word"] (defScope s_ends_of) := ⟨rfl, rfl, rfl, by decide +kernel, rfl, by decide +kernel, by decide +kernel⟩
abbrev s_surplus_of : Stmt := topS 20
theorem sc_surplus_of : FnScope ["heap", "word"] ["heap", "word"] (defScope s_surplus_of) := ⟨rfl, rfl, rfl, by decide +kernel, rfl, by decide +kernel, by decide +kernel⟩
abbrev s_loops_of : Stmt := topS 21
theorem sc_loops_of : FnScope ["heap", "leaves", "at"] ["heap"] (defScope s_loops_of) := ⟨rfl, rfl, rfl, by decide +kernel, rfl, by decide +kernel, by decide +kernel⟩
abbrev s_from_word : Stmt := topS 22
theorem sc_from_word : FnScope ["heap", "word", "leaves", "at"] ["heap", "word"] (defScope s_from_word) := ⟨rfl, rfl, rfl, by decide +kernel, rfl, by decide +kernel, by decide +kernel⟩
abbrev s_to_word : Stmt := topS 23
theorem sc_to_word : FnScope ["heap", "word", "leaves", "at"] ["heap", "word"] (defScope s_to_word) := ⟨rfl, rfl, rfl, by decide +kernel, rfl, by decide +kernel, by decide +kernel⟩
abbrev s_like_leaves : Stmt := topS 24
theorem sc_like_leaves : FnScope ["heap", "leaf", "leaves", "at"] ["heap", "leaf"] (defScope s_like_leaves) := ⟨rfl, rfl, rfl, by decide +kernel, rfl, by decide +kernel, by decide +kernel⟩
abbrev s_like_sets : Stmt := topS 25
theorem sc_like_sets : FnScope ["heap", "alike", "leaf"] ["heap"] (defScope s_like_sets) := ⟨rfl, rfl, rfl, by decide +kernel, rfl, by decide +kernel, by decide +kernel⟩
abbrev s_gates_of : Stmt := topS 27
theorem sc_gates_of : FnScope ["heap", "lot"] ["heap", "lot"] (defScope s_gates_of) := ⟨rfl, rfl, rfl, by decide +kernel, rfl, by decide +kernel, by decide +kernel⟩
abbrev s_within : Stmt := topS 28
theorem sc_within : FnScope ["heap", "lot"] ["heap", "lot"] (defScope s_within) := ⟨rfl, rfl, rfl, by decide +kernel, rfl, by decide +kernel, by decide +kernel⟩
abbrev s_leaving : Stmt := topS 29
theorem sc_leaving : FnScope ["heap", "lot"] ["heap", "lot"] (defScope s_leaving) := ⟨rfl, rfl, rfl, by decide +kernel, rfl, by decide +kernel, by decide +kernel⟩
abbrev s_entering : Stmt := topS 30
theorem sc_entering : FnScope ["heap", "lot"] ["heap", "lot"] (defScope s_entering) := ⟨rfl, rfl, rfl, by decide +kernel, rfl, by decide +kernel, by decide +kernel⟩
abbrev s_crossing : Stmt := topS 31
theorem sc_crossing : FnScope ["heap", "lot", "from_inside", "to_inside", "leaves", "at"] ["heap", "lot", "from_inside", "to_inside"] (defScope s_crossing) := ⟨rfl, rfl, rfl, by decide +kernel, rfl, by decide +kernel, by decide +kernel⟩
abbrev s__law_mix : Stmt := topS 33
theorem sc__law_mix : FnScope ["_law_cell", "_law_k", "_law_first", "_law_second"] ["_law_cell", "_law_k"] (defScope s__law_mix) := ⟨rfl, rfl, rfl, by decide +kernel, rfl, by decide +kernel, by decide +kernel⟩
abbrev s__law_cells : Stmt := topS 34
theorem sc__law_cells : FnScope ["_law_script", "_law_many_more", "_law_row_of", "_law_seed", "_law_cell", "_law_k", "_law_left"] ["_law_script", "_law_many_more"] (defScope s__law_cells) := ⟨rfl, rfl, rfl, by decide +kernel, rfl, by decide +kernel, by decide +kernel⟩
abbrev s__law_pick : Stmt := topS 35
theorem sc__law_pick : FnScope ["_law_cells_here", "_law_limit"] ["_law_cells_here", "_law_limit"] (defScope s__law_pick) := ⟨rfl, rfl, rfl, by decide +kernel, rfl, by decide +kernel, by decide +kernel⟩
abbrev s__law_dealt : Stmt := topS 36
theorem sc__law_dealt : FnScope ["_law_cells_here", "_law_things", "_law_rest", "_law_out", "_law_k"] ["_law_cells_here", "_law_things"] (defScope s__law_dealt) := ⟨rfl, rfl, rfl, by decide +kernel, rfl, by decide +kernel, by decide +kernel⟩
abbrev s__law_ring : Stmt := topS 37
theorem sc__law_ring : FnScope ["_law_cells_here", "_law_size", "_law_extra", "_law_walk", "_law_w", "_law_leaves", "_law_k"] ["_law_cells_here", "_law_size", "_law_extra"] (defScope s__law_ring) := ⟨rfl, rfl, rfl, by decide +kernel, rfl, by decide +kernel, by decide +kernel⟩
abbrev s__law_heap : Stmt := topS 38
theorem sc__law_heap : FnScope ["_law_cells_here", "_law_kind", "_law_size", "_law_extra", "_law_leaves", "_law_index", "_law_k"] ["_law_cells_here", "_law_kind"] (defScope s__law_heap) := ⟨rfl, rfl, rfl, by decide +kernel, rfl, by decide +kernel, by decide +kernel⟩
abbrev s__law_twin : Stmt := topS 39
theorem sc__law_twin : FnScope ["_law_cells_here", "_law_pile", "_law_changed", "_law_index", "_law_size", "_law_leaves"] ["_law_cells_here", "_law_pile"] (defScope s__law_twin) := ⟨rfl, rfl, rfl, by decide +kernel, rfl, by decide +kernel, by decide +kernel⟩
abbrev s__law_lots : Stmt := topS 40
theorem sc__law_lots : FnScope ["_law_cells_here", "_law_size", "_law_lots_here", "_law_k", "_law_w"] ["_law_cells_here", "_law_size"] (defScope s__law_lots) := ⟨rfl, rfl, rfl, by decide +kernel, rfl, by decide +kernel, by decide +kernel⟩
abbrev s__law_same : Stmt := topS 41
theorem sc__law_same : FnScope ["_law_told", "_law_due", "_law_k"] ["_law_told", "_law_due"] (defScope s__law_same) := ⟨rfl, rfl, rfl, by decide +kernel, rfl, by decide +kernel, by decide +kernel⟩
abbrev s__law_words : Stmt := topS 42
theorem sc__law_words : FnScope ["_law_pile", "_law_out", "_law_into", "_law_loops", "_law_k", "_law_w", "_law_size", "_law_leaves"] ["_law_pile"] (defScope s__law_words) := ⟨rfl, rfl, rfl, by decide +kernel, rfl, by decide +kernel, by decide +kernel⟩
abbrev s__law_likes : Stmt := topS 43
theorem sc__law_likes : FnScope ["_law_pile", "_law_leaves", "_law_groups", "_law_where", "_law_k", "_law_place", "_law_g", "_law_group"] ["_law_pile"] (defScope s__law_likes) := ⟨rfl, rfl, rfl, by decide +kernel, rfl, by decide +kernel, by decide +kernel⟩
abbrev s__law_cuts : Stmt := topS 44
theorem sc__law_cuts : FnScope ["_law_pile", "_law_lots_here", "_law_lot_of", "_law_inner", "_law_gone", "_law_come", "_law_k", "_law_side"] ["_law_pile", "_law_lots_here"] (defScope s__law_cuts) := ⟨rfl, rfl, rfl, by decide +kernel, rfl, by decide +kernel, by decide +kernel⟩
abbrev s_law : Stmt := topS 45
theorem sc_law : FnScope ["_law_script", "_law_cells_here", "_law_pile", "_law_twin_here", "_law_lots_here", "_law_each"] ["_law_script"] (defScope s_law) := ⟨rfl, rfl, rfl, by decide +kernel, rfl, by decide +kernel, by decide +kernel⟩
/-- where the text's defs stand, and that no name hides a built-in -/
structure Txt (K : PySem.W.Frag) (mg : Str → Option Value) where
  need : Dfn K mg "need" s_need ["holds", "name"]
  is_integer : Dfn K mg "is_integer" s_is_integer ["thing"]
  is_number : Dfn K mg "is_number" s_is_number ["thing"]
  is_below : Dfn K mg "is_below" s_is_below ["many", "thing"]
  is_tuple_of : Dfn K mg "is_tuple_of" s_is_tuple_of ["check", "thing"]
  are_below : Dfn K mg "are_below" s_are_below ["many", "thing"]
  ascends : Dfn K mg "ascends" s_ascends ["row"]
  is_word : Dfn K mg "is_word" s_is_word ["heap", "thing"]
  is_leaf : Dfn K mg "is_leaf" s_is_leaf ["heap", "thing"]
  is_lot : Dfn K mg "is_lot" s_is_lot ["heap", "thing"]
  is_set_below : Dfn K mg "is_set_below" s_is_set_below ["many", "thing"]
  fan_of : Dfn K mg "fan_of" s_fan_of ["heap", "word"]
  ends_of : Dfn K mg "ends_of" s_ends_of ["heap", "word"]
  surplus_of : Dfn K mg "surplus_of" s_surplus_of ["heap", "word"]
  loops_of : Dfn K mg "loops_of" s_loops_of ["heap"]
  from_word : Dfn K mg "from_word" s_from_word ["heap", "word"]
  to_word : Dfn K mg "to_word" s_to_word ["heap", "word"]
  like_leaves : Dfn K mg "like_leaves" s_like_leaves ["heap", "leaf"]
  like_sets : Dfn K mg "like_sets" s_like_sets ["heap"]
  gates_of : Dfn K mg "gates_of" s_gates_of ["heap", "lot"]
  within : Dfn K mg "within" s_within ["heap", "lot"]
  leaving : Dfn K mg "leaving" s_leaving ["heap", "lot"]
  entering : Dfn K mg "entering" s_entering ["heap", "lot"]
  crossing : Dfn K mg "crossing" s_crossing ["heap", "lot", "from_inside", "to_inside"]
  _law_mix : Dfn K mg "_law_mix" s__law_mix ["_law_cell", "_law_k"]
  _law_cells : Dfn K mg "_law_cells" s__law_cells ["_law_script", "_law_many_more"]
  _law_pick : Dfn K mg "_law_pick" s__law_pick ["_law_cells_here", "_law_limit"]
  _law_dealt : Dfn K mg "_law_dealt" s__law_dealt ["_law_cells_here", "_law_things"]
  _law_ring : Dfn K mg "_law_ring" s__law_ring ["_law_cells_here", "_law_size", "_law_extra"]
  _law_heap : Dfn K mg "_law_heap" s__law_heap ["_law_cells_here", "_law_kind"]
  _law_twin : Dfn K mg "_law_twin" s__law_twin ["_law_cells_here", "_law_pile"]
  _law_lots : Dfn K mg "_law_lots" s__law_lots ["_law_cells_here", "_law_size"]
  _law_same : Dfn K mg "_law_same" s__law_same ["_law_told", "_law_due"]
  _law_words : Dfn K mg "_law_words" s__law_words ["_law_pile"]
  _law_likes : Dfn K mg "_law_likes" s__law_likes ["_law_pile"]
  _law_cuts : Dfn K mg "_law_cuts" s__law_cuts ["_law_pile", "_law_lots_here"]
  law : Dfn K mg "law" s_law ["_law_script"]
  z_abs : mg "abs" = none
  z_all : mg "all" = none
  z_bool : mg "bool" = none
  z_int : mg "int" = none
  z_isinstance : mg "isinstance" = none
  z_len : mg "len" = none
  z_list : mg "list" = none
  z_range : mg "range" = none
  z_reversed : mg "reversed" = none
  z_tuple : mg "tuple" = none

/-! ### arguments -/
section
variable {K : PySem.W.Frag} {H : Hp} {vs : List V}
theorem ima1 {a : D} (h : ImA K H vs [a]) : ∃ x, vs = [x] ∧ Im K H x a := by
  cases h with
  | cons h r => cases r; exact ⟨_, rfl, h⟩
theorem ima2 {a b : D} (h : ImA K H vs [a, b]) : ∃ x y, vs = [x, y] ∧ Im K H x a ∧ Im K H y b := by
  cases h with
  | cons h r =>
    obtain ⟨y, rfl, h2⟩ := ima1 r
    exact ⟨_, _, rfl, h, h2⟩
theorem ima4 {a b c d : D} (h : ImA K H vs [a, b, c, d]) : ∃ x y z w, vs = [x, y, z, w] ∧ Im K H x a ∧ Im K H y b ∧ Im K H z c ∧ Im K H w d := by
  cases h with
  | cons h r =>
    cases r with
    | cons h2 r =>
      obtain ⟨z, w, rfl, h3, h4⟩ := ima2 r
      exact ⟨_, _, _, _, rfl, h, h2, h3, h4⟩
end
theorem at_nat {α : Type} {ds : List α} {z : Int} {j : Nat} {d : α} (e : z = (j : Int)) (h : ds[j]? = some d) : atI ds z = some d := by
  subst e
  have hj := (List.getElem?_eq_some_iff.mp h).1
  unfold atI ixN
  rw [if_pos (by omega), if_pos (by omega)]
  exact h
/-! ### what the program's defs say -/
def noP (d : D) : Prop := ∀ a, d ≠ .ptr a
def isInt : D → Bool
  | .int _ => true
  | _ => false
def isNum : D → Bool
  | .int i => decide (0 ≤ i)
  | _ => false
def below (n : Int) : D → Bool
  | .int i => decide (0 ≤ i) && decide (i < n)
  | _ => false
theorem kit_int : ∀ d : D, kitB (tyD d) "int" = some (match d with | .int _ => true | .bl _ => true | _ => false)
  | .non => (by decide +kernel : kitB "NoneType" "int" = some false)
  | .bl _ => (by decide +kernel : kitB "bool" "int" = some true)
  | .int _ => (by decide +kernel : kitB "int" "int" = some true)
  | .str _ => (by decide +kernel : kitB "str" "int" = some false)
  | .tup _ => (by decide +kernel : kitB "tuple" "int" = some false)
  | .ptr _ => (by decide +kernel : kitB "list" "int" = some false)
theorem kit_bool : ∀ d : D, kitB (tyD d) "bool" = some (match d with | .bl _ => true | _ => false)
  | .non => (by decide +kernel : kitB "NoneType" "bool" = some false)
  | .bl _ => (by decide +kernel : kitB "bool" "bool" = some true)
  | .int _ => (by decide +kernel : kitB "int" "bool" = some false)
  | .str _ => (by decide +kernel : kitB "str" "bool" = some false)
  | .tup _ => (by decide +kernel : kitB "tuple" "bool" = some false)
  | .ptr _ => (by decide +kernel : kitB "list" "bool" = some false)
theorem kit_tuple : ∀ d : D, kitB (tyD d) "tuple" = some (match d with | .tup _ => true | _ => false)
  | .non => (by decide +kernel : kitB "NoneType" "tuple" = some false)
  | .bl _ => (by decide +kernel : kitB "bool" "tuple" = some false)
  | .int _ => (by decide +kernel : kitB "int" "tuple" = some false)
  | .str _ => (by decide +kernel : kitB "str" "tuple" = some false)
  | .tup _ => (by decide +kernel : kitB "tuple" "tuple" = some true)
  | .ptr _ => (by decide +kernel : kitB "list" "tuple" = some false)
section
variable {P : Program} {w : World} {K : PySem.W.Frag} {mg : Str → Option Value} {base : Heap} {τ : TL}
def FNeed (ds : List D) (r : D) : Prop := ∃ s, ds = [.bl true, .str s] ∧ r = .non
theorem ok_need (T : Txt K mg) : FnOk P w K mg base L2.CX0 1 T.need.f T.need.fd ["holds", "name"] (spF τ K FNeed) := by
  refine T.need.F.ok sc_need (fun vs H Q E h => ?_) (fun cdv A outer s H vs Q E hr h => ?_)
  · obtain ⟨ds, r, h1, _, ⟨s, rfl, _⟩, _⟩ := h
    exact h1.length
  · obtain ⟨ds, r, hv, tb, ⟨s, rfl, rfl⟩, q⟩ := h
    obtain ⟨x, y, rfl, h1, h2⟩ := ima2 hv
    refine ⟨_, (pss_one (ps_if (pt_not (pt_val (pv 0))) (pss_one ps_never) pss_nil)), ?_⟩
    refine s_if tb (et_not (et_B (K := K) (ei_var rfl h1))) (fun z => by cases z) fun _ H1 g => ?_
    exact q _ _ g .non
def FIsInt (ds : List D) (r : D) : Prop := ∃ d, ds = [d] ∧ noP d ∧ r = .bl (isInt d)
theorem ok_is_integer (T : Txt K mg) : FnOk P w K mg base L2.CX0 1 T.is_integer.f T.is_integer.fd ["thing"] (spF τ K FIsInt) := by
  refine T.is_integer.F.ok sc_is_integer (fun vs H Q E h => ?_) (fun cdv A outer s H vs Q E hr h => ?_)
  · obtain ⟨ds, r, h1, _, ⟨s, rfl, _⟩, _⟩ := h
    exact h1.length
  · obtain ⟨ds, r, hv, tb, ⟨d, rfl, hp, rfl⟩, q⟩ := h
    obtain ⟨x, rfl, h1⟩ := ima1 hv
    refine ⟨_, (pss_one (ps_ret (pe_and (pe_callB (r := rIsi K) call_isi (by rfl) T.z_isinstance (by decide +kernel) (pa_cons (pv 0) (pa_cons (pe_bltn (v := .ty "int") (u := .type "int") (by rfl) T.z_int (by decide +kernel) rfl) pa_nil))) (pe_one (pe_not (pe_callB (r := rIsi K) call_isi (by rfl) T.z_isinstance (by decide +kernel) (pa_cons (pv 0) (pa_cons (pe_bltn (v := .ty "bool") (u := .type "bool") (by rfl) T.z_bool (by decide +kernel) rfl) pa_nil)))))))), ?_⟩
    refine s_ret (K := K) tb (ei_and (ei_isi (T' := τ) (ei_var rfl h1) hp (kit_int d)) (fun e => ?_) (fun e => ?_)) q
    · refine ei_is (ei_not (ei_isi (T' := τ) (ei_var rfl h1) hp (kit_bool d))) ?_
      cases d <;> first | rfl | cases e
    · cases d <;> first | rfl | cases e
def FIsNum (ds : List D) (r : D) : Prop := ∃ d, ds = [d] ∧ noP d ∧ r = .bl (isNum d)
theorem ok_is_number (T : Txt K mg) : FnOk P w K mg base L2.CX0 2 T.is_number.f T.is_number.fd ["thing"] (spF τ K FIsNum) := by
  have G_is_integer : FnOk P w K mg base L2.CX0 1 T.is_integer.f T.is_integer.fd _ _ := ok_is_integer (τ := τ) T
  refine T.is_number.F.ok sc_is_number (fun vs H Q E h => ?_) (fun cdv A outer s H vs Q E hr h => ?_)
  · obtain ⟨ds, r, h1, _, ⟨s, rfl, _⟩, _⟩ := h
    exact h1.length
  · obtain ⟨ds, r, hv, tb, ⟨d, rfl, hp, rfl⟩, q⟩ := h
    obtain ⟨x, rfl, h1⟩ := ima1 hv
    refine ⟨_, (pss_one (ps_ret (pe_and (pc T.is_integer G_is_integer (hr.mono (by decide)) (by rfl) (pa_cons (pv 0) pa_nil)) (pe_one (pe_cmpR op_ge (pv 0) pe_int (nomark _)))))), ?_⟩
    refine s_ret (K := K) tb (ei_and (ei_call (ea_cons (ei_var rfl h1) ea_nil) ⟨d, rfl, hp, rfl⟩) (fun e => ?_) (fun e => ?_)) q
    · cases d with
      | int i => exact ei_ge (ei_var rfl h1) ei_i
      | _ => cases e
    · cases d <;> first | rfl | cases e
def FIsBelow (ds : List D) (r : D) : Prop := ∃ n d, ds = [.int n, d] ∧ noP d ∧ r = .bl (below n d)
theorem ok_is_below (T : Txt K mg) : FnOk P w K mg base L2.CX0 3 T.is_below.f T.is_below.fd ["many", "thing"] (spF τ K FIsBelow) := by
  have G_is_number : FnOk P w K mg base L2.CX0 2 T.is_number.f T.is_number.fd _ _ := ok_is_number (τ := τ) T
  refine T.is_below.F.ok sc_is_below (fun vs H Q E h => ?_) (fun cdv A outer s H vs Q E hr h => ?_)
  · obtain ⟨ds, r, h1, _, ⟨n, s, rfl, _⟩, _⟩ := h
    exact h1.length
  · obtain ⟨ds, r, hv, tb, ⟨n, d, rfl, hp, rfl⟩, q⟩ := h
    obtain ⟨y, x, rfl, h0, h1⟩ := ima2 hv
    refine ⟨_, (pss_one (ps_ret (pe_and (pc T.is_number G_is_number (hr.mono (by decide)) (by rfl) (pa_cons (pv 1) pa_nil)) (pe_one (pe_cmpR op_lt (pv 1) (pv 0) (nomark _)))))), ?_⟩
    refine s_ret (K := K) tb (ei_and (ei_call (ea_cons (ei_var rfl h1) ea_nil) ⟨d, rfl, hp, rfl⟩) (fun e => ?_) (fun e => ?_)) q
    · cases d with
      | int i =>
        refine ei_is (ei_lt (ei_var rfl h1) (ei_var rfl h0)) ?_
        have e : decide (0 ≤ i) = true := e
        show _ = D.bl (decide (0 ≤ i) && decide (i < n))
        rw [e]
        rfl
      | _ => cases e
    · cases d with
      | int i =>
        have e : decide (0 ≤ i) = false := e
        show D.bl (decide (0 ≤ i) && decide (i < n)) = _
        rw [e]
        rfl
      | _ => rfl
/-! ### the lambda of are_below -/
def lamOf (st : Stmt) : Arguments × Expr × Scope := match defBody st with
  | [.Return (some (.Call _ [.Lambda a b sc _, _] _ _)) _] => (a, b, sc)
  | _ => (defArgs st, .Name "x" ⟨0, 0, 0, 0⟩, defScope st)
abbrev lamA : Arguments := (lamOf s_are_below).1
abbrev lamB : Expr := (lamOf s_are_below).2.1
abbrev lamS : Scope := (lamOf s_are_below).2.2
abbrev lamQ : Str := ("are_below" : Str) ++ ".<locals>." ++ "<lambda>"
theorem nsc_lam : NScope ["part", "many"] ["part"] ["many"] lamS := nscope_by (by decide +kernel)
theorem nd_lam : ndefB (defScope s_are_below) lamS ["many"] = true := by decide +kernel
theorem nb_lam {q : Str} {cl : List (Str × Addr)} {c' : Addr} (pm ctv : Value) (us : List Value) (h : us.length = (["part"] : List Str).length) : bindArgs (PySem.W.kla_fn "<lambda>" q lamA lamB lamS cl pm (.ref c') ctv) ⟨us, []⟩ = pure ((["part"] : List Str).zip us) :=
  match us, h with
  | [_], _ => rfl
theorem ei_clo {σ : L2.St} {H : Hp} {i : Nat} {f c' : Addr} {q : Str} {N ps : List Str} {ws : List V} {t : TA} {tb : TE} {ds : List D} {d : D} (h0 : σ[i]? = some (some (.ref f))) (hc : H c' = some (CodeO c' q)) (h : EvA τ K t σ H ds) (hl : ds.length = ps.length)
    (hb : ∀ vs H1, G τ [] H H1 → ImA K H1 vs ds → EvI τ K tb (startF N vs (ws.map some)) H1 d) : EvI τ K (tClo i f c' q N ps ws t tb) σ H d := fun H1 g Q k =>
  ⟨h0, h H1 g _ fun vs H2 g2 hvs => ⟨by rw [hvs.length]; exact hl, (g.trans g2).keep c' _ hc (by simp) fun ps => codeO_ne ps, hb vs H2 (g.trans g2) hvs H2 (.refl g2.tabs) Q fun v H3 g3 hv => k v H3 (g2.trans g3) hv⟩⟩
/-- a thing without lists in its first two storeys, of a size -/
structure OkD (d : D) : Prop where
  no : noP d
  all : ∀ ds, d = .tup ds → (∀ x ∈ ds, noP x) ∧ ds.length ≤ 1000000
def areBelow (n : Int) : D → Bool
  | .tup ds => ds.all (below n)
  | _ => false
/-- is_tuple_of, the check being the lambda -/
def spTC (τ : TL) (K : PySem.W.Frag) (f c' : Addr) (ws : List V) : Sp := fun vs H Q _ => ∃ n d v, ws = [.int n] ∧ vs = [.ref f, v] ∧ H c' = some (CodeO c' lamQ) ∧ Tabs τ H ∧ Im K H v d ∧ OkD d ∧ ∀ H2, G τ [] H H2 → Q (.bl (areBelow n d)) H2
theorem outs_bl (g : Nat → Bool) (n : Nat) : outs (fun _ => true) (fun i => D.bl (g i)) n = ((List.range n).map g).map D.bl := by
  rw [outs_all, List.map_map]
  rfl
theorem all_get {α : Type} (p : α → Bool) (g : Nat → Bool) : ∀ (l : List α), (∀ i x, l[i]? = some x → g i = p x) → ((List.range l.length).map g).all id = l.all p := by
  intro l h
  have e : (List.range l.length).map g = l.map p := by
    apply List.ext_getElem?
    intro i
    rw [List.getElem?_map, List.getElem?_map]
    by_cases hi : i < l.length
    · rw [List.getElem?_range hi, List.getElem?_eq_getElem hi]
      show some (g i) = some (p l[i])
      rw [h i _ (List.getElem?_eq_getElem hi)]
    · rw [List.getElem?_eq_none (by rw [List.length_range]; omega), List.getElem?_eq_none (by omega)]
      rfl
  rw [e, List.all_map]
  rfl
theorem ok_tuple_clo (T : Txt K mg) {f c' : Addr} {cl : List (Str × Addr)} {ws : List V} (B : IsClo base f c' lamQ lamA lamB lamS cl ["many"] ws) : FnOk P w K mg base L2.CX0 5 T.is_tuple_of.f T.is_tuple_of.fd ["check", "thing"] (spTC τ K f c' ws) := by
  have G_is_below : FnOk P w K mg base L2.CX0 3 T.is_below.f T.is_below.fd _ _ := ok_is_below (τ := τ) T
  refine T.is_tuple_of.F.ok sc_is_tuple_of (fun vs H Q E h => ?_) (fun cdv A outer s H vs Q E hr h => ?_)
  · obtain ⟨n, d, v, _, rfl, _⟩ := h
    rfl
  · obtain ⟨n, d, v, hw, rfl, hc, tb, hv, od, q⟩ := h
    have hbd : ∀ (A : Around) (outer : List Env) (s : Shared) (H : Hp) (E : XK), Room 3 (A.deeper (envF (nf lamQ lamA lamS cl c') f s.heap.objs.size)) →
        PE (ncx L2.CX0 P w K mg base ["part", "many"] (nf lamQ lamA lamS cl c') f A outer s H E) lamB (tCall (spF τ K FIsBelow) [] L2.E0 (tCons (tVar 1) (tCons (tVar 0) tNil))) := fun A outer s H E hr =>
      pc T.is_below G_is_below hr (by rfl) (pa_cons (pv 1) (pa_cons (pv 0) pa_nil))
    refine ⟨_, (pss_one (ps_ret (pe_and (pe_callB (r := rIsi K) call_isi (by rfl) T.z_isinstance (by decide +kernel) (pa_cons (pv 1) (pa_cons (pe_bltn (v := .ty "tuple") (u := .type "tuple") (by rfl) T.z_tuple (by decide +kernel) rfl) pa_nil))) (pe_one (pe_callB (r := rAll K) (cr_all rfl) (by rfl) T.z_all (by decide +kernel) (pa_cons (pe_lc (own := [("part", 2)]) (g := (gName 2)) (tt := tYes) rfl sc_is_tuple_of.nd (pi_tup (pv 1)) (blkOk_by (own := [("part", 2)]) (N := ["check", "thing", "part"]) (sc := defScope s_is_tuple_of) (by decide +kernel)) (fun _ _ _ _ _ => (pg_name (i := 2) sc_is_tuple_of.nd rfl (by first | exact .inl rfl | exact .inr rfl))) (fun _ _ _ _ _ => pts_nil) (fun _ _ _ _ _ => (pe_clo (i := 0) B nsc_lam nb_lam (hr.mono (by decide)) (fun A outer s H E hr => hbd A outer s H E hr) rfl (by first | exact .inl rfl | exact .inr (.inl rfl) | exact .inr (.inr rfl)) (pa_cons (pv 2) pa_nil)))) pa_nil)))))), ?_⟩
    refine s_ret (K := K) tb (d := .bl (areBelow n d)) (ei_and (ei_isi (T' := τ) (ei_var rfl hv) od.no (kit_tuple d)) (fun e => ?_) (fun e => ?_)) fun v H1 g hv => ?_
    · cases d with
      | tup ds =>
        obtain ⟨o1, o2⟩ := od.all ds rfl
        have en := en_lcT (T := τ) (K := K) (σ := start ["check", "thing", "part"] [.ref f, v]) (H := H) (t := tYes) (te := tClo 0 f c' lamQ ["part", "many"] ["part"] ws (tCons (tVar 2) tNil) (tCall (spF τ K FIsBelow) [] L2.E0 (tCons (tVar 1) (tCons (tVar 0) tNil)))) (tl := tVar 1) (j := 2) (vs := [2]) (fun _ => true) (fun i => .bl (below n (ds.getD i .non)))
          (ei_var rfl hv) o2 (fun _ => rfl) (fun _ _ _ _ _ _ _ => et_yes) fun i d z H1 g hd hz _ => by
            rw [List.getD_eq_getElem?_getD, hd]
            refine ei_clo rfl (g.keep c' _ hc (by simp) fun ps => codeO_ne ps) (ea_cons (ei_var rfl hz) ea_nil) rfl fun vs H2 g2 hvs => ?_
            obtain ⟨x, rfl, hx⟩ := ima1 hvs
            rw [hw]
            exact ei_call (ea_cons (ei_var rfl (.int n)) (ea_cons (ei_var rfl hx) ea_nil)) ⟨n, d, rfl, o1 d (List.mem_of_getElem? hd), rfl⟩
        rw [outs_bl] at en
        refine ei_is (ei_allN en) ?_
        rw [all_get (below n) _ ds fun i x e => by rw [List.getD_eq_getElem?_getD, e]; rfl]
        rfl
      | _ => cases e
    · cases d <;> first | rfl | cases e
    · rw [im_bl hv]
      exact q H1 g
/-- where the lambda's code lies -/
structure Lm (T : Txt K mg) (base : Heap) (τ : TL) (c Pt : Addr) : Prop where
  code : T.are_below.fd.code = .ref c
  tab : TabB base mg c Pt
  tl : τ = [(Pt, lamQ)]
def FAreBelow (ds : List D) (r : D) : Prop := ∃ n d, ds = [.int n, d] ∧ OkD d ∧ r = .bl (areBelow n d)
theorem ok_are_below (T : Txt K mg) {c Pt : Addr} (L : Lm T base τ c Pt) : FnOk P w K mg base L2.CX0 6 T.are_below.f T.are_below.fd ["many", "thing"] (spF τ K FAreBelow) := by
  obtain ⟨oc, od, kV, doc, pm, an, cdv, ct, osl, efd, lk, hcd⟩ := T.are_below.F.ex
  have hcode : cdv = .ref c := by
    have e := L.code
    rw [efd] at e
    exact e
  have TB := L.tab
  have hm : (Pt, lamQ) ∈ τ := by rw [L.tl]; exact List.mem_cons_self
  have hu : ∀ p ∈ τ, p.1 = Pt → p.2 = lamQ := fun p hp _ => by
    rw [L.tl] at hp
    rw [List.mem_singleton.mp hp]
  rw [efd] at lk ⊢
  refine fn_of lk hcd sc_are_below (fun vs H Q E h => ?_) (fun A outer s H vs Q E hr h => ?_)
  · obtain ⟨ds, r, h1, _, ⟨n, d, rfl, _⟩, _⟩ := h
    exact h1.length
  · obtain ⟨ds, r, hv, tb, ⟨n, d, rfl, od, rfl⟩, q⟩ := h
    obtain ⟨y, x, rfl, h0, h1⟩ := ima2 hv
    rw [im_int h0]
    refine ⟨_, (pss_one (ps_ret (pe_lam2 (T := τ) (fr := ["many"]) (js := [0]) (i2 := 1) T.is_tuple_of (fun base2 f c2 cl ws B => ok_tuple_clo (τ := τ) T (base := base2) B) (hr.mono (by decide)) (by rfl) TB hcode hm hu rfl (ndef_free nd_lam) (ndef_fr nd_lam) rfl (fun _ => rfl) rfl (by first | exact .inl rfl | exact .inr (.inl rfl))))), ?_⟩
    exact ⟨[.int n], x, rfl, rfl, tb, fun f c' H1 g1 hc => ⟨n, d, x, rfl, rfl, hc, g1.tabs, h1.up g1, od, fun H2 g2 => q _ _ (g1.trans g2) (.bl _)⟩⟩
/-- an ascending tuple of numbers below n -/
def ascends : List Int → Bool
  | a :: b :: r => decide (a < b) && ascends (b :: r)
  | _ => true
def FIsLotB (ds : List D) (r : D) : Prop := ∃ n ns, ds = [.int n, .tup (ns.map D.int)] ∧ ns.length ≤ 1000000 ∧ r = .bl (ns.all (fun i => decide (0 ≤ i) && decide (i < n)) && ascends ns)
theorem okd_ints {ns : List Int} (h : ns.length ≤ 1000000) : OkD (.tup (ns.map D.int)) := by
  refine ⟨fun a z => ?_, fun ds e => ?_⟩
  · cases z
  cases e
  refine ⟨fun x hx a z => ?_, by rw [List.length_map]; exact h⟩
  obtain ⟨i, _, hi⟩ := List.mem_map.mp hx
  rw [← hi] at z
  cases z
theorem areBelow_ints (n : Int) (ns : List Int) : areBelow n (.tup (ns.map D.int)) = ns.all (fun i => decide (0 ≤ i) && decide (i < n)) := by
  show (ns.map D.int).all (below n) = _
  rw [List.all_map]
  rfl
theorem asc_get : ∀ (ns : List Int) (g : Nat → Bool), (∀ i a b, ns[i]? = some a → ns[i + 1]? = some b → g i = decide (a < b)) → ((List.range (ns.length - 1)).map g).all id = ascends ns
  | [], _, _ => rfl
  | [_], _, _ => rfl
  | a :: b :: r, g, h => by
    have ih := asc_get (b :: r) (fun i => g (i + 1)) fun i x y h1 h2 => h (i + 1) x y h1 h2
    rw [show (a :: b :: r).length - 1 = ((b :: r).length - 1) + 1 by simp, List.range_succ_eq_map, List.map_cons, List.map_map, List.all_cons]
    show (g 0 && _) = (decide (a < b) && ascends (b :: r))
    rw [h 0 a b rfl rfl, ← ih]
    rfl
def FAscR (ds : List D) (r : D) : Prop := ∃ ns, ds = [.tup (ns.map D.int)] ∧ ns.length ≤ 1000000 ∧ r = .bl (ascends ns)
theorem ok_ascends (T : Txt K mg) : FnOk P w K mg base L2.CX0 1 T.ascends.f T.ascends.fd ["row"] (spF τ K FAscR) := by
  refine T.ascends.F.ok sc_ascends (fun vs H Q E h => ?_) (fun cdv A outer s H vs Q E hr h => ?_)
  · obtain ⟨ds, r, h1, _, ⟨d, rfl, _⟩, _⟩ := h
    exact h1.length
  · obtain ⟨ds, r, hv, tb, ⟨ns, rfl, hl, rfl⟩, q⟩ := h
    obtain ⟨x, rfl, h1'⟩ := ima1 hv
    refine ⟨_, (pss_one (ps_ret (pe_callB (r := rAll K) (cr_all rfl) (by rfl) T.z_all (by decide +kernel) (pa_cons (pe_lc (own := [("at", 1)]) (g := (gName 1)) (tt := tYes) rfl sc_ascends.nd (pi_range1 (by rfl) T.z_range (pa_cons (pe_op op_sub (pe_callB (r := rLenQ K) call_len_seq (by rfl) T.z_len (by decide +kernel) (pa_cons (pv 0) pa_nil)) pe_int) pa_nil)) (blkOk_by (own := [("at", 1)]) (N := ["row", "at"]) (sc := defScope s_ascends) (by decide +kernel)) (fun _ _ _ _ _ => (pg_name (i := 1) sc_ascends.nd rfl (by first | exact .inl rfl | exact .inr rfl))) (fun _ _ _ _ _ => pts_nil) (fun _ _ _ _ _ => (pe_cmpR op_lt (pe_ix (r := rIx K) ix_seq (pv 0) (pv 1) (fun _ _ => rfl)) (pe_ix (r := rIx K) ix_seq (pv 0) (pe_op op_add (pv 1) pe_int) (fun _ _ => rfl)) (nomark _)))) pa_nil)))), ?_⟩
    have hlen : (ns.map D.int).length = ns.length := List.length_map ..
    refine s_ret (K := K) tb (ei_is (ei_allN (bs := (List.range (((ns.map D.int).length : Int) - 1).toNat).map fun i => decide (ns.getD i 0 < ns.getD (i + 1) 0)) (en_is (en_lcR (fun _ => true) (fun i => .bl (decide (ns.getD i 0 < ns.getD (i + 1) 0)))
        (ea_cons (ei_sub (ei_lenT (ei_var rfl h1')) ei_i) ea_nil) (by rw [hlen]; omega) (fun _ => rfl) (fun _ _ _ _ => et_yes) (fun i H2 g2 hi _ => ?_)) (outs_bl _ _))) ?_) fun v H2 g2 hv => q v H2 g2 hv
    · rw [hlen] at hi
      have a1 : ns[i]? = some (ns.getD i 0) := by rw [List.getD_eq_getElem?_getD, List.getElem?_eq_getElem (by omega)]; rfl
      have a2 : ns[i + 1]? = some (ns.getD (i + 1) 0) := by rw [List.getD_eq_getElem?_getD, List.getElem?_eq_getElem (by omega)]; rfl
      refine ei_lt (ei_ixT (ei_var rfl (h1'.up g2)) (ei_var rfl (.int _)) ?_) (ei_ixT (ei_var rfl (h1'.up g2)) (ei_add (ei_var rfl (.int _)) ei_i) ?_)
      · refine at_nat rfl ?_
        rw [List.getElem?_map, a1]
        rfl
      · refine at_nat (j := i + 1) (by omega) ?_
        rw [List.getElem?_map, a2]
        rfl
    · rw [show (((ns.map D.int).length : Int) - 1).toNat = ns.length - 1 by rw [hlen]; omega]
      rw [asc_get ns _ fun i a b h1 h2 => by rw [List.getD_eq_getElem?_getD, List.getD_eq_getElem?_getD, h1, h2]; rfl]
theorem ok_is_set_below (T : Txt K mg) {c Pt : Addr} (L : Lm T base τ c Pt) : FnOk P w K mg base L2.CX0 7 T.is_set_below.f T.is_set_below.fd ["many", "thing"] (spF τ K FIsLotB) := by
  have G_are_below : FnOk P w K mg base L2.CX0 6 T.are_below.f T.are_below.fd _ _ := ok_are_below T L
  have G_ascends : FnOk P w K mg base L2.CX0 1 T.ascends.f T.ascends.fd _ (spF τ K FAscR) := ok_ascends T
  refine T.is_set_below.F.ok sc_is_set_below (fun vs H Q E h => ?_) (fun cdv A outer s H vs Q E hr h => ?_)
  · obtain ⟨ds, r, h1, _, ⟨n, d, rfl, _⟩, _⟩ := h
    exact h1.length
  · obtain ⟨ds, r, hv, tb, ⟨n, ns, rfl, hl, rfl⟩, q⟩ := h
    obtain ⟨y, x, rfl, h0, h1⟩ := ima2 hv
    refine ⟨_, (pss_one (ps_ret (pe_and (pc T.are_below G_are_below (hr.mono (by decide)) (by rfl) (pa_cons (pv 0) (pa_cons (pv 1) pa_nil))) (pe_one (pc T.ascends G_ascends (hr.mono (by decide)) (by rfl) (pa_cons (pv 1) pa_nil)))))), ?_⟩
    refine s_ret (K := K) tb (ei_and (a := areBelow n (.tup (ns.map D.int))) (ei_call (ea_cons (ei_var rfl h0) (ea_cons (ei_var rfl h1) ea_nil)) ⟨n, _, rfl, okd_ints hl, rfl⟩) (fun e => ?_) (fun e => ?_)) q
    · rw [areBelow_ints] at e
      rw [e, Bool.true_and]
      exact ei_call (ea_cons (ei_var rfl h1) ea_nil) ⟨ns, rfl, hl, rfl⟩
    · rw [areBelow_ints] at e
      rw [e, Bool.false_and]
end
end K01
namespace K01
open PySem PySem.Spec PyProof.Rows L2 LamX NdefX Clo LRev U
/-! ### heaps -/
theorem noP_int (i : Int) : noP (.int i) := fun a z => by cases z
def prD (p : Int × Int) : D := .tup [.int p.1, .int p.2]
def hD (n : Int) (ls : List (Int × Int)) : D := .tup [.int n, .tup (ls.map prD)]
/-- the places of the leaves with p -/
def idx (p : Int × Int → Bool) (ls : List (Int × Int)) : List Int := ((List.range ls.length).filter fun i => p (ls.getD i (0, 0))).map fun i => ((i : Nat) : Int)
theorem outs_idx (p : Int × Int → Bool) (ls : List (Int × Int)) (f : Nat → Bool) (h : ∀ i, i < ls.length → f i = p (ls.getD i (0, 0))) : outs f (fun i => .int ((i : Nat) : Int)) ls.length = (idx p ls).map D.int := by
  unfold outs idx
  rw [List.map_map, List.filter_congr fun i hi => h i (List.mem_range.mp hi)]
  rfl
theorem getD_of {α : Type} {l : List α} {i : Nat} {z : α} (h : i < l.length) : l[i]? = some (l.getD i z) := by
  rw [List.getD_eq_getElem?_getD, List.getElem?_eq_getElem h]
  rfl
theorem at_leaf {ls : List (Int × Int)} {i : Nat} (h : i < ls.length) : atI (ls.map prD) ((i : Nat) : Int) = some (prD (ls.getD i (0, 0))) := by
  refine at_nat rfl ?_
  rw [List.getElem?_map, getD_of h]
  rfl
section
variable {P : Program} {w : World} {K : PySem.W.Frag} {mg : Str → Option Value} {base : Heap} {τ : TL}
theorem ei_eqPr {σ : L2.St} {H : Hp} {ta tb : TE} {a b : Int × Int} (ha : EvI τ K ta σ H (prD a)) (hb : EvI τ K tb σ H (prD b)) : EvI τ K (tOp (rEqD K) ta tb) σ H (.bl (decide (a = b))) :=
  ei_op ha hb fun H1 g1 v w hv hw Q q => by
    have dp : ∀ {v : V} {a : Int × Int}, Im K H1 v (prD a) → Dp K H1 v (.tuple [.int a.1, .int a.2]) := fun {v a} h => by
      obtain ⟨p, xs, rfl, h1, h2⟩ := im_tup h
      obtain ⟨x, y, rfl, h3, h4⟩ := ima2 h2
      rw [im_int h3, im_int h4] at h1
      exact .tup h1 (.cons (.int _) (.cons (.int _) .nil))
    refine ⟨_, _, dp hv, dp hw, rfl, rfl, ?_⟩
    have e : PyData.eqv (.tuple [.int a.1, .int a.2]) (.tuple [.int b.1, .int b.2]) = decide (a = b) := by
      obtain ⟨a1, a2⟩ := a
      obtain ⟨b1, b2⟩ := b
      simp [PyData.eqv, PyData.eqvAll]
      by_cases h1 : a1 = b1 <;> by_cases h2 : a2 = b2 <;> simp [h1, h2]
    rw [e]
    exact q _ H1 (.refl g1.tabs) (.bl _)
def inW (n w : Int) : Bool := decide (0 ≤ w) && decide (w < n)
def FIsWord (ds : List D) (r : D) : Prop := ∃ n ls w, ds = [hD n ls, .int w] ∧ r = .bl (inW n w)
theorem ok_is_word (T : Txt K mg) : FnOk P w K mg base L2.CX0 4 T.is_word.f T.is_word.fd ["heap", "thing"] (spF τ K FIsWord) := by
  have G_is_below : FnOk P w K mg base L2.CX0 3 T.is_below.f T.is_below.fd _ _ := ok_is_below (τ := τ) T
  refine T.is_word.F.ok sc_is_word (fun vs H Q E h => ?_) (fun cdv A outer s H vs Q E hr h => ?_)
  · obtain ⟨ds, r, h1, _, ⟨_, _, _, rfl, _⟩, _⟩ := h
    exact h1.length
  · obtain ⟨ds, r, hv, tb, ⟨n, ls, w, rfl, rfl⟩, q⟩ := h
    obtain ⟨y, x, rfl, h0, h1⟩ := ima2 hv
    refine ⟨_, (pss_one (ps_ret (pc T.is_below G_is_below (hr.mono (by decide)) (by rfl) (pa_cons (pe_ix (r := rIx K) ix_seq (pv 0) pe_int (fun _ _ => rfl)) (pa_cons (pv 1) pa_nil))))), ?_⟩
    exact s_ret (K := K) tb (ei_call (ea_cons (ei_ixT (ei_var rfl h0) ei_i rfl) (ea_cons (ei_var rfl h1) ea_nil)) ⟨n, .int w, rfl, noP_int _, rfl⟩) q
def FIsLeaf (ds : List D) (r : D) : Prop := ∃ n ls w, ds = [hD n ls, .int w] ∧ r = .bl (inW ls.length w)
theorem ok_is_leaf (T : Txt K mg) : FnOk P w K mg base L2.CX0 4 T.is_leaf.f T.is_leaf.fd ["heap", "thing"] (spF τ K FIsLeaf) := by
  have G_is_below : FnOk P w K mg base L2.CX0 3 T.is_below.f T.is_below.fd _ _ := ok_is_below (τ := τ) T
  refine T.is_leaf.F.ok sc_is_leaf (fun vs H Q E h => ?_) (fun cdv A outer s H vs Q E hr h => ?_)
  · obtain ⟨ds, r, h1, _, ⟨_, _, _, rfl, _⟩, _⟩ := h
    exact h1.length
  · obtain ⟨ds, r, hv, tb, ⟨n, ls, w, rfl, rfl⟩, q⟩ := h
    obtain ⟨y, x, rfl, h0, h1⟩ := ima2 hv
    refine ⟨_, (pss_one (ps_ret (pc T.is_below G_is_below (hr.mono (by decide)) (by rfl) (pa_cons (pe_callB (r := rLenQ K) call_len_seq (by rfl) T.z_len (by decide +kernel) (pa_cons (pe_ix (r := rIx K) ix_seq (pv 0) pe_int (fun _ _ => rfl)) pa_nil)) (pa_cons (pv 1) pa_nil))))), ?_⟩
    refine s_ret (K := K) tb (ei_call (ea_cons (ei_lenT (ei_ixT (ei_var rfl h0) ei_i rfl)) (ea_cons (ei_var rfl h1) ea_nil)) ⟨_, .int w, rfl, noP_int _, ?_⟩) q
    rw [List.length_map]
    rfl
def lotOk (n : Int) (ns : List Int) : Bool := ns.all (fun i => decide (0 ≤ i) && decide (i < n)) && ascends ns
def FIsLot (ds : List D) (r : D) : Prop := ∃ n ls ns, ds = [hD n ls, .tup (ns.map D.int)] ∧ ns.length ≤ 1000000 ∧ r = .bl (lotOk n ns)
theorem ok_is_lot (T : Txt K mg) {c Pt : Addr} (L : Lm T base τ c Pt) : FnOk P w K mg base L2.CX0 8 T.is_lot.f T.is_lot.fd ["heap", "thing"] (spF τ K FIsLot) := by
  have G_is_set_below : FnOk P w K mg base L2.CX0 7 T.is_set_below.f T.is_set_below.fd _ _ := ok_is_set_below T L
  refine T.is_lot.F.ok sc_is_lot (fun vs H Q E h => ?_) (fun cdv A outer s H vs Q E hr h => ?_)
  · obtain ⟨ds, r, h1, _, ⟨_, _, _, rfl, _⟩, _⟩ := h
    exact h1.length
  · obtain ⟨ds, r, hv, tb, ⟨n, ls, ns, rfl, hl, rfl⟩, q⟩ := h
    obtain ⟨y, x, rfl, h0, h1⟩ := ima2 hv
    refine ⟨_, (pss_one (ps_ret (pc T.is_set_below G_is_set_below (hr.mono (by decide)) (by rfl) (pa_cons (pe_ix (r := rIx K) ix_seq (pv 0) pe_int (fun _ _ => rfl)) (pa_cons (pv 1) pa_nil))))), ?_⟩
    exact s_ret (K := K) tb (ei_call (ea_cons (ei_ixT (ei_var rfl h0) ei_i rfl) (ea_cons (ei_var rfl h1) ea_nil)) ⟨n, ns, rfl, hl, rfl⟩) q
/-- what from_word and its like have -/
def FFrom (p : Int → Int × Int → Bool) (ds : List D) (r : D) : Prop := ∃ n ls w, ds = [hD n ls, .int w] ∧ inW n w = true ∧ ls.length ≤ 1000000 ∧ r = .tup ((idx (p w) ls).map D.int)
abbrev pFrom (w : Int) (l : Int × Int) : Bool := decide (l.1 = w)
abbrev pTo (w : Int) (l : Int × Int) : Bool := decide (l.2 = w)
theorem ok_from_word (T : Txt K mg) : FnOk P w K mg base L2.CX0 5 T.from_word.f T.from_word.fd ["heap", "word"] (spF τ K (FFrom pFrom)) := by
  have G_is_word : FnOk P w K mg base L2.CX0 4 T.is_word.f T.is_word.fd _ _ := ok_is_word (τ := τ) T
  have G_need : FnOk P w K mg base L2.CX0 1 T.need.f T.need.fd _ _ := ok_need (τ := τ) T
  refine T.from_word.F.ok sc_from_word (fun vs H Q E h => ?_) (fun cdv A outer s H vs Q E hr h => ?_)
  · obtain ⟨ds, r, h1, _, ⟨_, _, _, rfl, _⟩, _⟩ := h
    exact h1.length
  · obtain ⟨ds, r, hv, tb, ⟨n, ls, w, rfl, hw, hl, rfl⟩, q⟩ := h
    obtain ⟨y, x, rfl, h0, h1⟩ := ima2 hv
    refine ⟨_, (pss_cons (ps_expr (pc T.need G_need (hr.mono (by decide)) (by rfl) (pa_cons (pc T.is_word G_is_word (hr.mono (by decide)) (by rfl) (pa_cons (pv 0) (pa_cons (pv 1) pa_nil))) (pa_cons pe_str pa_nil))))
      (pss_cons (ps_set (i := 2) sc_from_word.nd rfl (by first | exact .inl rfl | exact .inr rfl) (pe_ix (r := rIx K) ix_seq (pv 0) pe_int (fun _ _ => rfl)))
      (pss_one (ps_ret (pe_callTy (r := rTupQ K) call_tuple_of (by rfl) T.z_tuple (by decide +kernel) (pa_cons (pe_lc (own := [("at", 3)]) (g := (gName 3)) (tt := _) rfl sc_from_word.nd (pi_range1 (by rfl) T.z_range (pa_cons (pe_callB (r := rLenQ K) call_len_seq (by rfl) T.z_len (by decide +kernel) (pa_cons (pv 2) pa_nil)) pa_nil)) (blkOk_by (own := [("at", 3)]) (N := ["heap", "word", "leaves", "at"]) (sc := defScope s_from_word) (by decide +kernel)) (fun _ _ _ _ _ => (pg_name (i := 3) sc_from_word.nd rfl (by first | exact .inl rfl | exact .inr rfl))) (fun _ _ _ _ _ => pts_one (pt_cmpR op_eq (pe_ix (r := rIx K) ix_seq (pe_ix (r := rIx K) ix_seq (pv 2) (pv 3) (fun _ _ => rfl)) pe_int (fun _ _ => rfl)) (pv 1) (nomark _))) (fun _ _ _ _ _ => (pv 3))) pa_nil)))))), ?_⟩
    refine s_drop (K := K) tb (ei_call (ea_cons (ei_is (ei_call (ea_cons (ei_var rfl h0) (ea_cons (ei_var rfl h1) ea_nil)) ⟨n, ls, w, rfl, rfl⟩) (by rw [hw])) (ea_cons ei_s ea_nil)) ⟨_, rfl, rfl⟩) fun H1 g1 => ?_
    refine s_asgI (K := K) g1.tabs (ei_ixT (ei_var rfl (h0.up g1)) ei_i rfl) fun v H2 g2 hv => ?_
    have h1' := (h1.up g1).up g2
    have hlen : (ls.map prD).length = ls.length := List.length_map ..
    refine s_ret (K := K) g2.tabs (ei_tupN (en_is (en_lcR (fun i => pFrom w (ls.getD i (0, 0))) (fun i => .int ((i : Nat) : Int)) (ea_cons (ei_lenT (ei_var rfl hv)) ea_nil) (by rw [hlen]; omega) (fun _ => rfl)
      (fun i H3 g3 hi => ?_) fun i H3 g3 hi _ => ei_var rfl (.int _)) (by rw [Int.toNat_natCast, hlen]; exact outs_idx (pFrom w) ls _ fun i _ => rfl))) fun v H3 g3 hv => q v H3 ((g1.trans g2).trans g3) hv
    rw [hlen] at hi
    rw [im_int h1'] 
    exact et_test (K := K) (ei_eqI (ei_ixT (ei_ixT (ei_var rfl (hv.up g3)) (ei_var rfl (.int _)) (at_leaf (by omega))) ei_i rfl) (ei_var rfl (.int _)))
theorem ok_to_word (T : Txt K mg) : FnOk P w K mg base L2.CX0 5 T.to_word.f T.to_word.fd ["heap", "word"] (spF τ K (FFrom pTo)) := by
  have G_is_word : FnOk P w K mg base L2.CX0 4 T.is_word.f T.is_word.fd _ _ := ok_is_word (τ := τ) T
  have G_need : FnOk P w K mg base L2.CX0 1 T.need.f T.need.fd _ _ := ok_need (τ := τ) T
  refine T.to_word.F.ok sc_to_word (fun vs H Q E h => ?_) (fun cdv A outer s H vs Q E hr h => ?_)
  · obtain ⟨ds, r, h1, _, ⟨_, _, _, rfl, _⟩, _⟩ := h
    exact h1.length
  · obtain ⟨ds, r, hv, tb, ⟨n, ls, w, rfl, hw, hl, rfl⟩, q⟩ := h
    obtain ⟨y, x, rfl, h0, h1⟩ := ima2 hv
    refine ⟨_, (pss_cons (ps_expr (pc T.need G_need (hr.mono (by decide)) (by rfl) (pa_cons (pc T.is_word G_is_word (hr.mono (by decide)) (by rfl) (pa_cons (pv 0) (pa_cons (pv 1) pa_nil))) (pa_cons pe_str pa_nil))))
      (pss_cons (ps_set (i := 2) sc_to_word.nd rfl (by first | exact .inl rfl | exact .inr rfl) (pe_ix (r := rIx K) ix_seq (pv 0) pe_int (fun _ _ => rfl)))
      (pss_one (ps_ret (pe_callTy (r := rTupQ K) call_tuple_of (by rfl) T.z_tuple (by decide +kernel) (pa_cons (pe_lc (own := [("at", 3)]) (g := (gName 3)) (tt := _) rfl sc_to_word.nd (pi_range1 (by rfl) T.z_range (pa_cons (pe_callB (r := rLenQ K) call_len_seq (by rfl) T.z_len (by decide +kernel) (pa_cons (pv 2) pa_nil)) pa_nil)) (blkOk_by (own := [("at", 3)]) (N := ["heap", "word", "leaves", "at"]) (sc := defScope s_to_word) (by decide +kernel)) (fun _ _ _ _ _ => (pg_name (i := 3) sc_to_word.nd rfl (by first | exact .inl rfl | exact .inr rfl))) (fun _ _ _ _ _ => pts_one (pt_cmpR op_eq (pe_ix (r := rIx K) ix_seq (pe_ix (r := rIx K) ix_seq (pv 2) (pv 3) (fun _ _ => rfl)) pe_int (fun _ _ => rfl)) (pv 1) (nomark _))) (fun _ _ _ _ _ => (pv 3))) pa_nil)))))), ?_⟩
    refine s_drop (K := K) tb (ei_call (ea_cons (ei_is (ei_call (ea_cons (ei_var rfl h0) (ea_cons (ei_var rfl h1) ea_nil)) ⟨n, ls, w, rfl, rfl⟩) (by rw [hw])) (ea_cons ei_s ea_nil)) ⟨_, rfl, rfl⟩) fun H1 g1 => ?_
    refine s_asgI (K := K) g1.tabs (ei_ixT (ei_var rfl (h0.up g1)) ei_i rfl) fun v H2 g2 hv => ?_
    have h1' := (h1.up g1).up g2
    have hlen : (ls.map prD).length = ls.length := List.length_map ..
    refine s_ret (K := K) g2.tabs (ei_tupN (en_is (en_lcR (fun i => pTo w (ls.getD i (0, 0))) (fun i => .int ((i : Nat) : Int)) (ea_cons (ei_lenT (ei_var rfl hv)) ea_nil) (by rw [hlen]; omega) (fun _ => rfl)
      (fun i H3 g3 hi => ?_) fun i H3 g3 hi _ => ei_var rfl (.int _)) (by rw [Int.toNat_natCast, hlen]; exact outs_idx (pTo w) ls _ fun i _ => rfl))) fun v H3 g3 hv => q v H3 ((g1.trans g2).trans g3) hv
    rw [hlen] at hi
    rw [im_int h1']
    exact et_test (K := K) (ei_eqI (ei_ixT (ei_ixT (ei_var rfl (hv.up g3)) (ei_var rfl (.int _)) (at_leaf (by omega))) ei_i rfl) (ei_var rfl (.int _)))
def FFan (p : Int → Int × Int → Bool) (ds : List D) (r : D) : Prop := ∃ n ls w, ds = [hD n ls, .int w] ∧ inW n w = true ∧ ls.length ≤ 1000000 ∧ r = .int ((idx (p w) ls).length : Int)
theorem ok_fan_of (T : Txt K mg) : FnOk P w K mg base L2.CX0 6 T.fan_of.f T.fan_of.fd ["heap", "word"] (spF τ K (FFan pFrom)) := by
  have G_from_word : FnOk P w K mg base L2.CX0 5 T.from_word.f T.from_word.fd _ _ := ok_from_word (τ := τ) T
  refine T.fan_of.F.ok sc_fan_of (fun vs H Q E h => ?_) (fun cdv A outer s H vs Q E hr h => ?_)
  · obtain ⟨ds, r, h1, _, ⟨_, _, _, rfl, _⟩, _⟩ := h
    exact h1.length
  · obtain ⟨ds, r, hv, tb, ⟨n, ls, w, rfl, hw, hl, rfl⟩, q⟩ := h
    obtain ⟨y, x, rfl, h0, h1⟩ := ima2 hv
    refine ⟨_, (pss_one (ps_ret (pe_callB (r := rLenQ K) call_len_seq (by rfl) T.z_len (by decide +kernel) (pa_cons (pc T.from_word G_from_word (hr.mono (by decide)) (by rfl) (pa_cons (pv 0) (pa_cons (pv 1) pa_nil))) pa_nil)))), ?_⟩
    exact s_ret (K := K) tb (ei_is (ei_lenT (ei_call (ea_cons (ei_var rfl h0) (ea_cons (ei_var rfl h1) ea_nil)) ⟨n, ls, w, rfl, hw, hl, rfl⟩)) (by rw [List.length_map])) q
theorem ok_ends_of (T : Txt K mg) : FnOk P w K mg base L2.CX0 6 T.ends_of.f T.ends_of.fd ["heap", "word"] (spF τ K (FFan pTo)) := by
  have G_to_word : FnOk P w K mg base L2.CX0 5 T.to_word.f T.to_word.fd _ _ := ok_to_word (τ := τ) T
  refine T.ends_of.F.ok sc_ends_of (fun vs H Q E h => ?_) (fun cdv A outer s H vs Q E hr h => ?_)
  · obtain ⟨ds, r, h1, _, ⟨_, _, _, rfl, _⟩, _⟩ := h
    exact h1.length
  · obtain ⟨ds, r, hv, tb, ⟨n, ls, w, rfl, hw, hl, rfl⟩, q⟩ := h
    obtain ⟨y, x, rfl, h0, h1⟩ := ima2 hv
    refine ⟨_, (pss_one (ps_ret (pe_callB (r := rLenQ K) call_len_seq (by rfl) T.z_len (by decide +kernel) (pa_cons (pc T.to_word G_to_word (hr.mono (by decide)) (by rfl) (pa_cons (pv 0) (pa_cons (pv 1) pa_nil))) pa_nil)))), ?_⟩
    exact s_ret (K := K) tb (ei_is (ei_lenT (ei_call (ea_cons (ei_var rfl h0) (ea_cons (ei_var rfl h1) ea_nil)) ⟨n, ls, w, rfl, hw, hl, rfl⟩)) (by rw [List.length_map])) q
def FSur (ds : List D) (r : D) : Prop := ∃ n ls w, ds = [hD n ls, .int w] ∧ inW n w = true ∧ ls.length ≤ 1000000 ∧ r = .int (((idx (pTo w) ls).length : Int) - ((idx (pFrom w) ls).length : Int))
theorem ok_surplus_of (T : Txt K mg) : FnOk P w K mg base L2.CX0 7 T.surplus_of.f T.surplus_of.fd ["heap", "word"] (spF τ K FSur) := by
  have G_fan_of : FnOk P w K mg base L2.CX0 6 T.fan_of.f T.fan_of.fd _ _ := ok_fan_of (τ := τ) T
  have G_ends_of : FnOk P w K mg base L2.CX0 6 T.ends_of.f T.ends_of.fd _ _ := ok_ends_of (τ := τ) T
  refine T.surplus_of.F.ok sc_surplus_of (fun vs H Q E h => ?_) (fun cdv A outer s H vs Q E hr h => ?_)
  · obtain ⟨ds, r, h1, _, ⟨_, _, _, rfl, _⟩, _⟩ := h
    exact h1.length
  · obtain ⟨ds, r, hv, tb, ⟨n, ls, w, rfl, hw, hl, rfl⟩, q⟩ := h
    obtain ⟨y, x, rfl, h0, h1⟩ := ima2 hv
    refine ⟨_, (pss_one (ps_ret (pe_op op_sub (pc T.ends_of G_ends_of (hr.mono (by decide)) (by rfl) (pa_cons (pv 0) (pa_cons (pv 1) pa_nil))) (pc T.fan_of G_fan_of (hr.mono (by decide)) (by rfl) (pa_cons (pv 0) (pa_cons (pv 1) pa_nil)))))), ?_⟩
    exact s_ret (K := K) tb (ei_sub (ei_call (ea_cons (ei_var rfl h0) (ea_cons (ei_var rfl h1) ea_nil)) ⟨n, ls, w, rfl, hw, hl, rfl⟩) (ei_call (ea_cons (ei_var rfl h0) (ea_cons (ei_var rfl h1) ea_nil)) ⟨n, ls, w, rfl, hw, hl, rfl⟩)) q
abbrev pLoop (l : Int × Int) : Bool := decide (l.1 = l.2)
def FLoops (ds : List D) (r : D) : Prop := ∃ n ls, ds = [hD n ls] ∧ ls.length ≤ 1000000 ∧ r = .tup ((idx pLoop ls).map D.int)
theorem ok_loops_of (T : Txt K mg) : FnOk P w K mg base L2.CX0 1 T.loops_of.f T.loops_of.fd ["heap"] (spF τ K FLoops) := by
  refine T.loops_of.F.ok sc_loops_of (fun vs H Q E h => ?_) (fun cdv A outer s H vs Q E hr h => ?_)
  · obtain ⟨ds, r, h1, _, ⟨_, _, rfl, _⟩, _⟩ := h
    exact h1.length
  · obtain ⟨ds, r, hv, tb, ⟨n, ls, rfl, hl, rfl⟩, q⟩ := h
    obtain ⟨y, rfl, h0⟩ := ima1 hv
    refine ⟨_, (pss_cons (ps_set (i := 1) sc_loops_of.nd rfl (by first | exact .inl rfl | exact .inr rfl) (pe_ix (r := rIx K) ix_seq (pv 0) pe_int (fun _ _ => rfl)))
      (pss_one (ps_ret (pe_callTy (r := rTupQ K) call_tuple_of (by rfl) T.z_tuple (by decide +kernel) (pa_cons (pe_lc (own := [("at", 2)]) (g := (gName 2)) (tt := _) rfl sc_loops_of.nd (pi_range1 (by rfl) T.z_range (pa_cons (pe_callB (r := rLenQ K) call_len_seq (by rfl) T.z_len (by decide +kernel) (pa_cons (pv 1) pa_nil)) pa_nil)) (blkOk_by (own := [("at", 2)]) (N := ["heap", "leaves", "at"]) (sc := defScope s_loops_of) (by decide +kernel)) (fun _ _ _ _ _ => (pg_name (i := 2) sc_loops_of.nd rfl (by first | exact .inl rfl | exact .inr rfl))) (fun _ _ _ _ _ => pts_one (pt_cmpR op_eq (pe_ix (r := rIx K) ix_seq (pe_ix (r := rIx K) ix_seq (pv 1) (pv 2) (fun _ _ => rfl)) pe_int (fun _ _ => rfl)) (pe_ix (r := rIx K) ix_seq (pe_ix (r := rIx K) ix_seq (pv 1) (pv 2) (fun _ _ => rfl)) pe_int (fun _ _ => rfl)) (nomark _))) (fun _ _ _ _ _ => (pv 2))) pa_nil))))), ?_⟩
    refine s_asgI (K := K) tb (ei_ixT (ei_var rfl h0) ei_i rfl) fun v H2 g2 hv => ?_
    have hlen : (ls.map prD).length = ls.length := List.length_map ..
    refine s_ret (K := K) g2.tabs (ei_tupN (en_is (en_lcR (fun i => pLoop (ls.getD i (0, 0))) (fun i => .int ((i : Nat) : Int)) (ea_cons (ei_lenT (ei_var rfl hv)) ea_nil) (by rw [hlen]; omega) (fun _ => rfl)
      (fun i H3 g3 hi => ?_) fun i H3 g3 hi _ => ei_var rfl (.int _)) (by rw [Int.toNat_natCast, hlen]; exact outs_idx pLoop ls _ fun i _ => rfl))) fun v H3 g3 hv => q v H3 (g2.trans g3) hv
    rw [hlen] at hi
    exact et_test (K := K) (ei_eqI (ei_ixT (ei_ixT (ei_var rfl (hv.up g3)) (ei_var rfl (.int _)) (at_leaf (by omega))) ei_i rfl) (ei_ixT (ei_ixT (ei_var rfl (hv.up g3)) (ei_var rfl (.int _)) (at_leaf (by omega))) ei_i rfl))
abbrev pLike (l : Int × Int) (k : Int × Int) : Bool := decide (k = l)
def likes (ls : List (Int × Int)) (i : Nat) : List Int := idx (pLike (ls.getD i (0, 0))) ls
def FLike (ds : List D) (r : D) : Prop := ∃ n ls i, ds = [hD n ls, .int ((i : Nat) : Int)] ∧ i < ls.length ∧ ls.length ≤ 1000000 ∧ r = .tup ((likes ls i).map D.int)
theorem ok_like_leaves (T : Txt K mg) : FnOk P w K mg base L2.CX0 5 T.like_leaves.f T.like_leaves.fd ["heap", "leaf"] (spF τ K FLike) := by
  have G_is_leaf : FnOk P w K mg base L2.CX0 4 T.is_leaf.f T.is_leaf.fd _ _ := ok_is_leaf (τ := τ) T
  have G_need : FnOk P w K mg base L2.CX0 1 T.need.f T.need.fd _ _ := ok_need (τ := τ) T
  refine T.like_leaves.F.ok sc_like_leaves (fun vs H Q E h => ?_) (fun cdv A outer s H vs Q E hr h => ?_)
  · obtain ⟨ds, r, h1, _, ⟨_, _, _, rfl, _⟩, _⟩ := h
    exact h1.length
  · obtain ⟨ds, r, hv, tb, ⟨n, ls, j, rfl, hj, hl, rfl⟩, q⟩ := h
    obtain ⟨y, x, rfl, h0, h1⟩ := ima2 hv
    refine ⟨_, (pss_cons (ps_expr (pc T.need G_need (hr.mono (by decide)) (by rfl) (pa_cons (pc T.is_leaf G_is_leaf (hr.mono (by decide)) (by rfl) (pa_cons (pv 0) (pa_cons (pv 1) pa_nil))) (pa_cons pe_str pa_nil))))
      (pss_cons (ps_set (i := 2) sc_like_leaves.nd rfl (by first | exact .inl rfl | exact .inr rfl) (pe_ix (r := rIx K) ix_seq (pv 0) pe_int (fun _ _ => rfl)))
      (pss_one (ps_ret (pe_callTy (r := rTupQ K) call_tuple_of (by rfl) T.z_tuple (by decide +kernel) (pa_cons (pe_lc (own := [("at", 3)]) (g := (gName 3)) (tt := _) rfl sc_like_leaves.nd (pi_range1 (by rfl) T.z_range (pa_cons (pe_callB (r := rLenQ K) call_len_seq (by rfl) T.z_len (by decide +kernel) (pa_cons (pv 2) pa_nil)) pa_nil)) (blkOk_by (own := [("at", 3)]) (N := ["heap", "leaf", "leaves", "at"]) (sc := defScope s_like_leaves) (by decide +kernel)) (fun _ _ _ _ _ => (pg_name (i := 3) sc_like_leaves.nd rfl (by first | exact .inl rfl | exact .inr rfl))) (fun _ _ _ _ _ => pts_one (pt_cmpR (r := rEqD K) (op_eqD hr.units) (pe_ix (r := rIx K) ix_seq (pv 2) (pv 3) (fun _ _ => rfl)) (pe_ix (r := rIx K) ix_seq (pv 2) (pv 1) (fun _ _ => rfl)) (nomark _))) (fun _ _ _ _ _ => (pv 3))) pa_nil)))))), ?_⟩
    refine s_drop (K := K) tb (ei_call (ea_cons (ei_is (ei_call (ea_cons (ei_var rfl h0) (ea_cons (ei_var rfl h1) ea_nil)) ⟨n, ls, _, rfl, rfl⟩) (by
      unfold inW
      rw [decide_eq_true (by omega), decide_eq_true (by omega)]
      rfl)) (ea_cons ei_s ea_nil)) ⟨_, rfl, rfl⟩) fun H1 g1 => ?_
    refine s_asgI (K := K) g1.tabs (ei_ixT (ei_var rfl (h0.up g1)) ei_i rfl) fun v H2 g2 hv => ?_
    have h1' := (h1.up g1).up g2
    have hlen : (ls.map prD).length = ls.length := List.length_map ..
    refine s_ret (K := K) g2.tabs (ei_tupN (en_is (en_lcR (fun i => pLike (ls.getD j (0, 0)) (ls.getD i (0, 0))) (fun i => .int ((i : Nat) : Int)) (ea_cons (ei_lenT (ei_var rfl hv)) ea_nil) (by rw [hlen]; omega) (fun _ => rfl)
      (fun i H3 g3 hi => ?_) fun i H3 g3 hi _ => ei_var rfl (.int _)) (by rw [Int.toNat_natCast, hlen]; exact outs_idx (pLike (ls.getD j (0, 0))) ls _ fun i _ => rfl))) fun v H3 g3 hv => q v H3 ((g1.trans g2).trans g3) hv
    rw [hlen] at hi
    rw [im_int h1']
    exact et_test (K := K) (ei_eqPr (ei_ixT (ei_var rfl (hv.up g3)) (ei_var rfl (.int _)) (at_leaf (by omega))) (ei_ixT (ei_var rfl (hv.up g3)) (ei_var rfl (.int _)) (at_leaf hj)))
def likeSets (ls : List (Int × Int)) : List (List Int) := ((List.range ls.length).filter fun i => decide (1 < ((likes ls i).length : Int)) && decide ((likes ls i).getD 0 0 = ((i : Nat) : Int))).map (likes ls)
def tsD (xs : List (List Int)) : List D := xs.map fun l => .tup (l.map D.int)
def FLikeSets (ds : List D) (r : D) : Prop := ∃ n ls, ds = [hD n ls] ∧ ls.length ≤ 1000000 ∧ r = .tup (tsD (likeSets ls))
theorem ok_like_sets (T : Txt K mg) : FnOk P w K mg base L2.CX0 6 T.like_sets.f T.like_sets.fd ["heap"] (spF τ K FLikeSets) := by
  have G_like_leaves : FnOk P w K mg base L2.CX0 5 T.like_leaves.f T.like_leaves.fd _ _ := ok_like_leaves (τ := τ) T
  refine T.like_sets.F.ok sc_like_sets (fun vs H Q E h => ?_) (fun cdv A outer s H vs Q E hr h => ?_)
  · obtain ⟨ds, r, h1, _, ⟨_, _, rfl, _⟩, _⟩ := h
    exact h1.length
  · obtain ⟨ds, r, hv, tb, ⟨n, ls, rfl, hl, rfl⟩, q⟩ := h
    obtain ⟨y, rfl, h0⟩ := ima1 hv
    refine ⟨_, (pss_cons (ps_set (i := 1) sc_like_sets.nd rfl (by first | exact .inl rfl | exact .inr rfl) (pe_lc (own := [("leaf", 2)]) (g := (gName 2)) (tt := tYes) rfl sc_like_sets.nd (pi_range1 (by rfl) T.z_range (pa_cons (pe_callB (r := rLenQ K) call_len_seq (by rfl) T.z_len (by decide +kernel) (pa_cons (pe_ix (r := rIx K) ix_seq (pv 0) pe_int (fun _ _ => rfl)) pa_nil)) pa_nil)) (blkOk_by (own := [("leaf", 2)]) (N := ["heap", "alike", "leaf"]) (sc := defScope s_like_sets) (by decide +kernel)) (fun _ _ _ _ _ => (pg_name (i := 2) sc_like_sets.nd rfl (by first | exact .inl rfl | exact .inr rfl))) (fun _ _ _ _ _ => pts_nil) (fun _ _ _ _ _ => (pc T.like_leaves G_like_leaves (hr.mono (by decide)) (by rfl) (pa_cons (pv 0) (pa_cons (pv 2) pa_nil))))))
      (pss_one (ps_ret (pe_callTy (r := rTupQ K) call_tuple_of (by rfl) T.z_tuple (by decide +kernel) (pa_cons (pe_lc (own := [("leaf", 2)]) (g := (gName 2)) (tt := _) rfl sc_like_sets.nd (pi_range1 (by rfl) T.z_range (pa_cons (pe_callB (r := rLenQ K) call_len_seq (by rfl) T.z_len (by decide +kernel) (pa_cons (pv 1) pa_nil)) pa_nil)) (blkOk_by (own := [("leaf", 2)]) (N := ["heap", "alike", "leaf"]) (sc := defScope s_like_sets) (by decide +kernel)) (fun _ _ _ _ _ => (pg_name (i := 2) sc_like_sets.nd rfl (by first | exact .inl rfl | exact .inr rfl))) (fun _ _ _ _ _ => pts_one (PW.pt (pw_and (pt_cmpR op_gt (pe_callB (r := rLenQ K) call_len_seq (by rfl) T.z_len (by decide +kernel) (pa_cons (pe_ix (r := rIx K) ix_seq (pv 1) (pv 2) (fun _ _ => rfl)) pa_nil)) pe_int (nomark _)) (pw_and1 (pt_cmpR op_eq (pe_ix (r := rIx K) ix_seq (pe_ix (r := rIx K) ix_seq (pv 1) (pv 2) (fun _ _ => rfl)) pe_int (fun _ _ => rfl)) (pv 2) (nomark _)))))) (fun _ _ _ _ _ => (pe_ix (r := rIx K) ix_seq (pv 1) (pv 2) (fun _ _ => rfl)))) pa_nil))))), ?_⟩
    have hlen : (ls.map prD).length = ls.length := List.length_map ..
    refine s_asgN (ds := (List.range ls.length).map fun i => .tup ((likes ls i).map D.int)) tb (en_is (en_lcR (fun _ => true) (fun i => .tup ((likes ls i).map D.int)) (ea_cons (ei_lenT (ei_ixT (ei_var rfl h0) ei_i rfl)) ea_nil) (by rw [hlen]; omega) (fun _ => rfl)
      (fun i H3 g3 hi => et_yes) fun i H3 g3 hi _ => ?_) ?_) fun p H1 g1 np hp => ?_
    · rw [hlen] at hi
      exact ei_call (ea_cons (ei_var rfl (h0.up g3)) (ea_cons (ei_var rfl (.int _)) ea_nil)) ⟨n, ls, i, rfl, by omega, hl, rfl⟩
    · rw [outs_all, Int.toNat_natCast, hlen]
    · have hal : ((List.range ls.length).map fun i => D.tup ((likes ls i).map D.int)).length = ls.length := by rw [List.length_map, List.length_range]
      have hat : ∀ i, i < ls.length → atI ((List.range ls.length).map fun i => D.tup ((likes ls i).map D.int)) ((i : Nat) : Int) = some (.tup ((likes ls i).map D.int)) := fun i hi => by
        refine at_nat rfl ?_
        rw [List.getElem?_map, List.getElem?_range hi]
        rfl
      refine s_ret (K := K) g1.tabs (ei_tupN (en_is (en_lcR (fun i => decide (1 < ((likes ls i).length : Int)) && decide ((likes ls i).getD 0 0 = ((i : Nat) : Int))) (fun i => .tup ((likes ls i).map D.int)) (ea_cons (ei_lenL (ei_var rfl (.ptr p)) hp.lr) ea_nil) (by rw [hal]; omega) (fun _ => rfl)
        (fun i H3 g3 hi => ?_) fun i H3 g3 hi _ => ?_) ?_)) fun v H3 g3 hv => q v H3 (g1.trans g3) hv
      · rw [hal] at hi
        have hp3 := hp.up0 g3
        refine et_and (et_test (K := K) (ei_is (ei_gt (ei_lenT (ei_ixL (ei_var rfl (.ptr p)) hp3.lr (ei_var rfl (.int _)) (hat i (by omega)))) ei_i) (by rw [List.length_map]))) fun e => et_test (K := K) (ei_eqI (ei_ixT (ei_ixL (ei_var rfl (.ptr p)) hp3.lr (ei_var rfl (.int _)) (hat i (by omega))) ei_i ?_) (ei_var rfl (.int _)))
        have e' : 1 < ((likes ls i).length : Int) := of_decide_eq_true e
        refine at_nat (j := 0) rfl ?_
        rw [List.getElem?_map, getD_of (z := 0) (show 0 < (likes ls i).length by omega)]
        rfl
      · rw [hal] at hi
        exact ei_ixL (ei_var rfl (.ptr p)) (hp.up0 g3).lr (ei_var rfl (.int _)) (hat i (by omega))
      · rw [hal, Int.toNat_natCast]
        unfold outs tsD likeSets
        rw [List.map_map]
        rfl
abbrev pCross (lot : List Int) (a b : Bool) (l : Int × Int) : Bool := (decide (l.1 ∈ lot) == a) && (decide (l.2 ∈ lot) == b)
def FCross (ds : List D) (r : D) : Prop := ∃ n ls lot a b, ds = [hD n ls, .tup (lot.map D.int), .bl a, .bl b] ∧ lotOk n lot = true ∧ lot.length ≤ 1000000 ∧ ls.length ≤ 1000000 ∧ r = .tup ((idx (pCross lot a b) ls).map D.int)
theorem ok_crossing (T : Txt K mg) {c Pt : Addr} (L : Lm T base τ c Pt) : FnOk P w K mg base L2.CX0 9 T.crossing.f T.crossing.fd ["heap", "lot", "from_inside", "to_inside"] (spF τ K FCross) := by
  have G_is_lot : FnOk P w K mg base L2.CX0 8 T.is_lot.f T.is_lot.fd _ _ := ok_is_lot T L
  have G_need : FnOk P w K mg base L2.CX0 1 T.need.f T.need.fd _ _ := ok_need (τ := τ) T
  refine T.crossing.F.ok sc_crossing (fun vs H Q E h => ?_) (fun cdv A outer s H vs Q E hr h => ?_)
  · obtain ⟨ds, r, h1, _, ⟨_, _, _, _, _, rfl, _⟩, _⟩ := h
    exact h1.length
  · obtain ⟨ds, r, hv, tb, ⟨n, ls, lot, a, b, rfl, hw, hz, hl, rfl⟩, q⟩ := h
    obtain ⟨y, x, va, vb, rfl, h0, h1, h2, h3⟩ := ima4 hv
    rw [im_bl h2, im_bl h3]
    refine ⟨_, (pss_cons (ps_expr (pc T.need G_need (hr.mono (by decide)) (by rfl) (pa_cons (pc T.is_lot G_is_lot (hr.mono (by decide)) (by rfl) (pa_cons (pv 0) (pa_cons (pv 1) pa_nil))) (pa_cons pe_str pa_nil))))
      (pss_cons (ps_set (i := 4) sc_crossing.nd rfl (by first | exact .inl rfl | exact .inr rfl) (pe_ix (r := rIx K) ix_seq (pv 0) pe_int (fun _ _ => rfl)))
      (pss_one (ps_ret (pe_callTy (r := rTupQ K) call_tuple_of (by rfl) T.z_tuple (by decide +kernel) (pa_cons (pe_lc (own := [("at", 5)]) (g := (gName 5)) (tt := _) rfl sc_crossing.nd (pi_range1 (by rfl) T.z_range (pa_cons (pe_callB (r := rLenQ K) call_len_seq (by rfl) T.z_len (by decide +kernel) (pa_cons (pv 4) pa_nil)) pa_nil)) (blkOk_by (own := [("at", 5)]) (N := ["heap", "lot", "from_inside", "to_inside", "leaves", "at"]) (sc := defScope s_crossing) (by decide +kernel)) (fun _ _ _ _ _ => (pg_name (i := 5) sc_crossing.nd rfl (by first | exact .inl rfl | exact .inr rfl))) (fun _ _ _ _ _ => pts_one (PW.pt (pw_and (pt_cmpR op_eq (pe_cmpR (r := rIn K false) op_in_seq (pe_ix (r := rIx K) ix_seq (pe_ix (r := rIx K) ix_seq (pv 4) (pv 5) (fun _ _ => rfl)) pe_int (fun _ _ => rfl)) (pv 1) (by rfl)) (pv 2) (nomark _)) (pw_and1 (pt_cmpR op_eq (pe_cmpR (r := rIn K false) op_in_seq (pe_ix (r := rIx K) ix_seq (pe_ix (r := rIx K) ix_seq (pv 4) (pv 5) (fun _ _ => rfl)) pe_int (fun _ _ => rfl)) (pv 1) (by rfl)) (pv 3) (nomark _)))))) (fun _ _ _ _ _ => (pv 5))) pa_nil)))))), ?_⟩
    refine s_drop (K := K) tb (ei_call (ea_cons (ei_is (ei_call (ea_cons (ei_var rfl h0) (ea_cons (ei_var rfl h1) ea_nil)) ⟨n, ls, _, rfl, hz, rfl⟩) (by rw [hw])) (ea_cons ei_s ea_nil)) ⟨_, rfl, rfl⟩) fun H1 g1 => ?_
    refine s_asgI (K := K) g1.tabs (ei_ixT (ei_var rfl (h0.up g1)) ei_i rfl) fun v H2 g2 hv => ?_
    have h1' := (h1.up g1).up g2
    have hlen : (ls.map prD).length = ls.length := List.length_map ..
    refine s_ret (K := K) g2.tabs (ei_tupN (en_is (en_lcR (fun i => pCross lot a b (ls.getD i (0, 0))) (fun i => .int ((i : Nat) : Int)) (ea_cons (ei_lenT (ei_var rfl hv)) ea_nil) (by rw [hlen]; omega) (fun _ => rfl)
      (fun i H3 g3 hi => ?_) fun i H3 g3 hi _ => ei_var rfl (.int _)) (by rw [Int.toNat_natCast, hlen]; exact outs_idx (pCross lot a b) ls _ fun i _ => rfl))) fun v H3 g3 hv => q v H3 ((g1.trans g2).trans g3) hv
    rw [hlen] at hi
    exact et_and (et_test (K := K) (ei_eqB (ei_inT (ei_ixT (ei_ixT (ei_var rfl (hv.up g3)) (ei_var rfl (.int _)) (at_leaf (by omega))) ei_i rfl) (ei_var rfl (h1'.up g3))) (ei_var rfl (.bl _)))) fun _ =>
      et_test (K := K) (ei_eqB (ei_inT (ei_ixT (ei_ixT (ei_var rfl (hv.up g3)) (ei_var rfl (.int _)) (at_leaf (by omega))) ei_i rfl) (ei_var rfl (h1'.up g3))) (ei_var rfl (.bl _)))
def FSide (a b : Bool) (ds : List D) (r : D) : Prop := ∃ n ls lot, ds = [hD n ls, .tup (lot.map D.int)] ∧ lotOk n lot = true ∧ lot.length ≤ 1000000 ∧ ls.length ≤ 1000000 ∧ r = .tup ((idx (pCross lot a b) ls).map D.int)
theorem ok_within (T : Txt K mg) {c Pt : Addr} (L : Lm T base τ c Pt) : FnOk P w K mg base L2.CX0 10 T.within.f T.within.fd ["heap", "lot"] (spF τ K (FSide true true)) := by
  have G_crossing : FnOk P w K mg base L2.CX0 9 T.crossing.f T.crossing.fd _ _ := ok_crossing T L
  refine T.within.F.ok sc_within (fun vs H Q E h => ?_) (fun cdv A outer s H vs Q E hr h => ?_)
  · obtain ⟨ds, r, h1, _, ⟨_, _, _, rfl, _⟩, _⟩ := h
    exact h1.length
  · obtain ⟨ds, r, hv, tb, ⟨n, ls, lot, rfl, hw, hz, hl, rfl⟩, q⟩ := h
    obtain ⟨y, x, rfl, h0, h1⟩ := ima2 hv
    refine ⟨_, (pss_one (ps_ret (pc T.crossing G_crossing (hr.mono (by decide)) (by rfl) (pa_cons (pv 0) (pa_cons (pv 1) (pa_cons pe_bl (pa_cons pe_bl pa_nil))))))), ?_⟩
    exact s_ret (K := K) tb (ei_call (ea_cons (ei_var rfl h0) (ea_cons (ei_var rfl h1) (ea_cons ei_b (ea_cons ei_b ea_nil)))) ⟨n, ls, lot, _, _, rfl, hw, hz, hl, rfl⟩) q
theorem ok_leaving (T : Txt K mg) {c Pt : Addr} (L : Lm T base τ c Pt) : FnOk P w K mg base L2.CX0 10 T.leaving.f T.leaving.fd ["heap", "lot"] (spF τ K (FSide true false)) := by
  have G_crossing : FnOk P w K mg base L2.CX0 9 T.crossing.f T.crossing.fd _ _ := ok_crossing T L
  refine T.leaving.F.ok sc_leaving (fun vs H Q E h => ?_) (fun cdv A outer s H vs Q E hr h => ?_)
  · obtain ⟨ds, r, h1, _, ⟨_, _, _, rfl, _⟩, _⟩ := h
    exact h1.length
  · obtain ⟨ds, r, hv, tb, ⟨n, ls, lot, rfl, hw, hz, hl, rfl⟩, q⟩ := h
    obtain ⟨y, x, rfl, h0, h1⟩ := ima2 hv
    refine ⟨_, (pss_one (ps_ret (pc T.crossing G_crossing (hr.mono (by decide)) (by rfl) (pa_cons (pv 0) (pa_cons (pv 1) (pa_cons pe_bl (pa_cons pe_bl pa_nil))))))), ?_⟩
    exact s_ret (K := K) tb (ei_call (ea_cons (ei_var rfl h0) (ea_cons (ei_var rfl h1) (ea_cons ei_b (ea_cons ei_b ea_nil)))) ⟨n, ls, lot, _, _, rfl, hw, hz, hl, rfl⟩) q
theorem ok_entering (T : Txt K mg) {c Pt : Addr} (L : Lm T base τ c Pt) : FnOk P w K mg base L2.CX0 10 T.entering.f T.entering.fd ["heap", "lot"] (spF τ K (FSide false true)) := by
  have G_crossing : FnOk P w K mg base L2.CX0 9 T.crossing.f T.crossing.fd _ _ := ok_crossing T L
  refine T.entering.F.ok sc_entering (fun vs H Q E h => ?_) (fun cdv A outer s H vs Q E hr h => ?_)
  · obtain ⟨ds, r, h1, _, ⟨_, _, _, rfl, _⟩, _⟩ := h
    exact h1.length
  · obtain ⟨ds, r, hv, tb, ⟨n, ls, lot, rfl, hw, hz, hl, rfl⟩, q⟩ := h
    obtain ⟨y, x, rfl, h0, h1⟩ := ima2 hv
    refine ⟨_, (pss_one (ps_ret (pc T.crossing G_crossing (hr.mono (by decide)) (by rfl) (pa_cons (pv 0) (pa_cons (pv 1) (pa_cons pe_bl (pa_cons pe_bl pa_nil))))))), ?_⟩
    exact s_ret (K := K) tb (ei_call (ea_cons (ei_var rfl h0) (ea_cons (ei_var rfl h1) (ea_cons ei_b (ea_cons ei_b ea_nil)))) ⟨n, ls, lot, _, _, rfl, hw, hz, hl, rfl⟩) q
def FGates (ds : List D) (r : D) : Prop := ∃ n ls lot, ds = [hD n ls, .tup (lot.map D.int)] ∧ lotOk n lot = true ∧ lot.length ≤ 1000000 ∧ ls.length ≤ 1000000 ∧ r = .int ((idx (pCross lot true false) ls).length : Int)
theorem ok_gates_of (T : Txt K mg) {c Pt : Addr} (L : Lm T base τ c Pt) : FnOk P w K mg base L2.CX0 11 T.gates_of.f T.gates_of.fd ["heap", "lot"] (spF τ K FGates) := by
  have G_leaving : FnOk P w K mg base L2.CX0 10 T.leaving.f T.leaving.fd _ _ := ok_leaving T L
  refine T.gates_of.F.ok sc_gates_of (fun vs H Q E h => ?_) (fun cdv A outer s H vs Q E hr h => ?_)
  · obtain ⟨ds, r, h1, _, ⟨_, _, _, rfl, _⟩, _⟩ := h
    exact h1.length
  · obtain ⟨ds, r, hv, tb, ⟨n, ls, lot, rfl, hw, hz, hl, rfl⟩, q⟩ := h
    obtain ⟨y, x, rfl, h0, h1⟩ := ima2 hv
    refine ⟨_, (pss_one (ps_ret (pe_callB (r := rLenQ K) call_len_seq (by rfl) T.z_len (by decide +kernel) (pa_cons (pc T.leaving G_leaving (hr.mono (by decide)) (by rfl) (pa_cons (pv 0) (pa_cons (pv 1) pa_nil))) pa_nil)))), ?_⟩
    exact s_ret (K := K) tb (ei_is (ei_lenT (ei_call (ea_cons (ei_var rfl h0) (ea_cons (ei_var rfl h1) ea_nil)) ⟨n, ls, lot, rfl, hw, hz, hl, rfl⟩)) (by rw [List.length_map])) q
end
end K01
namespace K01
open PySem PySem.Spec PyProof.Rows L2 LamX NdefX Clo LRev U
section
variable {P : Program} {w : World} {K : PySem.W.Frag} {mg : Str → Option Value} {base : Heap} {τ : TL}
/-! ### numbers from the script -/
def mixZ (c k : Int) : Int :=
  let a := (c * 60493 + k * 9973 + 4241) % 1000033
  ((a * a + 31337 * a + k) % 999999929 / 8 + a) % 5040
def FMix (ds : List D) (r : D) : Prop := ∃ c k : Int, ds = [.int c, .int k] ∧ c.natAbs < 10 ^ 18 ∧ k.natAbs < 10 ^ 6 ∧ r = .int (mixZ c k)
theorem ok__law_mix (T : Txt K mg) : FnOk P w K mg base L2.CX0 1 T._law_mix.f T._law_mix.fd ["_law_cell", "_law_k"] (spF τ K FMix) := by
  refine T._law_mix.F.ok sc__law_mix (fun vs H Q E h => ?_) (fun cdv A outer s H vs Q E hr h => ?_)
  · obtain ⟨ds, r, h1, _, ⟨_, _, rfl, _⟩, _⟩ := h
    exact h1.length
  · obtain ⟨ds, r, hv, tb, ⟨c, k, rfl, hc, hk, rfl⟩, q⟩ := h
    obtain ⟨y, x, rfl, h0, h1⟩ := ima2 hv
    rw [im_int h0, im_int h1]
    refine ⟨_, (pss_cons (ps_set (i := 2) sc__law_mix.nd rfl (by first | exact .inl rfl | exact .inr rfl) (pe_op op_mod (pe_callTy call_int1 (by rfl) T.z_int (by decide +kernel) (pa_cons (pe_op op_add (pe_op op_add (pe_op op_mul (pv 0) pe_int) (pe_op op_mul (pv 1) pe_int)) pe_int) pa_nil)) pe_int))
      (pss_cons (ps_set (i := 3) sc__law_mix.nd rfl (by first | exact .inl rfl | exact .inr rfl) (pe_op op_mod (pe_callTy call_int1 (by rfl) T.z_int (by decide +kernel) (pa_cons (pe_op op_add (pe_op op_add (pe_op op_mul (pv 2) (pv 2)) (pe_op op_mul pe_int (pv 2))) (pv 1)) pa_nil)) pe_int))
      (pss_one (ps_ret (pe_op op_mod (pe_callTy call_int1 (by rfl) T.z_int (by decide +kernel) (pa_cons (pe_op op_add (pe_op op_fdiv (pv 3) pe_int) (pv 2)) pa_nil)) pe_int))))), ?_⟩
    have hc' : c.natAbs < 1000000000000000000 := hc
    have hk' : k.natAbs < 1000000 := hk
    refine s_asgZ (K := K) tb (ei_mod (ei_intI (ei_add (ei_add (ei_mul (ei_var rfl (.int _)) ei_i (.inl (by omega))) (ei_mul (ei_var rfl (.int _)) ei_i (.inl (by omega)))) ei_i)) ei_i (by decide)) fun H1 g1 => ?_
    generalize ha : (c * 60493 + k * 9973 + 4241) % 1000033 = a
    have a0 : 0 ≤ a ∧ a < 1000033 := by rw [← ha]; omega
    refine s_asgZ (K := K) g1.tabs (ei_mod (ei_intI (ei_add (ei_add (ei_mul (ei_var rfl (.int _)) (ei_var rfl (.int _)) (.inl (by omega))) (ei_mul ei_i (ei_var rfl (.int _)) (.inl (by decide)))) (ei_var rfl (.int _)))) ei_i (by decide)) fun H2 g2 => ?_
    refine s_ret (K := K) g2.tabs (ei_mod (ei_intI (ei_add (ei_div (ei_var rfl (.int _)) ei_i ⟨by decide, by decide⟩) (ei_var rfl (.int _)))) ei_i (by decide)) fun v H3 g3 hv => q v H3 ((g1.trans g2).trans g3) ?_
    rw [im_int hv]
    unfold mixZ
    rw [ha]
    exact .int _
/-- the list at p holds ints -/
def Cl (K : PySem.W.Frag) (H : Hp) (p : Addr) : Prop := ∃ cs : List Int, Ls K H p (cs.map D.int)
theorem Cl.up {H H' : Hp} {p : Addr} {ms : List Addr} (g : G τ ms H H') (n : p ∉ ms) (h : Cl K H p) : Cl K H' p := let ⟨cs, h⟩ := h; ⟨cs, h.up g n⟩
theorem Cl.up0 {H H' : Hp} {p : Addr} (g : G τ [] H H') (h : Cl K H p) : Cl K H' p := h.up g (by simp)
def spPick (τ : TL) (K : PySem.W.Frag) : Sp := fun vs H Q _ => ∃ p lim, vs = [.ref p, .int lim] ∧ 0 < lim ∧ Tabs τ H ∧ Cl K H p ∧ ∀ r H2, 0 ≤ r → r < lim → G τ [p] H H2 → Cl K H2 p → Q (.int r) H2
theorem ok__law_pick (T : Txt K mg) : FnOk P w K mg base L2.CX0 1 T._law_pick.f T._law_pick.fd ["_law_cells_here", "_law_limit"] (spPick τ K) := by
  refine T._law_pick.F.ok sc__law_pick (fun vs H Q E h => ?_) (fun cdv A outer s H vs Q E hr h => ?_)
  · obtain ⟨p, lim, rfl, _⟩ := h
    rfl
  · obtain ⟨p, lim, rfl, hl, tb, ⟨cs, hc⟩, q⟩ := h
    refine ⟨_, (pss_cons (ps_if (pt_cmpR op_eq (pe_callB (r := rLenQ K) call_len_seq (by rfl) T.z_len (by decide +kernel) (pa_cons (pv 0) pa_nil)) pe_int (nomark _)) (pss_one (ps_ret pe_int)) pss_nil)
      (pss_one (ps_ret (pe_op op_mod (pe_callTy call_int1 (by rfl) T.z_int (by decide +kernel) (pa_cons (pe_bm0 PySem.F.plainAttrs_list PySem.F.slot_list_pop PySem.F.type_list_pop mt_pop (pv 0)) pa_nil)) (pv 1))))), ?_⟩
    refine s_if tb (et_test (K := K) (ei_eqI (ei_lenL (K := K) (ei_var rfl (.ptr p)) hc.lr) ei_i)) (fun e H1 g1 => ?_) fun e H1 g1 => ?_
    · exact s_ret (K := K) g1.tabs ei_i fun v H2 g2 hv => by
        rw [im_int hv]
        exact q 0 H2 (by omega) hl (g1.trans g2).wide ⟨cs, (hc.up0 g1).up0 g2⟩
    · obtain ⟨cs', c, rfl⟩ : ∃ cs' c, cs = cs' ++ [c] := by
        rcases List.eq_nil_or_concat cs with h | ⟨cs', c, h⟩
        · rw [h] at e
          exact absurd rfl (of_decide_eq_false e)
        · exact ⟨cs', c, by rw [h, List.concat_eq_append]⟩
      rw [List.map_append] at hc
      have hc1 := hc.up0 g1
      have hp := rn_pop (σ := start ["_law_cells_here", "_law_limit"] [.ref p, .int lim]) g1.tabs (ei_var (i := 0) rfl (.ptr p)) hc1
      refine hp _ fun z H2 g2 hz => ?_
      obtain ⟨hz, hc2⟩ := hz
      refine .inl ⟨c, by rw [im_int hz], .int lim, rfl, c, lim, rfl, rfl, hl, ?_⟩
      exact q _ H2 (Int.emod_nonneg _ (by omega)) (Int.emod_lt_of_pos _ hl) (g1.wide.trans g2) ⟨cs', hc2⟩
theorem rn_pick {σ : L2.St} {H : Hp} {tr : TA} {p : Addr} {lim : Int} (tb : Tabs τ H) (h : EvA τ K tr σ H [.ptr p, .int lim]) (hl : 0 < lim) (hc : Cl K H p) : Rn τ [p] (tCall (spPick τ K) [] L2.E0 tr) σ H fun z H2 => ∃ r, z = .int r ∧ 0 ≤ r ∧ r < lim ∧ Cl K H2 p := fun Q q =>
  h H (.refl tb) _ fun vs H1 g hvs => by
    obtain ⟨x, y, rfl, h1, h2⟩ := ima2 hvs
    rw [im_ptr h1, im_int h2]
    exact ⟨p, lim, rfl, hl, g.tabs, hc.up0 g, fun r H2 r0 r1 g2 c2 => q _ H2 (g.wide.trans g2) ⟨r, rfl, r0, r1, c2⟩⟩
/-- the script's numbers, dealt out -/
def spCells (τ : TL) (K : PySem.W.Frag) : Sp := fun vs H Q _ => ∃ (a : Addr) (ns : List Int) (m : Int), vs = [.ref a, .int m] ∧ SqL K H a (ns.map V.int) ∧ ns.length ≤ 63 ∧ 0 ≤ m ∧ m ≤ 1000 ∧ Tabs τ H ∧ ∀ p H2, G τ [] H H2 → Nw H p → Cl K H2 p → Q (.ref p) H2
/-- what holds of the list that grows -/
def Gl (K : PySem.W.Frag) (H : Hp) (p : Addr) (n : Nat) : Prop := ∃ cs : List Int, Ls K H p (cs.map D.int) ∧ cs.length ≤ n
theorem Gl.up0 {H H' : Hp} {p : Addr} {n : Nat} (g : G τ [] H H') (h : Gl K H p n) : Gl K H' p n := let ⟨cs, h, l⟩ := h; ⟨cs, h.up0 g, l⟩
theorem Gl.add {H : Hp} {p : Addr} {n : Nat} {c : Int} {cs : List Int} (h : Ls K H p (cs.map D.int ++ [.int c])) (l : cs.length ≤ n) : Gl K H p (n + 1) := ⟨cs ++ [c], by rw [List.map_append]; exact h, by rw [List.length_append, List.length_singleton]; omega⟩
theorem ok__law_cells (T : Txt K mg) : FnOk P w K mg base L2.CX0 2 T._law_cells.f T._law_cells.fd ["_law_script", "_law_many_more"] (spCells τ K) := by
  have G__law_mix : FnOk P w K mg base L2.CX0 1 T._law_mix.f T._law_mix.fd _ _ := ok__law_mix (τ := τ) T
  refine T._law_cells.F.ok sc__law_cells (fun vs H Q E h => ?_) (fun cdv A outer s H vs Q E hr h => ?_)
  · obtain ⟨_, _, _, rfl, _⟩ := h
    rfl
  · obtain ⟨a, ns, m, rfl, hS, hn, m0, m1, tb, q⟩ := h
    refine ⟨_, (pss_cons (ps_set (i := 2) sc__law_cells.nd rfl (by first | exact .inl rfl | exact .inr rfl) (pe_lst pa_nil))
      (pss_cons (ps_set (i := 3) sc__law_cells.nd rfl (by first | exact .inl rfl | exact .inr rfl) (pe_op op_add pe_int (pe_op op_mul pe_int (pe_callB (r := rLenQ K) call_len_seq (by rfl) T.z_len (by decide +kernel) (pa_cons (pv 0) pa_nil)))))
      (pss_cons (ps_for PassesOwn.never rfl (pi_list (pv 0)) (pg_name (i := 4) sc__law_cells.nd rfl (by first | exact .inl rfl | exact .inr rfl)) (pss_cons (ps_set (i := 6) sc__law_cells.nd rfl (by first | exact .inl rfl | exact .inr rfl) (pe_callB call_abs (by rfl) T.z_abs (by decide +kernel) (pa_cons (pe_callTy call_int1 (by rfl) T.z_int (by decide +kernel) (pa_cons (pv 4) pa_nil)) pa_nil)))
      (pss_cons (ps_set (i := 3) sc__law_cells.nd rfl (by first | exact .inl rfl | exact .inr rfl) (pe_op op_mod (pe_callTy call_int1 (by rfl) T.z_int (by decide +kernel) (pa_cons (pe_op op_add (pe_op op_mul (pv 3) pe_int) (pv 4)) pa_nil)) pe_int))
      (pss_one (ps_if (pt_cmpR op_ge (pv 6) (pe_op op_pow pe_int pe_int) (nomark _)) (pss_one (ps_for PassesOwn.never rfl (pi_range1 (by rfl) T.z_range (pa_cons pe_int pa_nil)) (pg_name (i := 5) sc__law_cells.nd rfl (by first | exact .inl rfl | exact .inr rfl)) (pss_one (ps_if (pt_cmpR op_gt (pv 6) pe_int (nomark _)) (pss_cons (ps_expr (pe_bm PySem.F.plainAttrs_list PySem.F.slot_list_append PySem.F.type_list_append mt_append (pv 2) (pa_cons (pe_op op_mod (pe_callTy call_int1 (by rfl) T.z_int (by decide +kernel) (pa_cons (pv 6) pa_nil)) pe_int) pa_nil)))
      (pss_one (ps_set (i := 6) sc__law_cells.nd rfl (by first | exact .inl rfl | exact .inr rfl) (pe_op op_fdiv (pv 6) pe_int)))) pss_nil)))) (pss_one (ps_expr (pe_bm PySem.F.plainAttrs_list PySem.F.slot_list_append PySem.F.type_list_append mt_append (pv 2) (pa_cons (pc T._law_mix G__law_mix (hr.mono (by decide)) (by rfl) (pa_cons (pe_callTy call_int1 (by rfl) T.z_int (by decide +kernel) (pa_cons (pv 4) pa_nil)) (pa_cons (pe_callB (r := rLenQ K) call_len_seq (by rfl) T.z_len (by decide +kernel) (pa_cons (pv 2) pa_nil)) pa_nil))) pa_nil)))))))))
      (pss_cons (ps_for PassesOwn.never rfl (pi_range1 (by rfl) T.z_range (pa_cons (pv 1) pa_nil)) (pg_name (i := 5) sc__law_cells.nd rfl (by first | exact .inl rfl | exact .inr rfl)) (pss_one (ps_expr (pe_bm PySem.F.plainAttrs_list PySem.F.slot_list_append PySem.F.type_list_append mt_append (pv 2) (pa_cons (pc T._law_mix G__law_mix (hr.mono (by decide)) (by rfl) (pa_cons (pv 3) (pa_cons (pe_op op_add pe_int (pv 5)) pa_nil))) pa_nil)))))
      (pss_one (ps_ret (pe_lstRev rfl (by rfl) T.z_list (by rfl) T.z_reversed (pv 2)))))))), ?_⟩
    have hL : Lr K H a (ns.map D.int) := ⟨_, hS, ints_ima ns⟩
    refine s_asgN (K := K) (ds := []) tb (en_lst ea_nil (by decide)) fun p H1 g1 np hp => ?_
    refine s_asgZ (K := K) g1.tabs (ei_add ei_i (ei_mul ei_i (ei_lenL (ei_var rfl (.ptr a)) (hL.up g1)) (.inl (by decide)))) fun H2 g2 => ?_
    -- the loop over the script
    refine ⟨.ref a, rfl, a, rfl, ⟨_, (g1.trans g2).seqL hS⟩, for_list (xs := ns.map V.int) (fun i σ H' => ∃ sd v4 v5 v6, σ = [some (.ref a), some (.int m), some (.ref p), some (.int sd), v4, v5, v6] ∧ -10000000 < sd ∧ sd < 10000000 ∧ G τ [] H H' ∧ Gl K H' p (60 * i)) ?_ (fun i σ H' _ hP => ?_) (fun i x σ H' hx hP => ?_) fun σ H' hP => ?_⟩
    · refine ⟨_, none, none, none, rfl, ?_, ?_, g1.trans g2, [], (hp.up0 g2), Nat.zero_le _⟩
      · rw [List.length_map]; omega
      · rw [List.length_map]; omega
    · obtain ⟨_, _, _, _, _, _, _, g, _⟩ := hP
      exact g.seqL hS
    · obtain ⟨sd, v4, v5, v6, rfl, s0, s1, g, cs, hc, hcl⟩ := hP
      rw [List.getElem?_map] at hx
      obtain ⟨c, hc1, rfl⟩ : ∃ c, ns[i]? = some c ∧ x = .int c := by
        cases e : ns[i]? with
        | none => rw [e] at hx; cases hx
        | some c => rw [e] at hx; exact ⟨c, rfl, (Option.some.inj hx).symm⟩
      have hi : i < 63 := by
        have := (List.getElem?_eq_some_iff.mp hc1).1
        omega
      -- left, seed
      refine s_asgZ (K := K) g.tabs (ei_abs (ei_intI (ei_var (i := 4) rfl (.int c)))) fun H3 g3 => ?_
      refine s_asgZ (K := K) g3.tabs (ei_mod (ei_intI (ei_add (ei_mul (ei_var (i := 3) rfl (.int sd)) ei_i (.inl (by omega))) (ei_var (i := 4) rfl (.int c)))) ei_i (by decide)) fun H4 g4 => ?_
      generalize hsd : (sd * 1021 + c) % 1000033 = sd'
      have sd0 : 0 ≤ sd' ∧ sd' < 1000033 := by rw [← hsd]; omega
      have hc4 := (hc.up0 g3).up0 g4
      have g04 := (g.trans g3).trans g4
      refine s_if g4.tabs (et_test (K := K) (ei_ge (ei_var (i := 6) rfl (.int _)) (ei_pow ei_i ei_i ⟨by decide, by decide, by decide⟩))) (fun e H5 g5 => ?_) fun e H5 g5 => ?_
      · -- a great number: sixty turns
        refine ⟨60, rfl, by decide, by decide, for_range (lo := 0) (n := 60) (fun j σ H' => ∃ v5 lf, σ = [some (.ref a), some (.int m), some (.ref p), some (.int sd'), some (.int c), v5, some (.int lf)] ∧ G τ [] H H' ∧ Gl K H' p (60 * i + j)) ⟨v5, _, rfl, g04.trans g5, cs, hc4.up0 g5, hcl⟩ (fun j σ H' hj hP => ?_) fun σ H' hP => ?_⟩
        · obtain ⟨v5, lf, rfl, g6, ds, hd, hdl⟩ := hP
          refine s_if g6.tabs (et_test (K := K) (ei_gt (ei_var (i := 6) rfl (.int lf)) ei_i)) (fun e H7 g7 => ?_) fun e H7 g7 => ?_
          · refine s_app (K := K) g7.tabs (ei_var (i := 2) rfl (.ptr p)) (ei_mod (ei_intI (ei_var (i := 6) rfl (.int lf))) ei_i (by decide)) (hd.up0 g7) (by rw [List.length_map]; omega) fun H8 g8 h8 => ?_
            refine s_asgZ (K := K) g8.tabs (ei_div (ei_var (i := 6) rfl (.int lf)) ei_i ⟨by decide, by decide⟩) fun H9 g9 => ?_
            refine ⟨_, _, rfl, (((g6.trans g7).wide.trans g8).less np).trans g9, (Gl.add h8 hdl).up0 g9⟩
          · exact ⟨_, _, rfl, g6.trans g7, ds, hd.up0 g7, by omega⟩
        · obtain ⟨v5, lf, rfl, g6, hd⟩ := hP
          exact ⟨sd', _, _, _, rfl, by omega, by omega, g6, hd⟩
      · have hcb : c.natAbs < 10 ^ 18 := by
          have e' := of_decide_eq_false e
          have e2 : ¬ ((10 : Int) ^ (18 : Int).toNat ≤ (c.natAbs : Int)) := e'
          have e3 : (10 : Int) ^ (18 : Int).toNat = ((10 ^ 18 : Nat) : Int) := by decide
          rw [e3] at e2
          omega
        have hc5 := hc4.up0 g5
        refine s_app (K := K) g5.tabs (ei_var (i := 2) rfl (.ptr p)) (ei_call (ea_cons (ei_intI (ei_var (i := 4) rfl (.int c))) (ea_cons (ei_lenL (ei_var (i := 2) rfl (.ptr p)) hc5.lr) ea_nil)) ⟨c, _, rfl, hcb, by rw [List.length_map]; omega, rfl⟩) hc5 (by rw [List.length_map]; omega) fun H8 g8 h8 => ?_
        refine ⟨sd', _, _, _, rfl, by omega, by omega, ((g04.trans g5).wide.trans g8).less np, ?_⟩
        obtain ⟨es, q1, q2⟩ := Gl.add h8 hcl
        exact ⟨es, q1, by omega⟩
    · obtain ⟨sd, v4, v5, v6, rfl, s0, s1, g, hg⟩ := hP
      rw [List.length_map] at hg
      refine ⟨.int m, rfl, m, rfl, by omega, by omega, for_range (lo := 0) (n := m.toNat) (fun j σ H' => ∃ v5, σ = [some (.ref a), some (.int m), some (.ref p), some (.int sd), v4, v5, v6] ∧ G τ [] H H' ∧ Gl K H' p (60 * ns.length + j)) ⟨v5, rfl, g, hg⟩ (fun j σ H' hj hP => ?_) fun σ H' hP => ?_⟩
      · obtain ⟨v5, rfl, g6, ds, hd, hdl⟩ := hP
        refine s_app (K := K) g6.tabs (ei_var (i := 2) rfl (.ptr p)) (ei_call (ea_cons (ei_var (i := 3) rfl (.int sd)) (ea_cons (ei_add ei_i (ei_var (i := 5) rfl (.int _))) ea_nil)) ⟨sd, _, rfl, ?_, ?_, rfl⟩) hd (by rw [List.length_map]; omega) fun H8 g8 h8 => ?_
        · show sd.natAbs < 1000000000000000000
          omega
        · show (71 + (0 + (j : Int))).natAbs < 1000000
          omega
        · exact ⟨_, rfl, (g6.wide.trans g8).less np, Gl.add h8 hdl⟩
      · obtain ⟨v5, rfl, g6, ds, hd, hdl⟩ := hP
        refine s_retN (K := K) g6.tabs (en_lstRev (ei_var (i := 2) rfl (.ptr p)) hd.lr) fun r H2 g2 nr hr => q r H2 (g6.trans g2) (nr.back0 g6) ⟨ds.reverse, ?_⟩
        rw [List.map_reverse]
        exact hr
end
end K01
namespace K01
open PySem PySem.Spec PyProof.Rows L2 LamX NdefX Clo LRev U
section
variable {P : Program} {w : World} {K : PySem.W.Frag} {mg : Str → Option Value} {base : Heap} {τ : TL}
theorem Cl.put {H : Hp} {p q : Addr} {vs ys : List V} (h : Cl K H p) (n : p ≠ q) (hq : H q = some (.lst vs)) : Cl K (upd H q (.lst ys)) p := by
  obtain ⟨cs, ws, h1, h2⟩ := h
  exact ⟨cs, ws, by rw [upd_ne n]; exact h1, h2.putH hq⟩
theorem lsPut {H : Hp} {p q : Addr} {vs ys : List V} {ds : List D} (h : Ls K H p ds) (n : p ≠ q) (hq : H q = some (.lst vs)) : Ls K (upd H q (.lst ys)) p ds := by
  obtain ⟨ws, h1, h2⟩ := h
  exact ⟨ws, by rw [upd_ne n]; exact h1, h2.putH hq⟩
theorem Nw.neLs {H : Hp} {p q : Addr} {ds : List D} (h : Nw H q) (hp : Ls K H p ds) : p ≠ q := let ⟨_, e, _⟩ := hp; h.ne e
theorem Nw.neCl {H : Hp} {p q : Addr} (h : Nw H q) (hp : Cl K H p) : p ≠ q := let ⟨_, hp⟩ := hp; Nw.neLs h hp
/-- a comprehension over a range whose turns draw from the list at p -/
theorem rn_lcC {σ : L2.St} {H : Hp} {te : TE} {j : Nat} {vs : List Nat} {n : Int} {ta : TA} {p : Addr} (B : D → Prop) (h : EvA τ K ta σ H [.int n]) (hn : n ≤ 1000000) (hw : ∀ x, wipe ((wipe σ vs).set j (some x)) vs = wipe σ vs) (hp : Cl K H p) (tb : Tabs τ H)
    (he : ∀ (i : Nat) H1, G τ [p] H H1 → Cl K H1 p → (i : Int) < n → Rn τ [p] te ((wipe σ vs).set j (some (.int (i : Int)))) H1 fun z H2 => ∃ d, Im K H2 z d ∧ B d ∧ Cl K H2 p)
    (h0 : -(2 ^ 62) ≤ n := by omega) : Rn τ [p] (tLc (iRng1 ta) (gName j) tYes te vs) σ H fun z H2 => ∃ q es, z = .ref q ∧ Nw H q ∧ q ≠ p ∧ Ls K H2 q es ∧ es.length = n.toNat ∧ (∀ x ∈ es, B x) ∧ Cl K H2 p := fun Q q => h H (.refl tb) _ fun ws H1 g1 hws => by
  have e1 : ws = [.int n] := ima_ints (ns := [n]) hws
  have hp1 := hp.up0 g1
  refine ⟨n, e1, h0, by omega, fun Dl hD => ?_⟩
  have nD : Nw H Dl := (Nw.of hD).back0 g1
  have nDp : Dl ≠ p := (Nw.neCl (Nw.of hD) hp1).symm
  refine lc_range (lo := 0) (n := n.toNat) (fun i H' => G τ [p] H H' ∧ Cl K H' p ∧ ∃ es, Ls K H' Dl es ∧ es.length = i ∧ ∀ x ∈ es, B x) ?_ (fun i H' hi p => ?_) fun H' p => ?_
  · have gn : G τ [] H1 (upd H1 Dl (.lst [])) := .new g1.tabs hD
    exact ⟨g1.wide.trans gn.wide, hp1.up0 gn, [], ⟨[], upd_same, .nil⟩, rfl, fun x hx => by cases hx⟩
  · obtain ⟨p1, p2, es, p3, p4, p5⟩ := p
    rw [Int.zero_add]
    refine ⟨hw _, ?_⟩
    unfold tYes
    refine iteT ?_
    refine he i H' p1 p2 (by omega) _ fun z H4 g4 hz => ?_
    obtain ⟨d, z1, z2, z3⟩ := hz
    obtain ⟨ys, y1, y2⟩ := p3.up g4 (by simpa using nDp)
    refine ⟨ys, y1, ?_, (p1.trans g4).put (.inr nD) y1, z3.put nDp.symm y1, es ++ [d], ⟨ys ++ [z], upd_same, (y2.append (.cons z1 .nil)).putH y1⟩, by rw [List.length_append, List.length_singleton, p4], fun x hx => ?_⟩
    · rw [y2.length, p4]
      exact Nat.lt_of_lt_of_le (show i < 1000001 by omega) (by decide)
    · rcases List.mem_append.mp hx with hx | hx
      · exact p5 x hx
      · rw [List.mem_singleton.mp hx]
        exact z2
  · obtain ⟨p1, p2, es, p3, p4, p5⟩ := p
    exact q _ H' p1 ⟨Dl, es, rfl, nD, nDp, p3, p4, p5, p2⟩
/-- .. whose tests draw -/
theorem rn_lcF {σ : L2.St} {H : Hp} {te : TE} {tt : TT} {j : Nat} {vs : List Nat} {n : Int} {ta : TA} {p : Addr} (v : Nat → D) (h : EvA τ K ta σ H [.int n]) (hn : n ≤ 1000000) (hw : ∀ x, wipe ((wipe σ vs).set j (some x)) vs = wipe σ vs) (hp : Cl K H p) (tb : Tabs τ H)
    (ht : ∀ (i : Nat) H1, G τ [p] H H1 → Cl K H1 p → (i : Int) < n → ∀ Q, (∀ b H2, G τ [p] H1 H2 → Cl K H2 p → Q b H2) → tt ((wipe σ vs).set j (some (.int (i : Int)))) H1 Q)
    (he : ∀ (i : Nat) H1, G τ [p] H H1 → (i : Int) < n → EvI τ K te ((wipe σ vs).set j (some (.int (i : Int)))) H1 (v i))
    (h0 : -(2 ^ 62) ≤ n := by omega) : Rn τ [p] (tLc (iRng1 ta) (gName j) tt te vs) σ H fun z H2 => ∃ q f, z = .ref q ∧ Nw H q ∧ q ≠ p ∧ Ls K H2 q (outs f v n.toNat) ∧ Cl K H2 p := fun Q q => h H (.refl tb) _ fun ws H1 g1 hws => by
  have e1 : ws = [.int n] := ima_ints (ns := [n]) hws
  have hp1 := hp.up0 g1
  refine ⟨n, e1, h0, by omega, fun Dl hD => ?_⟩
  have nD : Nw H Dl := (Nw.of hD).back0 g1
  have nDp : Dl ≠ p := (Nw.neCl (Nw.of hD) hp1).symm
  refine lc_range (lo := 0) (n := n.toNat) (fun i H' => G τ [p] H H' ∧ Cl K H' p ∧ ∃ f, Ls K H' Dl (outs f v i)) ?_ (fun i H' hi p => ?_) fun H' p => ?_
  · have gn : G τ [] H1 (upd H1 Dl (.lst [])) := .new g1.tabs hD
    exact ⟨g1.wide.trans gn.wide, hp1.up0 gn, fun _ => true, [], upd_same, .nil⟩
  · obtain ⟨p1, p2, f, p3⟩ := p
    rw [Int.zero_add]
    refine ⟨hw _, ?_⟩
    refine ht i H' p1 p2 (by omega) _ fun b H3 g3 h3 => ?_
    have same : ∀ (g : Nat → Bool), (∀ k, k < i → g k = f k) → outs g v i = outs f v i := fun g hg => by
      unfold outs
      rw [List.filter_congr fun k hk => hg k (List.mem_range.mp hk)]
    have p3' := p3.up g3 (by simpa using nDp)
    cases b with
    | true =>
      refine iteT ?_
      refine he i H3 (p1.trans g3) (by omega) H3 (.refl g3.tabs) _ fun z H4 g4 hz => ?_
      obtain ⟨ys, y1, y2⟩ := p3'.up0 g4
      have s1 := same (fun k => if k = i then true else f k) fun k hk => if_neg (by omega)
      refine ⟨ys, y1, ?_, ((p1.trans g3).trans g4.wide).put (.inr nD) y1, (h3.up0 g4).put nDp.symm y1, fun k => if k = i then true else f k, ys ++ [z], upd_same, ?_⟩
      · rw [y2.length]
        exact Nat.lt_of_le_of_lt (outs_len f v i) (Nat.lt_of_lt_of_le (show i < 1000001 by omega) (by decide))
      · rw [outs_yes (if_pos rfl), s1]
        exact (y2.append (.cons hz .nil)).putH y1
    | false =>
      refine iteF ?_
      have s1 := same (fun k => if k = i then false else f k) fun k hk => if_neg (by omega)
      refine ⟨p1.trans g3, h3, fun k => if k = i then false else f k, ?_⟩
      rw [outs_no (if_pos rfl), s1]
      exact p3'
  · obtain ⟨p1, p2, f, p3⟩ := p
    exact q _ H' p1 ⟨Dl, f, rfl, nD, nDp, p3, p2⟩
theorem s_forR {σ : L2.St} {H : Hp} {tu : TS} {Dn : Ends} {j : Nat} {n : Int} {ta : TA} (tb : Tabs τ H) (h : EvA τ K ta σ H [.int n]) (hn : n ≤ 1000000) (Pv : Nat → L2.St → Hp → Prop) (h0 : ∀ H1, G τ [] H H1 → Pv 0 σ H1)
    (hs : ∀ (i : Nat) σ' H', (i : Int) < n → Pv i σ' H' → tu { Dn with nx := Pv (i + 1), ct := Pv (i + 1), bk := Dn.nx } (σ'.set j (some (.int (i : Int)))) H') (hd : ∀ σ' H', Pv n.toNat σ' H' → Dn.nx σ' H') (hl : -(2 ^ 62) ≤ n := by omega) : tFor (iRng1 ta) (gName j) tu Dn σ H :=
  h H (.refl tb) _ fun ws H1 g1 hws => by
    have e1 : ws = [.int n] := ima_ints (ns := [n]) hws
    refine ⟨n, e1, hl, by omega, for_range (lo := 0) (n := n.toNat) Pv (h0 H1 g1) (fun i σ' H' hi p => ?_) hd⟩
    rw [Int.zero_add]
    exact hs i σ' H' (by omega) p
theorem s_forL {σ : L2.St} {H : Hp} {tu : TS} {Dn : Ends} {j : Nat} {tl : TE} {a : Addr} {ds : List D} (tb : Tabs τ H) (h : EvI τ K tl σ H (.ptr a)) (hx : Lr K H a ds) (Pv : Nat → L2.St → Hp → Prop) (h0 : ∀ H1, G τ [] H H1 → Pv 0 σ H1)
    (hl : ∀ i σ' H' , Pv i σ' H' → ∃ vs, SqL K H' a vs ∧ ImA K H' vs ds) (hs : ∀ (i : Nat) d v σ' H', ds[i]? = some d → Im K H' v d → Pv i σ' H' → tu { Dn with nx := Pv (i + 1), ct := Pv (i + 1), bk := Dn.nx } (σ'.set j (some v)) H') (hd : ∀ σ' H', Pv ds.length σ' H' → Dn.nx σ' H') : tFor (iList K tl) (gName j) tu Dn σ H :=
  h H (.refl tb) _ fun v H1 g1 hv => by
    obtain ⟨xs, h1, h2⟩ := hx.up g1
    refine ⟨a, im_ptr hv, ⟨xs, h1⟩, ?_⟩
    refine ⟨fun i m σ H => m = ds.length - i ∧ i ≤ ds.length ∧ Pv i σ H, ⟨ds.length, by simp, Nat.zero_le _, h0 H1 g1⟩, ?_⟩
    rintro i m σ' H' ⟨rfl, hi, p⟩
    obtain ⟨vs, q1, q2⟩ := hl i σ' H' p
    have hlen := q2.length
    by_cases hlt : i < ds.length
    · refine .inr ⟨⟨vs, vs[i], q1, by simp [hlen, hlt]⟩, Pv (i + 1), fun σ' H' p' => ⟨ds.length - (i + 1), by omega, rfl, hlt, p'⟩, fun x H2 y => ?_⟩
      obtain ⟨e, y⟩ := y
      subst e
      obtain ⟨d, d1, d2⟩ := q2.getV (y vs q1)
      exact hs i d x σ' _ d1 d2 p
    · have e : i = ds.length := by omega
      subst e
      exact .inl ⟨⟨vs, q1, by omega⟩, hd σ' H' p⟩
theorem r_call {σ : L2.St} {H : Hp} {sp : Sp} {tr : TA} {ds : List D} {Q : VK} (tb : Tabs τ H) (h : EvA τ K tr σ H ds) (q : ∀ vs H1, G τ [] H H1 → ImA K H1 vs ds → sp vs H1 Q L2.E0) : tCall sp [] L2.E0 tr σ H Q :=
  h H (.refl tb) _ fun vs H1 g hvs => by
    rw [List.append_nil]
    exact q vs H1 g hvs
/-! ### dealt -/
def spDealt (τ : TL) (K : PySem.W.Frag) : Sp := fun vs H Q _ => ∃ p t ds, vs = [.ref p, .ref t] ∧ Tabs τ H ∧ Cl K H p ∧ Ls K H t ds ∧ p ≠ t ∧ ds.length ≤ 1000 ∧ ∀ o es H2, G τ [p] H H2 → Nw H o → Ls K H2 o es → es.length = ds.length → (∀ x ∈ es, x ∈ ds) → Cl K H2 p → Q (.ref o) H2
theorem ok__law_dealt (T : Txt K mg) : FnOk P w K mg base L2.CX0 2 T._law_dealt.f T._law_dealt.fd ["_law_cells_here", "_law_things"] (spDealt τ K) := by
  have G__law_pick : FnOk P w K mg base L2.CX0 1 T._law_pick.f T._law_pick.fd _ _ := ok__law_pick (τ := τ) T
  refine T._law_dealt.F.ok sc__law_dealt (fun vs H Q E h => ?_) (fun cdv A outer s H vs Q E hr h => ?_)
  · obtain ⟨_, _, _, rfl, _⟩ := h
    rfl
  · obtain ⟨p, t, ds, rfl, tb, hc, ht, npt, hl, q⟩ := h
    refine ⟨_, (pss_cons (ps_set (i := 2) sc__law_dealt.nd rfl (by first | exact .inl rfl | exact .inr rfl) (pe_callTy (r := rLstQ K) call_list_of (by rfl) T.z_list (by decide +kernel) (pa_cons (pv 1) pa_nil)))
      (pss_cons (ps_set (i := 3) sc__law_dealt.nd rfl (by first | exact .inl rfl | exact .inr rfl) (pe_lst pa_nil))
      (pss_cons (ps_for PassesOwn.never rfl (pi_range1 (by rfl) T.z_range (pa_cons (pe_callB (r := rLenQ K) call_len_seq (by rfl) T.z_len (by decide +kernel) (pa_cons (pv 1) pa_nil)) pa_nil)) (pg_name (i := 4) sc__law_dealt.nd rfl (by first | exact .inl rfl | exact .inr rfl)) (pss_one (ps_expr (pe_bm PySem.F.plainAttrs_list PySem.F.slot_list_append PySem.F.type_list_append mt_append (pv 3) (pa_cons (pe_bm PySem.F.plainAttrs_list PySem.F.slot_list_pop PySem.F.type_list_pop mt_popAt (pv 2) (pa_cons (pc T._law_pick G__law_pick (hr.mono (by decide)) (by rfl) (pa_cons (pv 0) (pa_cons (pe_callB (r := rLenQ K) call_len_seq (by rfl) T.z_len (by decide +kernel) (pa_cons (pv 2) pa_nil)) pa_nil))) pa_nil)) pa_nil)))))
      (pss_one (ps_ret (pv 3)))))), ?_⟩
    refine s_asgN (K := K) tb (en_lstL (ei_var (i := 1) rfl (.ptr t)) ht.lr) fun r H1 g1 nr hr1 => ?_
    refine s_asgN (K := K) (ds := []) g1.tabs (en_lst ea_nil (by decide)) fun o H2 g2 no ho => ?_
    have g02 := g1.trans g2
    have hr2 := hr1.up0 g2
    have nro : r ≠ o := Nw.neLs no hr1
    have npr : p ≠ r := Nw.neCl nr hc
    have no0 : Nw H o := no.back0 g1
    have npo : p ≠ o := Nw.neCl no0 hc
    refine s_forR (K := K) (n := (ds.length : Int)) g2.tabs (ea_cons (ei_lenL (ei_var (i := 1) rfl (.ptr t)) (ht.up0 g02).lr) ea_nil) (by omega)
      (fun i σ H' => ∃ v4 rs es, σ = [some (.ref p), some (.ref t), some (.ref r), some (.ref o), v4] ∧ G τ [p, r, o] H H' ∧ Cl K H' p ∧ Ls K H' r rs ∧ Ls K H' o es ∧ rs.length + i = ds.length ∧ es.length = i ∧ (∀ x ∈ rs, x ∈ ds) ∧ ∀ x ∈ es, x ∈ ds) (fun H3 g3 => ?_) (fun i σ H3 hi hP => ?_) fun σ H3 hP => ?_
    · exact ⟨none, ds, [], rfl, (g02.trans g3).wide, (hc.up0 g02).up0 g3, hr2.up0 g3, ho.up0 g3, rfl, rfl, fun x hx => hx, fun x hx => by cases hx⟩
    · obtain ⟨v4, rs, es, rfl, g, c3, r3, o3, l1, l2, m1, m2⟩ := hP
      refine r_app (ms := [p, r]) (A := fun z H2 => ∃ (k : Nat) (d : D), rs[k]? = some d ∧ Im K H2 z d ∧ Ls K H2 r (rs.eraseIdx k) ∧ Cl K H2 p) g.tabs (ei_var (i := 3) rfl (.ptr o)) o3 (by simp [npo.symm, nro.symm]) (by omega) (fun H4 g4 Q2 q2 => ?_) fun z vs H4 g4 hz ho4 hvs => ?_
      · have r4 := r3.up0 g4
        refine r_popAt (ms := [p]) (A := fun z H2 => ∃ k : Int, z = .int k ∧ 0 ≤ k ∧ k < (rs.length : Int) ∧ Cl K H2 p) g4.tabs (ei_var (i := 2) rfl (.ptr r)) r4 (by simp [npr.symm]) (by omega)
          (fun H5 g5 => rn_pick g5.tabs (ea_cons (ei_var (i := 0) rfl (.ptr p)) (ea_cons (ei_lenL (ei_var (i := 2) rfl (.ptr r)) (r4.up0 g5).lr) ea_nil)) (by omega) ((c3.up0 g4).up0 g5))
          (fun z H5 hz => ?_) fun k d z vs H5 g5 hz h5 hvs hd hzd => ?_
        · obtain ⟨k, rfl, k0, k1, _⟩ := hz
          exact ⟨k.toNat, by rw [Int.toNat_of_nonneg k0], by omega⟩
        · obtain ⟨_, _, _, _, c5⟩ := hz
          exact q2 z _ ((g5.more (by simp)).put (.inl (by simp)) h5) ⟨k, d, hd, hzd.put h5, ⟨vs.eraseIdx k, upd_same, (hvs.erase k).putH h5⟩, c5.put npr h5⟩
      · obtain ⟨k, d, hd, hz, r4, c4⟩ := hz
        have hk := (List.getElem?_eq_some_iff.mp hd).1
        refine ⟨_, rs.eraseIdx k, es ++ [d], rfl, (g.trans (g4.more (by simp))).put (.inl (by simp)) ho4, c4.put npo ho4, lsPut r4 nro ho4, ⟨vs ++ [z], upd_same, (hvs.append (.cons hz .nil)).putH ho4⟩, ?_, ?_, fun x hx => m1 x (List.mem_of_mem_eraseIdx hx), fun x hx => ?_⟩
        · rw [List.length_eraseIdx, if_pos hk]
          omega
        · rw [List.length_append, List.length_singleton, l2]
        · rcases List.mem_append.mp hx with hx | hx
          · exact m2 x hx
          · rw [List.mem_singleton.mp hx]
            exact m1 d (List.mem_of_getElem? hd)
    · obtain ⟨v4, rs, es, rfl, g, c3, r3, o3, l1, l2, m1, m2⟩ := hP
      refine s_ret (K := K) g.tabs (ei_var (i := 3) rfl (.ptr o)) fun v H4 g4 hv => ?_
      rw [im_ptr hv]
      have gp : G τ [p] H H4 := by
        have z : G τ [r, o, p] H H4 := (g.more (by simp)).trans g4.wide
        exact (z.less nr).less no0
      exact q o es H4 gp no0 (o3.up0 g4) (by rw [l2]; omega) m2 (c3.up0 g4)
end
end K01
namespace K01
open PySem PySem.Spec PyProof.Rows L2 LamX NdefX Clo LRev U
section
variable {P : Program} {w : World} {K : PySem.W.Frag} {mg : Str → Option Value} {base : Heap} {τ : TL}
theorem ints_of {B : Int → Prop} : ∀ {es : List D}, (∀ x ∈ es, ∃ i, x = .int i ∧ B i) → ∃ ws : List Int, es = ws.map D.int ∧ ∀ i ∈ ws, B i
  | [], _ => ⟨[], rfl, fun i h => by cases h⟩
  | e :: es, h => by
    obtain ⟨i, rfl, hi⟩ := h e List.mem_cons_self
    obtain ⟨ws, rfl, hw⟩ := ints_of (es := es) fun x hx => h x (List.mem_cons_of_mem _ hx)
    exact ⟨i :: ws, rfl, fun k hk => by
      rcases List.mem_cons.mp hk with rfl | hk
      · exact hi
      · exact hw k hk⟩
theorem prs_of {B : Int × Int → Prop} : ∀ {es : List D}, (∀ x ∈ es, ∃ i, x = prD i ∧ B i) → ∃ ws : List (Int × Int), es = ws.map prD ∧ ∀ i ∈ ws, B i
  | [], _ => ⟨[], rfl, fun i h => by cases h⟩
  | e :: es, h => by
    obtain ⟨i, rfl, hi⟩ := h e List.mem_cons_self
    obtain ⟨ws, rfl, hw⟩ := prs_of (es := es) fun x hx => h x (List.mem_cons_of_mem _ hx)
    exact ⟨i :: ws, rfl, fun k hk => by
      rcases List.mem_cons.mp hk with rfl | hk
      · exact hi
      · exact hw k hk⟩
theorem imaIns {H : Hp} : ∀ {vs : List V} {ds : List D} {z : V} {d : D} (i : Nat), ImA K H vs ds → Im K H z d → ImA K H (vs.take i ++ [z] ++ vs.drop i) (ds.take i ++ [d] ++ ds.drop i) := fun i h hz => ((h.take i).append (.cons hz .nil)).append (h.drop i)
abbrev inI (n i : Int) : Prop := 0 ≤ i ∧ i < n
abbrev inR (n : Int) (l : Int × Int) : Prop := inI n l.1 ∧ inI n l.2
def spRing (τ : TL) (K : PySem.W.Frag) : Sp := fun vs H Q _ => ∃ (p : Addr) (n x : Int), vs = [.ref p, .int n, .int x] ∧ Tabs τ H ∧ Cl K H p ∧ 1 ≤ n ∧ n ≤ 10 ∧ 0 ≤ x ∧ x ≤ 30 ∧ ∀ (o : Addr) (ls : List (Int × Int)) (H2 : Hp), G τ [p] H H2 → Nw H o → Ls K H2 o (ls.map prD) → 1 ≤ ls.length → ls.length ≤ 40 → (∀ l ∈ ls, inR n l) → Cl K H2 p → Q (.ref o) H2
theorem ok__law_ring (T : Txt K mg) : FnOk P w K mg base L2.CX0 3 T._law_ring.f T._law_ring.fd ["_law_cells_here", "_law_size", "_law_extra"] (spRing τ K) := by
  have G__law_pick : FnOk P w K mg base L2.CX0 1 T._law_pick.f T._law_pick.fd _ _ := ok__law_pick (τ := τ) T
  have G__law_dealt : FnOk P w K mg base L2.CX0 2 T._law_dealt.f T._law_dealt.fd _ _ := ok__law_dealt (τ := τ) T
  refine T._law_ring.F.ok sc__law_ring (fun vs H Q E h => ?_) (fun cdv A outer s H vs Q E hr h => ?_)
  · obtain ⟨_, _, _, rfl, _⟩ := h
    rfl
  · obtain ⟨p, n, x, rfl, tb, hc, n0, n1, x0, x1, q⟩ := h
    refine ⟨_, (pss_cons (ps_set (i := 3) sc__law_ring.nd rfl (by first | exact .inl rfl | exact .inr rfl) (pe_lc (own := [("_law_k", 6)]) (g := (gName 6)) (tt := tYes) rfl sc__law_ring.nd (pi_range1 (by rfl) T.z_range (pa_cons (pv 2) pa_nil)) (blkOk_by (own := [("_law_k", 6)]) (N := ["_law_cells_here", "_law_size", "_law_extra", "_law_walk", "_law_w", "_law_leaves", "_law_k"]) (sc := defScope s__law_ring) (by decide +kernel)) (fun _ _ _ _ _ => (pg_name (i := 6) sc__law_ring.nd rfl (by first | exact .inl rfl | exact .inr rfl))) (fun _ _ _ _ _ => pts_nil) (fun _ _ _ _ _ => (pc T._law_pick G__law_pick (hr.mono (by decide)) (by rfl) (pa_cons (pv 0) (pa_cons (pv 1) pa_nil))))))
      (pss_cons (ps_for PassesOwn.never rfl (pi_range1 (by rfl) T.z_range (pa_cons (pv 1) pa_nil)) (pg_name (i := 4) sc__law_ring.nd rfl (by first | exact .inl rfl | exact .inr rfl)) (pss_one (ps_if (pt_cmpR (r := rIn K true) op_notIn_seq (pv 4) (pv 3) (by rfl)) (pss_one (ps_expr (pe_bm PySem.F.plainAttrs_list PySem.F.slot_list_insert PySem.F.type_list_insert mt_insert (pv 3) (pa_cons (pc T._law_pick G__law_pick (hr.mono (by decide)) (by rfl) (pa_cons (pv 0) (pa_cons (pe_op op_add (pe_callB (r := rLenQ K) call_len_seq (by rfl) T.z_len (by decide +kernel) (pa_cons (pv 3) pa_nil)) pe_int) pa_nil))) (pa_cons (pv 4) pa_nil))))) pss_nil)))
      (pss_cons (ps_setLc (i := 5) (own := [("_law_k", 6)]) (g := (gName 6)) (tt := tYes) rfl sc__law_ring.nd rfl rfl (sw_true rfl rfl rfl (by decide +kernel)) (pi_range1 (by rfl) T.z_range (pa_cons (pe_callB (r := rLenQ K) call_len_seq (by rfl) T.z_len (by decide +kernel) (pa_cons (pv 3) pa_nil)) pa_nil)) (blkOk_by (own := [("_law_k", 6)]) (N := ["_law_cells_here", "_law_size", "_law_extra", "_law_walk", "_law_w", "_law_leaves", "_law_k"]) (sc := defScope s__law_ring) (by decide +kernel)) (fun _ _ _ _ _ => (pg_name (i := 6) sc__law_ring.nd rfl (by first | exact .inl rfl | exact .inr rfl))) (fun _ _ _ _ _ => pts_nil) (fun _ _ _ _ _ => (pe_tup (pa_cons (pe_ix (r := rIx K) ix_seq (pv 3) (pv 6) (fun _ _ => rfl)) (pa_cons (pe_ix (r := rIx K) ix_seq (pv 3) (pe_op op_mod (pe_callTy call_int1 (by rfl) T.z_int (by decide +kernel) (pa_cons (pe_op op_add (pv 6) pe_int) pa_nil)) (pe_callB (r := rLenQ K) call_len_seq (by rfl) T.z_len (by decide +kernel) (pa_cons (pv 3) pa_nil))) (fun _ _ => rfl)) pa_nil)))))
      (pss_one (ps_ret (pc T._law_dealt G__law_dealt (hr.mono (by decide)) (by rfl) (pa_cons (pv 0) (pa_cons (pv 5) pa_nil)))))))), ?_⟩
    -- walk
    refine s_asg (rn_lcC (fun d => ∃ i, d = .int i ∧ inI n i) (ea_cons (ei_var (i := 2) rfl (.int x)) ea_nil) (by omega) (fun _ => rfl) hc tb fun i H1 g1 c1 hi => ?_) fun v H1 g1 hv => ?_
    · refine fun Q2 q2 => rn_pick g1.tabs (ea_cons (ei_var (i := 0) rfl (.ptr p)) (ea_cons (ei_var (i := 1) rfl (.int n)) ea_nil)) (by omega) c1 Q2 fun z H2 g2 hz => ?_
      obtain ⟨r, rfl, r0, r1, c2⟩ := hz
      exact q2 _ H2 g2 ⟨.int r, .int r, ⟨r, rfl, r0, r1⟩, c2⟩
    obtain ⟨m, es, rfl, nm, nmp, hm, hl, hb, c1⟩ := hv
    obtain ⟨ws, rfl, hbI⟩ := ints_of hb
    rw [List.length_map] at hl
    -- every word
    refine s_forR (K := K) (n := n) g1.tabs (ea_cons (ei_var (i := 1) rfl (.int n)) ea_nil) (by omega)
      (fun i σ H' => ∃ (v4 v5 v6 : Option V) (ws : List Int), σ = [some (.ref p), some (.int n), some (.int x), some (.ref m), v4, v5, v6] ∧ G τ [p, m] H H' ∧ Cl K H' p ∧ Ls K H' m (ws.map D.int) ∧ (∀ i ∈ ws, inI n i) ∧ ws.length ≤ x.toNat + i ∧ (1 ≤ i → 1 ≤ ws.length)) (fun H2 g2 => ?_) (fun i σ H2 hi hP => ?_) fun σ H2 hP => ?_
    · exact ⟨none, none, none, ws, rfl, (g1.trans g2.wide).more (by simp), c1.up0 g2, hm.up0 g2, hbI, by omega, fun h => by omega⟩
    · obtain ⟨v4, v5, v6, ws, rfl, g, c2, m2, hb, hl, _⟩ := hP
      refine s_if g.tabs (et_test (K := K) (ei_ninL (ei_var (i := 4) rfl (.int _)) (ei_var (i := 3) rfl (.ptr m)) m2.lr)) (fun e H3 g3 => ?_) fun e H3 g3 => ?_
      · have m3 := m2.up0 g3
        refine r_ins (ms := [p]) (A := fun z H2 => ∃ k : Int, z = .int k ∧ 0 ≤ k ∧ k < (ws.length : Int) + 1 ∧ Cl K H2 p) g3.tabs (ei_var (i := 3) rfl (.ptr m)) m3 (by simp [nmp]) (by rw [List.length_map]; omega)
          (fun H4 g4 => rn_pick g4.tabs (ea_cons (ei_var (i := 0) rfl (.ptr p)) (ea_cons (ei_is (ei_add (ei_lenL (ei_var (i := 3) rfl (.ptr m)) (m3.up0 g4).lr) ei_i) (by rw [List.length_map])) ea_nil)) (by omega) ((c2.up0 g3).up0 g4))
          (fun z H4 hz => ?_) (fun H4 g4 => ei_var (i := 4) rfl (.int _)) (fun z H4 H5 hz g5 => ?_) fun k z vs H4 g4 hz hm4 hvs hzd => ?_
        · obtain ⟨k, rfl, k0, k1, _⟩ := hz
          exact ⟨k.toNat, by rw [Int.toNat_of_nonneg k0], by omega⟩
        · obtain ⟨k, rfl, k0, k1, c4⟩ := hz
          exact ⟨k, rfl, k0, k1, c4.up0 g5⟩
        · obtain ⟨_, _, _, _, c4⟩ := hz
          refine ⟨_, v5, v6, ws.take k ++ [(i : Int)] ++ ws.drop k, rfl, ((g.trans g3.wide).trans (g4.more (by simp))).put (.inl (by simp)) hm4, c4.put nmp.symm hm4, ⟨_, upd_same, ?_⟩, fun j hj => ?_, ?_, fun _ => ?_⟩
          · have z1 := (imaIns k hvs hzd).putH (o := .lst (vs.take k ++ [z] ++ vs.drop k)) hm4
            rw [← List.map_take, ← List.map_drop] at z1
            rw [List.map_append, List.map_append]
            exact z1
          · rcases List.mem_append.mp hj with hj | hj
            · rcases List.mem_append.mp hj with hj | hj
              · exact hb j (List.mem_of_mem_take hj)
              · rw [List.mem_singleton.mp hj]
                exact ⟨by omega, hi⟩
            · exact hb j (List.mem_of_mem_drop hj)
          · rw [List.length_append, List.length_append, List.length_singleton, List.length_take, List.length_drop]
            omega
          · rw [List.length_append, List.length_append, List.length_singleton]
            omega
      · refine ⟨_, v5, v6, ws, rfl, g.trans g3.wide, c2.up0 g3, m2.up0 g3, hb, by omega, fun _ => ?_⟩
        have hmem : ((i : Int)) ∈ ws := by
          have e' : (!decide (((i : Nat) : Int) ∈ ws)) = false := e
          rw [Bool.not_eq_false', decide_eq_true_eq] at e'
          exact e'
        exact List.length_pos_of_mem hmem
    · obtain ⟨v4, v5, v6, ws, rfl, g, c2, m2, hb, hl, hl1⟩ := hP
      have hl1 := hl1 (by omega)
      have hat : ∀ k : Nat, k < ws.length → atI (ws.map D.int) ((k : Nat) : Int) = some (.int (ws.getD k 0)) := fun k hk => by
        refine at_nat rfl ?_
        rw [List.getElem?_map, getD_of (z := 0) hk]
        rfl
      have hwl : (ws.map D.int).length = ws.length := List.length_map ..
      -- leaves
      refine s_asgN (ds := ((List.range ws.length).map fun k => (ws.getD k 0, ws.getD ((k + 1) % ws.length) 0)).map prD) g.tabs (en_is (en_lcR (fun _ => true) (fun k => prD (ws.getD k 0, ws.getD ((k + 1) % ws.length) 0)) (ea_cons (ei_lenL (ei_var (i := 3) rfl (.ptr m)) m2.lr) ea_nil) (by rw [hwl]; omega) (fun _ => rfl)
        (fun k H3 g3 hk => et_yes) fun k H3 g3 hk _ => ?_) ?_) fun t H3 g3 nt ht => ?_
      · rw [hwl] at hk
        have m3 := m2.up0 g3
        refine ei_tup (ea_cons (ei_ixL (ei_var (i := 3) rfl (.ptr m)) m3.lr (ei_var (i := 6) rfl (.int _)) (hat k (by omega))) (ea_cons (ei_ixL (ei_var (i := 3) rfl (.ptr m)) m3.lr (ei_mod (ei_intI (ei_add (ei_var (i := 6) rfl (.int _)) ei_i)) (ei_lenL (ei_var (i := 3) rfl (.ptr m)) m3.lr) (by rw [hwl]; omega)) ?_) ea_nil)) (show 2 ≤ 100000 by decide)
        have e : (((k : Nat) : Int) + 1) % ((ws.map D.int).length : Int) = (((k + 1) % ws.length : Nat) : Int) := by rw [hwl]; norm_cast
        rw [e]
        exact hat _ (Nat.mod_lt _ (by omega))
      · rw [outs_all, hwl, Int.toNat_natCast, List.map_map]
        rfl
      · have npt : p ≠ t := Nw.neCl nt c2
        refine r_call (K := K) g3.tabs (ea_cons (ei_var (i := 0) rfl (.ptr p)) (ea_cons (ei_var (i := 5) rfl (.ptr t)) ea_nil)) fun vs H4 g4 hvs => ?_
        obtain ⟨a, b, rfl, h1, h2⟩ := ima2 hvs
        rw [im_ptr h1, im_ptr h2]
        refine ⟨p, t, _, rfl, g4.tabs, (c2.up0 g3).up0 g4, ht.up0 g4, npt, by rw [List.length_map, List.length_map, List.length_range]; omega, fun o es H5 g5 no ho hle hsub c5 => ?_⟩
        have gpm : G τ [p, m] H H4 := (g.trans g3.wide).trans g4.wide
        have g5' : G τ [m, p] H H5 := (gpm.more (by simp)).trans (g5.more (by simp))
        obtain ⟨ls, rfl, hb2⟩ := prs_of (B := inR n) (es := es) fun y hy => by
          obtain ⟨l, hl, rfl⟩ := List.mem_map.mp (hsub y hy)
          obtain ⟨k, hk, rfl⟩ := List.mem_map.mp hl
          have hk := List.mem_range.mp hk
          have hg : ∀ j, j < ws.length → inI n (ws.getD j 0) := fun j hj => hb _ (List.mem_of_getElem? (getD_of hj))
          exact ⟨_, rfl, hg k hk, hg _ (Nat.mod_lt _ (by omega))⟩
        rw [List.length_map, List.length_map, List.length_map, List.length_range] at hle
        refine q o ls H5 (g5'.less nm) (?_ : Nw H o) ho (by omega) (by omega) hb2 c5
        have n4 : Nw H4 o := no
        intro u hu
        by_cases hop : o ∈ [p, m]
        · exfalso
          rcases List.mem_cons.mp hop with e | hop
          · obtain ⟨cs, ws', z, _⟩ := (c2.up0 g3).up0 g4
            rw [e] at n4
            obtain ⟨ps, z'⟩ := n4 _ z
            cases z'
          · have e := List.mem_singleton.mp hop
            obtain ⟨ws', z, _⟩ := (m2.up0 g3).up0 g4
            rw [e] at n4
            obtain ⟨ps, z'⟩ := n4 _ z
            cases z'
        · exact n4.back gpm hop u hu
end
end K01
namespace K01
open PySem PySem.Spec PyProof.Rows L2 LamX NdefX Clo LRev U
section
variable {P : Program} {w : World} {K : PySem.W.Frag} {mg : Str → Option Value} {base : Heap} {τ : TL}
/-- i op pick(..) -/
theorem rn_opR {σ : L2.St} {H : Hp} {ta tb : TE} {g : Int → Int → V} {i : Int} {ms : List Addr} {A : V → Hp → Prop} (tb0 : Tabs τ H) (ha : EvI τ K ta σ H (.int i)) (hb : ∀ H1, G τ [] H H1 → Rn τ ms tb σ H1 A) (hA : ∀ z H2, A z H2 → ∃ r, z = .int r) : Rn τ ms (tOp (rI0 g) ta tb) σ H fun z H2 => ∃ r, z = g i r ∧ A (.int r) H2 := fun Q q =>
  ha H (.refl tb0) _ fun v H1 g1 hv => hb H1 g1 _ fun w H2 g2 hw => by
    obtain ⟨r, rfl⟩ := hA w H2 hw
    exact ⟨i, r, im_int hv, rfl, q _ H2 (g1.wide.trans g2) ⟨r, rfl, hw⟩⟩
/-- pick(..) == k, as a test -/
theorem rt_eq {σ : L2.St} {H : Hp} {ta : TE} {k : Int} {p : Addr} {lim : Int} {Q : Bool → Hp → Prop} (h : Rn τ [p] ta σ H fun z H2 => ∃ r, z = .int r ∧ 0 ≤ r ∧ r < lim ∧ Cl K H2 p) (q : ∀ b H2, G τ [p] H H2 → Cl K H2 p → Q b H2) : tTest (tOp rEq ta (tC (.int k))) σ H Q :=
  h _ fun z H2 g2 hz => by
    obtain ⟨r, rfl, _, _, c⟩ := hz
    exact ⟨rfl, _, rfl, q _ H2 g2 c⟩
theorem Nw.backP {H H1 : Hp} {p q : Addr} (g : G τ [p] H H1) (n : q ≠ p) (h : Nw H1 q) : Nw H q := h.back g (by simpa using n)
/-- .. how many turns is drawn, too -/
theorem rn_lcC2 {σ : L2.St} {H : Hp} {te te0 : TE} {j : Nat} {vs : List Nat} {N : Int} {p : Addr} (B : D → Prop) (hr : Rn τ [p] te0 σ H fun z H1 => ∃ n, z = .int n ∧ 0 ≤ n ∧ n ≤ N ∧ Cl K H1 p) (hN : N ≤ 1000000) (hw : ∀ x, wipe ((wipe σ vs).set j (some x)) vs = wipe σ vs)
    (he : ∀ (i : Nat) H1, G τ [p] H H1 → Cl K H1 p → Rn τ [p] te ((wipe σ vs).set j (some (.int (i : Int)))) H1 fun z H2 => ∃ d, Im K H2 z d ∧ B d ∧ Cl K H2 p) :
    Rn τ [p] (tLc (iRng1 (tCons te0 tNil)) (gName j) tYes te vs) σ H fun z H2 => ∃ q es, z = .ref q ∧ Nw H q ∧ q ≠ p ∧ Ls K H2 q es ∧ (es.length : Int) ≤ N ∧ (∀ x ∈ es, B x) ∧ Cl K H2 p := fun Q q =>
  hr _ fun z H1 g1 hz => by
    obtain ⟨n, rfl, n0, n1, c1⟩ := hz
    have r := rn_lcC (τ := τ) (K := K) (σ := σ) (H := H1) (te := te) (j := j) (vs := vs) (n := n) (ta := tCons (tC (.int n)) tNil) B (ea_cons ei_i ea_nil) (by omega) hw c1 g1.tabs (fun i H2 g2 c2 _ => he i H2 (g1.trans g2) c2) (by omega)
    refine r Q fun z H2 g2 hz => ?_
    obtain ⟨t, es, rfl, nt, ntp, ht, hl, hb, c2⟩ := hz
    exact q _ H2 (g1.trans g2) ⟨t, es, rfl, Nw.backP g1 ntp nt, ntp, ht, by omega, hb, c2⟩
/-- pick(..) + e -/
theorem rn_opL {σ : L2.St} {H : Hp} {ta tb : TE} {g : Int → Int → V} {i : Int} {ms : List Addr} {A : V → Hp → Prop} (ha : Rn τ ms ta σ H A) (hA : ∀ z H2, A z H2 → ∃ r, z = .int r) (hb : ∀ H1, G τ ms H H1 → EvI τ K tb σ H1 (.int i)) (hst : ∀ z H1 H2, A z H1 → G τ [] H1 H2 → A z H2) : Rn τ ms (tOp (rI0 g) ta tb) σ H fun z H2 => ∃ r, z = g r i ∧ A (.int r) H2 := fun Q q =>
  ha _ fun v H1 g1 hv => hb H1 g1 H1 (.refl g1.tabs) _ fun w H2 g2 hw => by
    obtain ⟨r, rfl⟩ := hA v H1 hv
    exact ⟨r, i, rfl, im_int hw, q _ H2 (g1.trans g2.wide) ⟨r, rfl, hst _ _ _ hv g2⟩⟩
def spHeap (τ : TL) (K : PySem.W.Frag) : Sp := fun vs H Q _ => ∃ (p : Addr) (k : Int), vs = [.ref p, .int k] ∧ Tabs τ H ∧ Cl K H p ∧ ∀ (v : V) (n : Int) (ls : List (Int × Int)) (H2 : Hp), G τ [p] H H2 → Im K H2 v (hD n ls) → 1 ≤ n → n ≤ 10 → ls.length ≤ 100 → (∀ l ∈ ls, inR n l) → Cl K H2 p → Q v H2
theorem mem_set_of {α : Type} {l : List α} {i : Nat} {a x : α} (h : x ∈ l.set i a) : x ∈ l ∨ x = a := by
  rcases List.mem_or_eq_of_mem_set h with z | z
  · exact .inl z
  · exact .inr z
theorem ok__law_heap (T : Txt K mg) : FnOk P w K mg base L2.CX0 4 T._law_heap.f T._law_heap.fd ["_law_cells_here", "_law_kind"] (spHeap τ K) := by
  have G__law_pick : FnOk P w K mg base L2.CX0 1 T._law_pick.f T._law_pick.fd _ _ := ok__law_pick (τ := τ) T
  have G__law_ring : FnOk P w K mg base L2.CX0 3 T._law_ring.f T._law_ring.fd _ _ := ok__law_ring (τ := τ) T
  refine T._law_heap.F.ok sc__law_heap (fun vs H Q E h => ?_) (fun cdv A outer s H vs Q E hr h => ?_)
  · obtain ⟨_, _, rfl, _⟩ := h
    rfl
  · obtain ⟨p, kd, rfl, tb, hc, q⟩ := h
    refine ⟨_, (pss_cons (ps_set (i := 2) sc__law_heap.nd rfl (by first | exact .inl rfl | exact .inr rfl) (pe_op op_add pe_int (pc T._law_pick G__law_pick (hr.mono (by decide)) (by rfl) (pa_cons (pv 0) (pa_cons pe_int pa_nil)))))
      (Evl.pss_cut (ps_if (pt_cmpR op_eq (pc T._law_pick G__law_pick (hr.mono (by decide)) (by rfl) (pa_cons (pv 0) (pa_cons pe_int pa_nil))) pe_int (nomark _)) (pss_one (ps_set (i := 2) sc__law_heap.nd rfl (by first | exact .inl rfl | exact .inr rfl) (pe_op op_add pe_int (pc T._law_pick G__law_pick (hr.mono (by decide)) (by rfl) (pa_cons (pv 0) (pa_cons pe_int pa_nil)))))) pss_nil)
      (pss_cons (ps_set (i := 3) sc__law_heap.nd rfl (by first | exact .inl rfl | exact .inr rfl) (pc T._law_pick G__law_pick (hr.mono (by decide)) (by rfl) (pa_cons (pv 0) (pa_cons pe_int pa_nil))))
      (Evl.pss_cut (ps_if (pt_cmpR op_eq (pc T._law_pick G__law_pick (hr.mono (by decide)) (by rfl) (pa_cons (pv 0) (pa_cons pe_int pa_nil))) pe_int (nomark _)) (pss_one (ps_set (i := 3) sc__law_heap.nd rfl (by first | exact .inl rfl | exact .inr rfl) (pe_op op_add pe_int (pc T._law_pick G__law_pick (hr.mono (by decide)) (by rfl) (pa_cons (pv 0) (pa_cons pe_int pa_nil)))))) pss_nil)
      (pss_cons (ps_set (i := 4) sc__law_heap.nd rfl (by first | exact .inl rfl | exact .inr rfl) (pc T._law_ring G__law_ring (hr.mono (by decide)) (by rfl) (pa_cons (pv 0) (pa_cons (pv 2) (pa_cons (pv 3) pa_nil)))))
      (Evl.pss_cut (ps_if (pt_cmpR op_eq (pv 1) pe_int (nomark _)) (pss_one (ps_setLc (i := 4) (own := [("_law_k", 6)]) (g := (gName 6)) (tt := tYes) rfl sc__law_heap.nd rfl rfl (sw_true rfl rfl rfl (by decide +kernel)) (pi_range1 (by rfl) T.z_range (pa_cons (pe_op op_add (pc T._law_pick G__law_pick (hr.mono (by decide)) (by rfl) (pa_cons (pv 0) (pa_cons pe_int pa_nil))) (pv 3)) pa_nil)) (blkOk_by (own := [("_law_k", 6)]) (N := ["_law_cells_here", "_law_kind", "_law_size", "_law_extra", "_law_leaves", "_law_index", "_law_k"]) (sc := defScope s__law_heap) (by decide +kernel)) (fun _ _ _ _ _ => (pg_name (i := 6) sc__law_heap.nd rfl (by first | exact .inl rfl | exact .inr rfl))) (fun _ _ _ _ _ => pts_nil) (fun _ _ _ _ _ => (pe_tup (pa_cons (pc T._law_pick G__law_pick (hr.mono (by decide)) (by rfl) (pa_cons (pv 0) (pa_cons (pv 2) pa_nil))) (pa_cons (pc T._law_pick G__law_pick (hr.mono (by decide)) (by rfl) (pa_cons (pv 0) (pa_cons (pv 2) pa_nil))) pa_nil)))))) pss_nil)
      (Evl.pss_cut (ps_if (pt_cmpR op_eq (pv 1) pe_int (nomark _)) (pss_cons (ps_set (i := 5) sc__law_heap.nd rfl (by first | exact .inl rfl | exact .inr rfl) (pc T._law_pick G__law_pick (hr.mono (by decide)) (by rfl) (pa_cons (pv 0) (pa_cons (pe_callB (r := rLenQ K) call_len_seq (by rfl) T.z_len (by decide +kernel) (pa_cons (pv 4) pa_nil)) pa_nil))))
      (pss_one (ps_asg (pe_tup (pa_cons (pe_ix (r := rIx K) ix_seq (pe_ix (r := rIx K) ix_seq (pv 4) (pv 5) (fun _ _ => rfl)) pe_int (fun _ _ => rfl)) (pa_cons (pc T._law_pick G__law_pick (hr.mono (by decide)) (by rfl) (pa_cons (pv 0) (pa_cons (pv 2) pa_nil))) pa_nil))) (pg_sub (pv 4) (pv 5) set_list)))) pss_nil)
      (pss_one (ps_ret (pe_tup (pa_cons (pv 2) (pa_cons (pe_callTy (r := rTupQ K) call_tuple_of (by rfl) T.z_tuple (by decide +kernel) (pa_cons (pv 4) pa_nil)) pa_nil)))))))))))), ?_⟩
    have pk : ∀ {σ : L2.St} {H1 : Hp} {lim : Int} , Tabs τ H1 → σ[0]? = some (some (.ref p)) → 0 < lim → Cl K H1 p → Rn τ [p] (tCall (spPick τ K) [] L2.E0 (tCons (tVar 0) (tCons (tC (.int lim)) tNil))) σ H1 fun z H2 => ∃ r, z = .int r ∧ 0 ≤ r ∧ r < lim ∧ Cl K H2 p := fun tb hs hl c => rn_pick tb (ea_cons (ei_var hs (.ptr p)) (ea_cons ei_i ea_nil)) hl c
    -- size
    refine s_asg (rn_opR (K := K) tb ei_i (fun H1 g1 => pk g1.tabs rfl (by decide) (hc.up0 g1)) fun z H2 hz => ⟨_, hz.choose_spec.1⟩) fun v H1 g1 hv => ?_
    obtain ⟨r, rfl, r', hrr, r0, r1, c1⟩ := hv
    have hrr := V.int.inj hrr
    refine ⟨fun σ H' => ∃ n, σ = [some (.ref p), some (.int kd), some (.int n), none, none, none, none] ∧ 1 ≤ n ∧ n ≤ 10 ∧ G τ [p] H H' ∧ Cl K H' p, ?_, fun σ H2 hP => ?_⟩
    · refine rt_eq (pk g1.tabs rfl (by decide) c1) fun b H2 g2 c2 => ?_
      cases b with
      | true =>
        refine iteT ?_
        refine s_asg (rn_opR (K := K) g2.tabs ei_i (fun H1 g1 => pk g1.tabs rfl (by decide) (c2.up0 g1)) fun z H2 hz => ⟨_, hz.choose_spec.1⟩) fun v H3 g3 hv => ?_
        obtain ⟨x, rfl, x', hxx, x0, x1, c3⟩ := hv
        have hxx := V.int.inj hxx
        exact ⟨_, rfl, by omega, by omega, (g1.trans g2).trans g3, c3⟩
      | false =>
        refine iteF ?_
        exact ⟨_, rfl, by omega, by omega, g1.trans g2, c2⟩
    obtain ⟨n, rfl, n0, n1, g, c2⟩ := hP
    -- extra
    refine s_asg (pk g.tabs rfl (by decide) c2) fun v H3 g3 hv => ?_
    obtain ⟨x, rfl, x0, x1, c3⟩ := hv
    refine ⟨fun σ H' => ∃ x, σ = [some (.ref p), some (.int kd), some (.int n), some (.int x), none, none, none] ∧ 0 ≤ x ∧ x ≤ 30 ∧ G τ [p] H H' ∧ Cl K H' p, ?_, fun σ H4 hP => ?_⟩
    · refine rt_eq (pk g3.tabs rfl (by decide) c3) fun b H4 g4 c4 => ?_
      cases b with
      | true =>
        refine iteT ?_
        refine s_asg (rn_opR (K := K) g4.tabs ei_i (fun H1 g1 => pk g1.tabs rfl (by decide) (c4.up0 g1)) fun z H2 hz => ⟨_, hz.choose_spec.1⟩) fun v H5 g5 hv => ?_
        obtain ⟨y, rfl, y', hyy, y0, y1, c5⟩ := hv
        have hyy := V.int.inj hyy
        exact ⟨_, rfl, by omega, by omega, ((g.trans g3).trans g4).trans g5, c5⟩
      | false =>
        refine iteF ?_
        exact ⟨_, rfl, by omega, by omega, (g.trans g3).trans g4, c4⟩
    obtain ⟨x, rfl, x0, x1, g, c4⟩ := hP
    -- leaves
    refine r_call (K := K) g.tabs (ea_cons (ei_var (i := 0) rfl (.ptr p)) (ea_cons (ei_var (i := 2) rfl (.int n)) (ea_cons (ei_var (i := 3) rfl (.int x)) ea_nil))) fun vs H5 g5 hvs => ?_
    obtain ⟨a, b, c, rfl, h1, h2, h3⟩ : ∃ a b c, vs = [a, b, c] ∧ Im K H5 a (.ptr p) ∧ Im K H5 b (.int n) ∧ Im K H5 c (.int x) := by
      cases hvs with
      | cons h r =>
        obtain ⟨b, c, rfl, h2, h3⟩ := ima2 r
        exact ⟨_, b, c, rfl, h, h2, h3⟩
    rw [im_ptr h1, im_int h2, im_int h3]
    refine ⟨p, n, x, rfl, g5.tabs, c4.up0 g5, n0, n1, x0, x1, fun o ls H6 g6 no ho l0 l1 hb c6 => ?_⟩
    have no5 : Nw H o := by
      intro u hu
      by_cases hop : o ∈ [p]
      · exfalso
        have e := List.mem_singleton.mp hop
        obtain ⟨cs, ws', z, _⟩ := c4.up0 g5
        rw [e] at no
        obtain ⟨ps, z'⟩ := no _ z
        cases z'
      · exact no.back (g.trans g5.wide) hop u hu
    have pkn : ∀ {σ : L2.St} {H1 : Hp} , Tabs τ H1 → σ[0]? = some (some (.ref p)) → σ[2]? = some (some (.int n)) → Cl K H1 p → Rn τ [p] (tCall (spPick τ K) [] L2.E0 (tCons (tVar 0) (tCons (tVar 2) tNil))) σ H1 fun z H2 => ∃ r, z = .int r ∧ 0 ≤ r ∧ r < n ∧ Cl K H2 p := fun tb hs hs2 c => rn_pick tb (ea_cons (ei_var hs (.ptr p)) (ea_cons (ei_var hs2 (.int n)) ea_nil)) (by omega) c
    refine ⟨fun σ H' => ∃ (o : Addr) (ls : List (Int × Int)) (v5 v6 : Option V), σ = [some (.ref p), some (.int kd), some (.int n), some (.int x), some (.ref o), v5, v6] ∧ Nw H o ∧ Ls K H' o (ls.map prD) ∧ (kd = 2 → 1 ≤ ls.length) ∧ ls.length ≤ 100 ∧ (∀ l ∈ ls, inR n l) ∧ G τ [p] H H' ∧ Cl K H' p, ?_, fun σ H7 hP => ?_⟩
    · refine s_if g6.tabs (et_test (K := K) (ei_eqI (ei_var (i := 1) rfl (.int kd)) ei_i)) (fun e H7 g7 => ?_) fun e H7 g7 => ?_
      · have ek : kd = 1 := of_decide_eq_true e
        have c7 := c6.up0 g7
        refine s_asg (rn_lcC2 (τ := τ) (K := K) (p := p) (N := 40) (fun d => ∃ l, d = prD l ∧ inR n l) (fun Q2 q2 => rn_opL (K := K) (rn_pick (lim := 10) g7.tabs (ea_cons (ei_var (i := 0) rfl (.ptr p)) (ea_cons ei_i ea_nil)) (by decide) c7) (fun z H2 hz => ⟨_, hz.choose_spec.1⟩) (fun H8 g8 => ei_var (i := 3) rfl (.int x))
          (fun z H8 H9 hz g9 => ?_) Q2 fun z H8 g8 hz => ?_) (by decide) (fun _ => rfl) fun i H9 g9 c9 => ?_) fun z H9 g9 hz => ?_
        · obtain ⟨m, rfl, m0, m1, c⟩ := hz
          exact ⟨m, rfl, m0, m1, c.up0 g9⟩
        · obtain ⟨m, rfl, m', hm, m0, m1, c8⟩ := hz
          have hm := V.int.inj hm
          exact q2 _ H8 g8 ⟨_, rfl, by omega, by omega, c8⟩
        · refine fun Q2 q2 => pkn g9.tabs rfl rfl c9 _ fun z H10 g10 hz => ?_
          obtain ⟨r, rfl, r0, r1, c10⟩ := hz
          refine pkn g10.tabs rfl rfl c10 _ fun z H11 g11 hz => ?_
          obtain ⟨r', rfl, r0', r1', c11⟩ := hz
          refine ⟨(show 2 ≤ sizeLine by decide), fun t ht => ?_⟩
          have gn : G τ [] H11 (upd H11 t (.tup [.int r, .int r'])) := G.new g11.tabs ht
          exact q2 _ _ ((g10.trans g11).trans gn.wide) ⟨prD (r, r'), .tup (SqT.of upd_same) (.cons (.int _) (.cons (.int _) .nil)), ⟨_, rfl, ⟨r0, r1⟩, ⟨r0', r1'⟩⟩, c11.up0 gn⟩
        · obtain ⟨t, es, rfl, nt, ntp, ht, hl, hb2, c9'⟩ := hz
          obtain ⟨ls2, rfl, hb3⟩ := prs_of hb2
          rw [List.length_map] at hl
          have gg : G τ [p] H H7 := ((g.trans g5.wide).trans g6).trans g7.wide
          exact ⟨t, ls2, none, none, rfl, Nw.backP gg ntp nt, ht, fun z => by omega, by omega, hb3, gg.trans g9, c9'⟩
      · exact ⟨o, ls, none, none, rfl, no5, ho.up0 g7, fun _ => l0, by omega, hb, ((g.trans g5.wide).trans g6).trans g7.wide, c6.up0 g7⟩
    obtain ⟨o, ls, v5, v6, rfl, no, ho, l0, l1, hb, gg, c7⟩ := hP
    have npo : p ≠ o := Nw.neCl no hc
    refine ⟨fun σ H' => ∃ (ls : List (Int × Int)) (v5 v6 : Option V), σ = [some (.ref p), some (.int kd), some (.int n), some (.int x), some (.ref o), v5, v6] ∧ Ls K H' o (ls.map prD) ∧ ls.length ≤ 100 ∧ (∀ l ∈ ls, inR n l) ∧ G τ [p] H H' ∧ Cl K H' p, ?_, fun σ H8 hP => ?_⟩
    · refine s_if gg.tabs (et_test (K := K) (ei_eqI (ei_var (i := 1) rfl (.int kd)) ei_i)) (fun e H8 g8 => ?_) fun e H8 g8 => ?_
      · have ek : kd = 2 := of_decide_eq_true e
        have l0 := l0 ek
        have ho8 := ho.up0 g8
        have hll : (ls.map prD).length = ls.length := List.length_map ..
        refine s_asg (rn_pick (lim := (ls.length : Int)) g8.tabs (ea_cons (ei_var (i := 0) rfl (.ptr p)) (ea_cons (ei_is (ei_lenL (ei_var (i := 4) rfl (.ptr o)) ho8.lr) (by rw [hll])) ea_nil)) (by omega) (c7.up0 g8)) fun v H9 g9 hv => ?_
        obtain ⟨k, rfl, k0, k1, c9⟩ := hv
        have ho9 := ho8.up g9 (by simp [npo.symm])
        obtain ⟨j, rfl⟩ : ∃ j : Nat, k = (j : Int) := ⟨k.toNat, by omega⟩
        have hj : j < ls.length := by omega
        have hmj : ls.getD j (0, 0) ∈ ls := List.mem_of_getElem? (getD_of hj)
        -- the pair
        refine (ei_ixT (ei_ixL (ei_var (i := 4) rfl (.ptr o)) ho9.lr (ei_var (i := 5) rfl (.int _)) (at_leaf hj)) ei_i rfl) H9 (.refl g9.tabs) _ fun z H10 g10 hz => ?_
        rw [im_int hz]
        refine pkn g10.tabs rfl rfl (c9.up0 g10) _ fun z H11 g11 hz => ?_
        obtain ⟨r, rfl, r0, r1, c11⟩ := hz
        refine ⟨(show 2 ≤ sizeLine by decide), fun t ht => ?_⟩
        have gn : G τ [] H11 (upd H11 t (.tup [.int (ls.getD j (0, 0)).1, .int r])) := G.new g11.tabs ht
        obtain ⟨vs, w1, w2⟩ := ((ho9.up0 g10).up g11 (by simp [npo.symm])).up0 gn
        have hz : Im K (upd H11 t (.tup [.int (ls.getD j (0, 0)).1, .int r])) (.ref t) (prD ((ls.getD j (0, 0)).1, r)) := .tup (SqT.of upd_same) (.cons (.int _) (.cons (.int _) .nil))
        refine ⟨.ref o, rfl, .int (j : Int), rfl, o, vs, (j : Int), j, rfl, rfl, w1, ?_, ?_⟩
        · have hl := w2.length
          rw [hll] at hl
          unfold ixN
          rw [if_pos (by omega), if_pos (by omega)]
          rfl
        · refine ⟨ls.set j ((ls.getD j (0, 0)).1, r), some (.int (j : Int)), v6, rfl, ⟨_, upd_same, ?_⟩, by rw [List.length_set]; exact l1, fun l hl => ?_, ?_, ?_⟩
          · rw [List.map_set]
            exact (ImA.put j hz w2).putH w1
          · rcases mem_set_of hl with hl | rfl
            · exact hb l hl
            · exact ⟨(hb _ hmj).1, r0, r1⟩
          · exact (((((gg.trans g8.wide).trans g9).trans g10.wide).trans g11).trans gn.wide).put (.inr no) w1
          · exact (c11.up0 gn).put npo w1
      · exact ⟨ls, v5, v6, rfl, ho.up0 g8, l1, hb, gg.trans g8.wide, c7.up0 g8⟩
    obtain ⟨ls, v5, v6, rfl, ho, l1, hb, gg, c8⟩ := hP
    refine s_ret (K := K) gg.tabs (d := hD n ls) (ei_tup (ea_cons (ei_var (i := 2) rfl (.int n)) (ea_cons (ei_tupL (ei_var (i := 4) rfl (.ptr o)) ho.lr) ea_nil)) (show 2 ≤ 100000 by decide)) fun v H9 g9 hv => q v n ls H9 (gg.trans g9.wide) hv n0 n1 l1 hb (c8.up0 g9)
end
end K01
namespace K01
open PySem PySem.Spec PyProof.Rows L2 LamX NdefX Clo LRev U
section
variable {P : Program} {w : World} {K : PySem.W.Frag} {mg : Str → Option Value} {base : Heap} {τ : TL}
theorem s_unpack2 {σ : L2.St} {H : Hp} {te : TE} {i j : Nat} {d1 d2 : D} {Dn : Ends} (tb : Tabs τ H) (h : EvI τ K te σ H (.tup [d1, d2])) (k : ∀ v1 v2 H1, G τ [] H H1 → Im K H1 v1 d1 → Im K H1 v2 d2 → Dn.nx ((σ.set i (some v1)).set j (some v2)) H1) : tAsg te (gTup K 2 (gCons (gName i) (gCons (gName j) gNil))) Dn σ H :=
  h H (.refl tb) _ fun v H1 g hv => by
    obtain ⟨a, xs, rfl, h1, h2⟩ := im_tup hv
    obtain ⟨x, y, rfl, h3, h4⟩ := ima2 h2
    exact ⟨a, _, rfl, h1, rfl, x, _, rfl, y, _, rfl, rfl, k x y H1 g h3 h4⟩
theorem r_ev {σ : L2.St} {H : Hp} {te : TE} {d : D} {Q : VK} (tb : Tabs τ H) (h : EvI τ K te σ H d) (q : ∀ v H1, G τ [] H H1 → Im K H1 v d → Q v H1) : te σ H Q := h H (.refl tb) Q q
theorem Rn_imp {σ : L2.St} {H : Hp} {te : TE} {ms : List Addr} {A B : V → Hp → Prop} (h : Rn τ ms te σ H A) (i : ∀ z H2, A z H2 → B z H2) : Rn τ ms te σ H B := fun Q q => h Q fun z H2 g hz => q z H2 g (i z H2 hz)
theorem rn_tupN {σ : L2.St} {H : Hp} {te : TE} {ms : List Addr} {B : List D → Hp → Prop} (h : Rn τ ms te σ H fun z H2 => ∃ t ds, z = .ref t ∧ Ls K H2 t ds ∧ B ds H2) (hB : ∀ ds H1 H2, B ds H1 → G τ [] H1 H2 → B ds H2) : Rn τ ms (tCB (rTupQ K) (tCons te tNil)) σ H fun z H2 => ∃ ds, Im K H2 z (.tup ds) ∧ B ds H2 := fun Q q =>
  h _ fun z H2 g hz => by
    obtain ⟨t, ds, rfl, ⟨ws, h1, h2⟩, hb⟩ := hz
    refine ⟨t, ws, rfl, .inl ⟨SqL.of h1, fun l hl => ?_⟩⟩
    have gn : G τ [] H2 (upd H2 l (.tup ws)) := G.new g.tabs hl
    exact q _ _ (g.trans gn.wide) ⟨ds, .tup (SqT.of upd_same) (h2.up gn), hB _ _ _ hb gn⟩
def spTwin (τ : TL) (K : PySem.W.Frag) : Sp := fun vs H Q _ => ∃ (p : Addr) (x : V) (n : Int) (ls : List (Int × Int)), vs = [.ref p, x] ∧ Tabs τ H ∧ Cl K H p ∧ Im K H x (hD n ls) ∧ 1 ≤ n ∧ n ≤ 10 ∧ ls.length ≤ 100 ∧ (∀ l ∈ ls, inR n l) ∧
  ∀ (v : V) (ls : List (Int × Int)) (H2 : Hp), G τ [p] H H2 → Im K H2 v (hD n ls) → ls.length ≤ 100 → (∀ l ∈ ls, inR n l) → Cl K H2 p → Q v H2
theorem ok__law_twin (T : Txt K mg) : FnOk P w K mg base L2.CX0 2 T._law_twin.f T._law_twin.fd ["_law_cells_here", "_law_pile"] (spTwin τ K) := by
  have G__law_pick : FnOk P w K mg base L2.CX0 1 T._law_pick.f T._law_pick.fd _ _ := ok__law_pick (τ := τ) T
  refine T._law_twin.F.ok sc__law_twin (fun vs H Q E h => ?_) (fun cdv A outer s H vs Q E hr h => ?_)
  · obtain ⟨_, _, _, _, rfl, _⟩ := h
    rfl
  · obtain ⟨p, x, n, ls, rfl, tb, hc, hx, n0, n1, l1, hb, q⟩ := h
    refine ⟨_, (pss_cons (ps_asg (pv 1) (pg_tup rfl (pgs_cons (pg_name (i := 4) sc__law_twin.nd rfl (by first | exact .inl rfl | exact .inr rfl)) (pgs_cons (pg_name (i := 5) sc__law_twin.nd rfl (by first | exact .inl rfl | exact .inr rfl)) pgs_nil))))
      (pss_cons (ps_set (i := 2) sc__law_twin.nd rfl (by first | exact .inl rfl | exact .inr rfl) (pe_callTy (r := rLstQ K) call_list_of (by rfl) T.z_list (by decide +kernel) (pa_cons (pv 5) pa_nil)))
      (pss_cons (ps_if (pt_cmpR op_eq (pe_callB (r := rLenQ K) call_len_seq (by rfl) T.z_len (by decide +kernel) (pa_cons (pv 2) pa_nil)) pe_int (nomark _)) (pss_one (ps_ret (pe_tup (pa_cons (pv 4) (pa_cons (pe_tup (pa_cons (pe_tup (pa_cons (pe_op op_sub (pv 4) pe_int) (pa_cons pe_int pa_nil))) pa_nil)) pa_nil))))) pss_nil)
      (pss_cons (ps_set (i := 3) sc__law_twin.nd rfl (by first | exact .inl rfl | exact .inr rfl) (pc T._law_pick G__law_pick (hr.mono (by decide)) (by rfl) (pa_cons (pv 0) (pa_cons (pe_callB (r := rLenQ K) call_len_seq (by rfl) T.z_len (by decide +kernel) (pa_cons (pv 2) pa_nil)) pa_nil))))
      (Evl.pss_cut (ps_if (pt_cmpR op_eq (pc T._law_pick G__law_pick (hr.mono (by decide)) (by rfl) (pa_cons (pv 0) (pa_cons pe_int pa_nil))) pe_int (nomark _)) (pss_one (ps_asg (pe_tup (pa_cons (pe_ix (r := rIx K) ix_seq (pe_ix (r := rIx K) ix_seq (pv 2) (pv 3) (fun _ _ => rfl)) pe_int (fun _ _ => rfl)) (pa_cons (pe_ix (r := rIx K) ix_seq (pe_ix (r := rIx K) ix_seq (pv 2) (pv 3) (fun _ _ => rfl)) pe_int (fun _ _ => rfl)) pa_nil))) (pg_sub (pv 2) (pv 3) set_list))) (pss_one (ps_asg (pe_tup (pa_cons (pc T._law_pick G__law_pick (hr.mono (by decide)) (by rfl) (pa_cons (pv 0) (pa_cons (pv 4) pa_nil))) (pa_cons (pc T._law_pick G__law_pick (hr.mono (by decide)) (by rfl) (pa_cons (pv 0) (pa_cons (pv 4) pa_nil))) pa_nil))) (pg_sub (pv 2) (pv 3) set_list))))
      (pss_one (ps_ret (pe_tup (pa_cons (pv 4) (pa_cons (pe_callTy (r := rTupQ K) call_tuple_of (by rfl) T.z_tuple (by decide +kernel) (pa_cons (pv 2) pa_nil)) pa_nil)))))))))), ?_⟩
    refine s_unpack2 tb (ei_var (i := 1) rfl hx) fun v1 v2 H1 g1 hv1 hv2 => ?_
    rw [im_int hv1]
    refine s_asgN (K := K) g1.tabs (en_lstT (ei_var (i := 5) rfl hv2)) fun o H2 g2 no ho => ?_
    have hll : (ls.map prD).length = ls.length := List.length_map ..
    have g02 := g1.trans g2
    have no0 : Nw H o := no.back0 g1
    have npo : p ≠ o := Nw.neCl no0 hc
    have c2 := hc.up0 g02
    refine s_if g2.tabs (et_test (K := K) (ei_eqI (ei_lenL (ei_var (i := 2) rfl (.ptr o)) ho.lr) ei_i)) (fun e H3 g3 => ?_) fun e H3 g3 => ?_
    · refine s_ret (K := K) g3.tabs (d := hD n [(n - 1, 0)]) (ei_tup (ea_cons (ei_var (i := 4) rfl (.int n)) (ea_cons (ei_tup (ea_cons (ei_tup (ea_cons (ei_sub (ei_var (i := 4) rfl (.int n)) ei_i) (ea_cons ei_i ea_nil)) (show 2 ≤ 100000 by decide)) ea_nil) (show 1 ≤ 100000 by decide)) ea_nil)) (show 2 ≤ 100000 by decide)) fun v H4 g4 hv => ?_
      refine q v [(n - 1, 0)] H4 ((g02.trans g3).trans g4).wide hv (show 1 ≤ 100 by decide) (fun l hl => ?_) ((c2.up0 g3).up0 g4)
      rw [List.mem_singleton.mp hl]
      exact ⟨⟨by omega, by omega⟩, by omega, by omega⟩
    · have e' : ¬ ((ls.map prD).length : Int) = 0 := of_decide_eq_false e
      have l0 : 0 < ls.length := by rw [hll] at e'; omega
      have ho3 := ho.up0 g3
      refine s_asg (rn_pick (lim := (ls.length : Int)) g3.tabs (ea_cons (ei_var (i := 0) rfl (.ptr p)) (ea_cons (ei_is (ei_lenL (ei_var (i := 2) rfl (.ptr o)) ho3.lr) (by rw [hll])) ea_nil)) (by omega) (c2.up0 g3)) fun v H4 g4 hv => ?_
      obtain ⟨k, rfl, k0, k1, c4⟩ := hv
      obtain ⟨j, rfl⟩ : ∃ j : Nat, k = (j : Int) := ⟨k.toNat, by omega⟩
      have hj : j < ls.length := by omega
      have ho4 := ho3.up g4 (by simp [npo.symm])
      have g04 : G τ [p] H H4 := (g02.trans g3).wide.trans g4
      have hmj : ls.getD j (0, 0) ∈ ls := List.mem_of_getElem? (getD_of hj)
      -- the end of a change
      have chg : ∀ {H5 : Hp} {t : Addr} {vs : List V} {a b : Int}, G τ [p] H H5 → Cl K H5 p → H5 o = some (.lst vs) → ImA K H5 vs (ls.map prD) → Im K H5 (.ref t) (prD (a, b)) → inI n a → inI n b →
          ∃ ls' : List (Int × Int), Ls K (upd H5 o (.lst (vs.set j (.ref t)))) o (ls'.map prD) ∧ ls'.length ≤ 100 ∧ (∀ l ∈ ls', inR n l) ∧ G τ [p] H (upd H5 o (.lst (vs.set j (.ref t)))) ∧ Cl K (upd H5 o (.lst (vs.set j (.ref t)))) p := fun {H5 t vs a b} g c w1 w2 hz ha hb2 => by
        refine ⟨ls.set j (a, b), ⟨_, upd_same, ?_⟩, by rw [List.length_set]; exact l1, fun l hl => ?_, g.put (.inr no0) w1, c.put npo w1⟩
        · rw [List.map_set]
          exact (ImA.put j hz w2).putH w1
        · rcases mem_set_of hl with hl | rfl
          · exact hb l hl
          · exact ⟨ha, hb2⟩
      have ixok : ∀ {vs : List V} {H5 : Hp}, ImA K H5 vs (ls.map prD) → ixN vs.length (j : Int) = some j := fun {vs H5} w2 => by
        have hl := w2.length
        rw [hll] at hl
        unfold ixN
        rw [if_pos (by omega), if_pos (by omega)]
        rfl
      refine ⟨fun σ H' => ∃ ls' : List (Int × Int), σ = [some (.ref p), some x, some (.ref o), some (.int (j : Int)), some (.int n), some v2] ∧ Ls K H' o (ls'.map prD) ∧ ls'.length ≤ 100 ∧ (∀ l ∈ ls', inR n l) ∧ G τ [p] H H' ∧ Cl K H' p, ?_, fun σ H8 hP => ?_⟩
      · refine rt_eq (rn_pick (lim := 2) g4.tabs (ea_cons (ei_var (i := 0) rfl (.ptr p)) (ea_cons ei_i ea_nil)) (by decide) c4) fun b H5 g5 c5 => ?_
        have ho5 := ho4.up g5 (by simp [npo.symm])
        have g05 := g04.trans g5
        cases b with
        | true =>
          refine iteT ?_
          refine r_ev (d := prD ((ls.getD j (0, 0)).2, (ls.getD j (0, 0)).1)) g5.tabs (ei_tup (ea_cons (ei_ixT (ei_ixL (ei_var (i := 2) rfl (.ptr o)) ho5.lr (ei_var (i := 3) rfl (.int _)) (at_leaf hj)) ei_i rfl) (ea_cons (ei_ixT (ei_ixL (ei_var (i := 2) rfl (.ptr o)) ho5.lr (ei_var (i := 3) rfl (.int _)) (at_leaf hj)) ei_i rfl) ea_nil)) (show 2 ≤ 100000 by decide)) fun z H6 g6 hz => ?_
          obtain ⟨t, ws, rfl, _⟩ := im_tup hz
          obtain ⟨vs, w1, w2⟩ := ho5.up0 g6
          obtain ⟨ls', r1, r2, r3, r4, r5⟩ := chg (g05.trans g6.wide) (c5.up0 g6) w1 w2 hz (hb _ hmj).2 (hb _ hmj).1
          exact ⟨.ref o, rfl, .int (j : Int), rfl, o, vs, (j : Int), j, rfl, rfl, w1, ixok w2, ls', rfl, r1, r2, r3, r4, r5⟩
        | false =>
          refine iteF ?_
          refine rn_pick (lim := n) g5.tabs (ea_cons (ei_var (i := 0) rfl (.ptr p)) (ea_cons (ei_var (i := 4) rfl (.int n)) ea_nil)) (by omega) c5 _ fun z H6 g6 hz => ?_
          obtain ⟨r, rfl, r0, r1, c6⟩ := hz
          refine rn_pick (lim := n) g6.tabs (ea_cons (ei_var (i := 0) rfl (.ptr p)) (ea_cons (ei_var (i := 4) rfl (.int n)) ea_nil)) (by omega) c6 _ fun z H7 g7 hz => ?_
          obtain ⟨r', rfl, r0', r1', c7⟩ := hz
          refine ⟨(show 2 ≤ sizeLine by decide), fun t ht => ?_⟩
          have gn : G τ [] H7 (upd H7 t (.tup [.int r, .int r'])) := G.new g7.tabs ht
          obtain ⟨vs, w1, w2⟩ := ((ho5.up g6 (by simp [npo.symm])).up g7 (by simp [npo.symm])).up0 gn
          obtain ⟨ls', q1, q2, q3, q4, q5⟩ := chg (t := t) (a := r) (b := r') (((g05.trans g6).trans g7).trans gn.wide) (c7.up0 gn) w1 w2 (.tup (SqT.of upd_same) (.cons (.int _) (.cons (.int _) .nil))) ⟨r0, r1⟩ ⟨r0', r1'⟩
          exact ⟨.ref o, rfl, .int (j : Int), rfl, o, vs, (j : Int), j, rfl, rfl, w1, ixok w2, ls', rfl, q1, q2, q3, q4, q5⟩
      · obtain ⟨ls', rfl, ho, l1, hb, gg, c8⟩ := hP
        exact s_ret (K := K) gg.tabs (d := hD n ls') (ei_tup (ea_cons (ei_var (i := 4) rfl (.int n)) (ea_cons (ei_tupL (ei_var (i := 2) rfl (.ptr o)) ho.lr) ea_nil)) (show 2 ≤ 100000 by decide)) fun v H9 g9 hv => q v ls' H9 (gg.trans g9.wide) hv l1 hb (c8.up0 g9)
/-! ### lots -/
def lotD (l : List Int) : D := .tup (l.map D.int)
theorem asc_pair : ∀ {l : List Int}, l.Pairwise (· < ·) → ascends l = true
  | [], _ => rfl
  | [_], _ => rfl
  | a :: b :: r, h => by
    have h1 := (List.pairwise_cons.mp h).1 b List.mem_cons_self
    have h2 := asc_pair (List.pairwise_cons.mp h).2
    show (decide (a < b) && ascends (b :: r)) = true
    rw [h2, decide_eq_true h1]
    rfl
theorem lot_filter (f : Nat → Bool) (n : Int) (hn : 0 ≤ n) : lotOk n (((List.range n.toNat).filter f).map fun i => ((i : Nat) : Int)) = true := by
  unfold lotOk
  rw [asc_pair, Bool.and_true]
  · rw [List.all_eq_true]
    intro x hx
    obtain ⟨i, hi, rfl⟩ := List.mem_map.mp hx
    have := List.mem_range.mp (List.mem_filter.mp hi).1
    rw [decide_eq_true (by omega), decide_eq_true (by omega)]
    rfl
  · refine List.Pairwise.map _ (fun a b h => ?_) (List.Pairwise.filter _ List.pairwise_lt_range)
    omega
def spLots (τ : TL) (K : PySem.W.Frag) : Sp := fun vs H Q _ => ∃ (p : Addr) (n : Int), vs = [.ref p, .int n] ∧ Tabs τ H ∧ Cl K H p ∧ 1 ≤ n ∧ n ≤ 10 ∧
  ∀ (o : Addr) (ts : List (List Int)) (H2 : Hp), G τ [p] H H2 → Nw H o → Ls K H2 o (ts.map lotD) → (∀ t ∈ ts, lotOk n t = true ∧ t.length ≤ 1000) → Cl K H2 p → Q (.ref o) H2
theorem ok__law_lots (T : Txt K mg) : FnOk P w K mg base L2.CX0 2 T._law_lots.f T._law_lots.fd ["_law_cells_here", "_law_size"] (spLots τ K) := by
  have G__law_pick : FnOk P w K mg base L2.CX0 1 T._law_pick.f T._law_pick.fd _ _ := ok__law_pick (τ := τ) T
  refine T._law_lots.F.ok sc__law_lots (fun vs H Q E h => ?_) (fun cdv A outer s H vs Q E hr h => ?_)
  · obtain ⟨_, _, rfl, _⟩ := h
    rfl
  · obtain ⟨p, n, rfl, tb, hc, n0, n1, q⟩ := h
    refine ⟨_, (pss_cons (ps_if (pt_cmpR op_eq (pv 1) pe_int (nomark _)) (pss_one (ps_ret (pe_lst (pa_cons (pe_tup pa_nil) (pa_cons (pe_tup (pa_cons pe_int pa_nil)) pa_nil))))) pss_nil)
      (pss_cons (ps_if (pt_cmpR op_eq (pv 1) pe_int (nomark _)) (pss_one (ps_ret (pe_lst (pa_cons (pe_tup pa_nil) (pa_cons (pe_tup (pa_cons pe_int pa_nil)) (pa_cons (pe_tup (pa_cons pe_int pa_nil)) (pa_cons (pe_tup (pa_cons pe_int (pa_cons pe_int pa_nil))) pa_nil))))))) pss_nil)
      (pss_cons (ps_if (pt_cmpR op_eq (pv 1) pe_int (nomark _)) (pss_one (ps_ret (pe_lst (pa_cons (pe_tup pa_nil) (pa_cons (pe_tup (pa_cons pe_int pa_nil)) (pa_cons (pe_tup (pa_cons pe_int pa_nil)) (pa_cons (pe_tup (pa_cons pe_int pa_nil)) (pa_cons (pe_tup (pa_cons pe_int (pa_cons pe_int pa_nil))) (pa_cons (pe_tup (pa_cons pe_int (pa_cons pe_int pa_nil))) (pa_cons (pe_tup (pa_cons pe_int (pa_cons pe_int pa_nil))) (pa_cons (pe_tup (pa_cons pe_int (pa_cons pe_int (pa_cons pe_int pa_nil)))) pa_nil))))))))))) pss_nil)
      (pss_cons (ps_set (i := 2) sc__law_lots.nd rfl (by first | exact .inl rfl | exact .inr rfl) (pe_lst (pa_cons (pe_tup pa_nil) (pa_cons (pe_callTy (r := rTupQ K) call_tuple_of (by rfl) T.z_tuple (by decide +kernel) (pa_cons (pe_listRg rfl (by rfl) T.z_list (prg_1 (by rfl) T.z_range (pv 1))) pa_nil)) pa_nil))))
      (pss_cons (ps_for PassesOwn.never rfl (pi_range1 (by rfl) T.z_range (pa_cons pe_int pa_nil)) (pg_name (i := 3) sc__law_lots.nd rfl (by first | exact .inl rfl | exact .inr rfl)) (pss_one (ps_expr (pe_bm PySem.F.plainAttrs_list PySem.F.slot_list_append PySem.F.type_list_append mt_append (pv 2) (pa_cons (pe_callTy (r := rTupQ K) call_tuple_of (by rfl) T.z_tuple (by decide +kernel) (pa_cons (pe_lc (own := [("_law_w", 4)]) (g := (gName 4)) (tt := _) rfl sc__law_lots.nd (pi_range1 (by rfl) T.z_range (pa_cons (pv 1) pa_nil)) (blkOk_by (own := [("_law_w", 4)]) (N := ["_law_cells_here", "_law_size", "_law_lots_here", "_law_k", "_law_w"]) (sc := defScope s__law_lots) (by decide +kernel)) (fun _ _ _ _ _ => (pg_name (i := 4) sc__law_lots.nd rfl (by first | exact .inl rfl | exact .inr rfl))) (fun _ _ _ _ _ => pts_one (pt_cmpR op_gt (pc T._law_pick G__law_pick (hr.mono (by decide)) (by rfl) (pa_cons (pv 0) (pa_cons pe_int pa_nil))) (pe_op op_mod (pe_callTy call_int1 (by rfl) T.z_int (by decide +kernel) (pa_cons (pv 3) pa_nil)) pe_int) (nomark _))) (fun _ _ _ _ _ => (pv 4))) pa_nil)) pa_nil)))))
      (pss_one (ps_ret (pv 2)))))))), ?_⟩
    have t0 : ∀ {σ : L2.St} {H1 : Hp}, EvI τ K (tTup tNil) σ H1 (lotD []) := ei_tup ea_nil (by decide)
    have t1 : ∀ {σ : L2.St} {H1 : Hp} {a : Int}, EvI τ K (tTup (tCons (tC (.int a)) tNil)) σ H1 (lotD [a]) := ei_tup (ea_cons ei_i ea_nil) (show 1 ≤ 100000 by decide)
    have t2 : ∀ {σ : L2.St} {H1 : Hp} {a b : Int}, EvI τ K (tTup (tCons (tC (.int a)) (tCons (tC (.int b)) tNil))) σ H1 (lotD [a, b]) := ei_tup (ea_cons ei_i (ea_cons ei_i ea_nil)) (show 2 ≤ 100000 by decide)
    have t3 : ∀ {σ : L2.St} {H1 : Hp} {a b c : Int}, EvI τ K (tTup (tCons (tC (.int a)) (tCons (tC (.int b)) (tCons (tC (.int c)) tNil)))) σ H1 (lotD [a, b, c]) := ei_tup (ea_cons ei_i (ea_cons ei_i (ea_cons ei_i ea_nil))) (show 3 ≤ 100000 by decide)
    refine s_if tb (et_test (K := K) (ei_eqI (ei_var (i := 1) rfl (.int n)) ei_i)) (fun e H1 g1 => ?_) fun _ H1 g1 => ?_
    · have en : n = 1 := of_decide_eq_true e
      subst en
      exact s_retN (K := K) g1.tabs (en_lst (ea_cons t0 (ea_cons t1 ea_nil)) (show 2 ≤ 100000 by decide)) fun o H2 g2 no ho => q o [[], [0]] H2 (g1.trans g2).wide (no.back0 g1) ho (by decide) ((hc.up0 g1).up0 g2)
    refine s_if g1.tabs (et_test (K := K) (ei_eqI (ei_var (i := 1) rfl (.int n)) ei_i)) (fun e H2 g2 => ?_) fun _ H2 g2 => ?_
    · have en : n = 2 := of_decide_eq_true e
      subst en
      exact s_retN (K := K) g2.tabs (en_lst (ea_cons t0 (ea_cons t1 (ea_cons t1 (ea_cons t2 ea_nil)))) (show 4 ≤ 100000 by decide)) fun o H3 g3 no ho => q o [[], [0], [1], [0, 1]] H3 ((g1.trans g2).trans g3).wide (no.back0 (g1.trans g2)) ho (by decide) ((hc.up0 (g1.trans g2)).up0 g3)
    refine s_if g2.tabs (et_test (K := K) (ei_eqI (ei_var (i := 1) rfl (.int n)) ei_i)) (fun e H3 g3 => ?_) fun _ H3 g3 => ?_
    · have en : n = 3 := of_decide_eq_true e
      subst en
      exact s_retN (K := K) g3.tabs (en_lst (ea_cons t0 (ea_cons t1 (ea_cons t1 (ea_cons t1 (ea_cons t2 (ea_cons t2 (ea_cons t2 (ea_cons t3 ea_nil)))))))) (show 8 ≤ 100000 by decide)) fun o H4 g4 no ho => q o [[], [0], [1], [2], [0, 1], [0, 2], [1, 2], [0, 1, 2]] H4 (((g1.trans g2).trans g3).trans g4).wide (no.back0 ((g1.trans g2).trans g3)) ho (by decide) ((hc.up0 ((g1.trans g2).trans g3)).up0 g4)
    have g03 := (g1.trans g2).trans g3
    have hN : ∀ f : Nat → Bool, (((List.range n.toNat).filter f).map fun i => ((i : Nat) : Int)).length ≤ 1000 := fun f => by
      rw [List.length_map]
      have h := List.length_filter_le f (List.range n.toNat)
      rw [List.length_range] at h
      omega
    refine s_asgN (ds := [[], ((List.range n.toNat).filter fun _ => true).map fun i => ((i : Nat) : Int)].map lotD) g3.tabs (en_lst (ea_cons t0 (ea_cons (ei_is (ei_tupN (en_listRg1 (ei_var (i := 1) rfl (.int n)) (by omega) (by omega))) ?_) ea_nil)) (show 2 ≤ 100000 by decide)) fun o H4 g4 no ho => ?_
    · rw [List.filter_eq_self.mpr fun _ _ => rfl]
      unfold lotD
      rw [List.map_map]
      rfl
    have no0 : Nw H o := no.back0 g03
    have npo : p ≠ o := Nw.neCl no0 hc
    refine s_forR (K := K) (n := 6) g4.tabs (ea_cons ei_i ea_nil) (by decide) (fun i σ H' => ∃ (v3 v4 : Option V) (ts : List (List Int)), σ = [some (.ref p), some (.int n), some (.ref o), v3, v4] ∧ Ls K H' o (ts.map lotD) ∧ ts.length = i + 2 ∧ (∀ t ∈ ts, lotOk n t = true ∧ t.length ≤ 1000) ∧ G τ [p] H H' ∧ Cl K H' p) (fun H5 g5 => ?_) (fun i σ H5 hi hP => ?_) fun σ H5 hP => ?_
    · refine ⟨none, none, _, rfl, ho.up0 g5, rfl, fun t ht => ?_, ((g03.trans g4).trans g5).wide, ((hc.up0 g03).up0 g4).up0 g5⟩
      rcases List.mem_cons.mp ht with rfl | ht
      · exact ⟨rfl, by decide⟩
      · rw [List.mem_singleton.mp ht]
        exact ⟨lot_filter _ n (by omega), hN _⟩
    · obtain ⟨v3, v4, ts, rfl, ho, l1, hb, gg, c5⟩ := hP
      have ho' := ho
      refine r_app (ms := [p]) (A := fun z H2 => ∃ f : Nat → Bool, Im K H2 z (lotD (((List.range n.toNat).filter f).map fun i => ((i : Nat) : Int))) ∧ Cl K H2 p) gg.tabs (ei_var (i := 2) rfl (.ptr o)) ho (by simp [npo.symm]) (by rw [List.length_map]; omega) (fun H6 g6 Q2 q2 => ?_) fun z vs H6 g6 hz ho6 hvs => ?_
      · refine Rn_imp (rn_tupN (τ := τ) (K := K) (B := fun ds H2 => (∃ f : Nat → Bool, ds = outs f (fun i => .int ((i : Nat) : Int)) n.toNat) ∧ Cl K H2 p) (Rn_imp (rn_lcF (τ := τ) (K := K) (p := p) (fun i => .int ((i : Nat) : Int)) (ea_cons (ei_var (i := 1) rfl (.int n)) ea_nil) (by omega) (fun _ => rfl) (c5.up0 g6) g6.tabs (fun k H7 g7 c7 hk Q3 q3 => ?_) (fun k H7 g7 hk => ei_var (i := 4) rfl (.int _)) (by omega)) fun z H7 hz => ?_) fun ds H7 H8 hb g8 => ⟨hb.1, hb.2.up0 g8⟩) (fun z H7 hz => ?_) Q2 q2
        · refine rn_pick (lim := 3) g7.tabs (ea_cons (ei_var (i := 0) rfl (.ptr p)) (ea_cons ei_i ea_nil)) (by decide) c7 _ fun z H8 g8 hz => ?_
          obtain ⟨r, rfl, r0, r1, c8⟩ := hz
          refine r_ev g8.tabs (ei_mod (K := K) (ei_intI (ei_var (i := 3) rfl (.int _))) ei_i (by decide)) fun z H9 g9 hz => ?_
          exact ⟨r, _, rfl, im_int hz, _, rfl, q3 _ H9 (g8.trans g9.wide) (c8.up0 g9)⟩
        · obtain ⟨t, f, rfl, nt, ntp, ht, c7⟩ := hz
          exact ⟨t, _, rfl, ht, ⟨f, rfl⟩, c7⟩
        · obtain ⟨ds, hz, ⟨f, rfl⟩, c7⟩ := hz
          refine ⟨f, ?_, c7⟩
          unfold lotD
          rw [List.map_map]
          exact hz
      · obtain ⟨f, hz, c6⟩ := hz
        refine ⟨_, v4, ts ++ [((List.range n.toNat).filter f).map fun i => ((i : Nat) : Int)], rfl, ⟨_, upd_same, ?_⟩, by rw [List.length_append, List.length_singleton, l1], fun t ht => ?_, (gg.trans g6).put (.inr no0) ho6, c6.put npo ho6⟩
        · rw [List.map_append]
          exact (hvs.append (.cons hz .nil)).putH ho6
        · rcases List.mem_append.mp ht with ht | ht
          · exact hb t ht
          · rw [List.mem_singleton.mp ht]
            exact ⟨lot_filter f n (by omega), hN f⟩
    · obtain ⟨v3, v4, ts, rfl, ho, l1, hb, gg, c5⟩ := hP
      refine s_ret (K := K) gg.tabs (ei_var (i := 2) rfl (.ptr o)) fun v H6 g6 hv => ?_
      rw [im_ptr hv]
      exact q o ts H6 (gg.trans g6.wide) no0 (ho.up0 g6) hb (c5.up0 g6)
end
end K01
namespace K01
open PySem PySem.Spec PyProof.Rows L2 LamX NdefX Clo LRev U
section
variable {P : Program} {w : World} {K : PySem.W.Frag} {mg : Str → Option Value} {base : Heap} {τ : TL}
/-! ### same -/
/-- data of ints and tuples, m storeys at most -/
def OkS : Nat → D → Prop
  | 0, d => ∃ i, d = .int i
  | m + 1, d => (∃ i, d = .int i) ∨ ∃ ds, d = .tup ds ∧ ds.length ≤ 100000 ∧ ∀ x ∈ ds, OkS m x
def FSame : Nat → List D → D → Prop
  | 0, _, _ => False
  | m + 1, ds, r => ∃ d, ds = [d, d] ∧ OkS m d ∧ r = .bl true
theorem ok__law_same (T : Txt K mg) : ∀ m : Nat, FnOk P w K mg base L2.CX0 m T._law_same.f T._law_same.fd ["_law_told", "_law_due"] (spF τ K (FSame m))
  | 0 => ⟨fun vs H Q E h => by obtain ⟨_, _, _, _, h, _⟩ := h; exact h.elim, fun A outer s H args us vs Q E hr e0 hb r h => by obtain ⟨_, _, _, _, h, _⟩ := h; exact h.elim⟩
  | m + 1 => by
    have G__law_same : FnOk P w K mg base L2.CX0 m T._law_same.f T._law_same.fd _ _ := ok__law_same T m
    refine T._law_same.F.ok sc__law_same (fun vs H Q E h => ?_) (fun cdv A outer s H vs Q E hr h => ?_)
    · obtain ⟨ds, r, h1, _, ⟨_, rfl, _⟩, _⟩ := h
      exact h1.length
    · obtain ⟨ds, r, hv, tb, ⟨d, rfl, hd, rfl⟩, q⟩ := h
      obtain ⟨y, x, rfl, h0, h1⟩ := ima2 hv
      refine ⟨_, (pss_cons (ps_if (pt_val (pe_callB (r := rIsi K) call_isi (by rfl) T.z_isinstance (by decide +kernel) (pa_cons (pv 1) (pa_cons (pe_bltn (v := .ty "tuple") (u := .type "tuple") (by rfl) T.z_tuple (by decide +kernel) rfl) pa_nil)))) (pss_cons (ps_if (PW.pt (pw_or (pt_not (pt_val (pe_callB (r := rIsi K) call_isi (by rfl) T.z_isinstance (by decide +kernel) (pa_cons (pv 0) (pa_cons (pe_bltn (v := .ty "tuple") (u := .type "tuple") (by rfl) T.z_tuple (by decide +kernel) rfl) pa_nil))))) (pw_or1 (pt_cmpR op_ne (pe_callB (r := rLenQ K) call_len_seq (by rfl) T.z_len (by decide +kernel) (pa_cons (pv 0) pa_nil)) (pe_callB (r := rLenQ K) call_len_seq (by rfl) T.z_len (by decide +kernel) (pa_cons (pv 1) pa_nil)) (nomark _))))) (pss_one (ps_ret pe_bl)) pss_nil)
      (pss_one (ps_ret (pe_callB (r := rAll K) (cr_all rfl) (by rfl) T.z_all (by decide +kernel) (pa_cons (pe_lc (own := [("_law_k", 2)]) (g := (gName 2)) (tt := tYes) rfl sc__law_same.nd (pi_range1 (by rfl) T.z_range (pa_cons (pe_callB (r := rLenQ K) call_len_seq (by rfl) T.z_len (by decide +kernel) (pa_cons (pv 1) pa_nil)) pa_nil)) (blkOk_by (own := [("_law_k", 2)]) (N := ["_law_told", "_law_due", "_law_k"]) (sc := defScope s__law_same) (by decide +kernel)) (fun _ _ _ _ _ => (pg_name (i := 2) sc__law_same.nd rfl (by first | exact .inl rfl | exact .inr rfl))) (fun _ _ _ _ _ => pts_nil) (fun _ _ _ _ _ => (pc T._law_same G__law_same hr (by rfl) (pa_cons (pe_ix (r := rIx K) ix_seq (pv 0) (pv 2) (fun _ _ => rfl)) (pa_cons (pe_ix (r := rIx K) ix_seq (pv 1) (pv 2) (fun _ _ => rfl)) pa_nil))))) pa_nil))))) pss_nil)
      (pss_one (ps_ret (pe_and (pe_callB (r := rIsi K) call_isi (by rfl) T.z_isinstance (by decide +kernel) (pa_cons (pv 0) (pa_cons (pe_bltn (v := .ty "int") (u := .type "int") (by rfl) T.z_int (by decide +kernel) rfl) pa_nil))) (pe_and (pe_not (pe_callB (r := rIsi K) call_isi (by rfl) T.z_isinstance (by decide +kernel) (pa_cons (pv 0) (pa_cons (pe_bltn (v := .ty "bool") (u := .type "bool") (by rfl) T.z_bool (by decide +kernel) rfl) pa_nil)))) (pe_one (pe_cmpR op_eq (pv 0) (pv 1) (nomark _)))))))), ?_⟩
      have key : (∃ i, d = .int i) ∨ ∃ m' ds, m = m' + 1 ∧ d = .tup ds ∧ ds.length ≤ 100000 ∧ ∀ x ∈ ds, OkS m' x := by
        cases m with
        | zero => exact .inl hd
        | succ m' =>
          rcases hd with h | ⟨ds, h1, h2, h3⟩
          · exact .inl h
          · exact .inr ⟨m', ds, rfl, h1, h2, h3⟩
      rcases key with ⟨i, rfl⟩ | ⟨m', ds, rfl, rfl, hl, ho⟩
      · refine s_if tb (et_B (K := K) (ei_isi (T' := τ) (ei_var (i := 1) rfl h1) (noP_int i) (kit_tuple _))) (fun e => by cases e) fun _ H1 g1 => ?_
        refine s_ret (K := K) g1.tabs (d := .bl true) (ei_and (ei_isi (T' := τ) (ei_var (i := 0) rfl (h0.up g1)) (noP_int i) (kit_int _)) (fun _ => ?_) fun e => by cases e) fun v H2 g2 hv => q v H2 (g1.trans g2) hv
        refine ei_and (ei_not (ei_isi (T' := τ) (ei_var (i := 0) rfl (h0.up g1)) (noP_int i) (kit_bool _))) (fun _ => ?_) fun e => by cases e
        exact ei_is (ei_eqI (ei_var (i := 0) rfl (h0.up g1)) (ei_var (i := 1) rfl (h1.up g1))) (by rw [decide_eq_true rfl])
      · have nt : noP (.tup ds) := fun a z => by cases z
        refine s_if tb (et_B (K := K) (ei_isi (T' := τ) (ei_var (i := 1) rfl h1) nt (kit_tuple _))) (fun _ H1 g1 => ?_) fun e => by cases e
        refine s_if g1.tabs (et_or (et_not (et_B (K := K) (ei_isi (T' := τ) (ei_var (i := 0) rfl (h0.up g1)) nt (kit_tuple _)))) fun _ => et_test (K := K) (ei_neI (ei_lenT (ei_var (i := 0) rfl (h0.up g1))) (ei_lenT (ei_var (i := 1) rfl (h1.up g1))))) (fun e H2 g2 => ?_) fun _ H2 g2 => ?_
        · exfalso
          rw [decide_eq_true rfl] at e
          cases e
        · have g02 := g1.trans g2
          refine s_ret (K := K) g2.tabs (ei_is (ei_allN (bs := (List.range ds.length).map fun _ => true) (en_is (en_lcR (fun _ => true) (fun _ => .bl true) (ea_cons (ei_lenT (ei_var (i := 1) rfl (h1.up g02))) ea_nil) (by omega) (fun _ => rfl) (fun _ _ _ _ => et_yes) fun k H3 g3 hk _ => ?_) (by rw [outs_bl, Int.toNat_natCast]))) (by simp)) fun v H3 g3 hv => q v H3 (g02.trans g3) hv
          have hk' : k < ds.length := by omega
          have ha : atI ds ((k : Nat) : Int) = some ds[k] := at_nat rfl (List.getElem?_eq_getElem hk')
          refine ei_call (ea_cons (ei_ixT (ei_var (i := 0) rfl (h0.up (g02.trans g3))) (ei_var (i := 2) rfl (.int _)) ha) (ea_cons (ei_ixT (ei_var (i := 1) rfl (h1.up (g02.trans g3))) (ei_var (i := 2) rfl (.int _)) ha) ea_nil)) ⟨_, rfl, ho _ (List.getElem_mem hk'), rfl⟩
/-! ### rows: a list of lists of ints -/
structure Rows (K : PySem.W.Frag) (H : Hp) (q : Addr) (as : List Addr) (R : Nat → List Int) : Prop where
  top : Ls K H q (as.map D.ptr)
  nd : as.Nodup
  out : q ∉ as
  row : ∀ (k : Nat) a, as[k]? = some a → Ls K H a ((R k).map D.int)
theorem Rows.up {H H' : Hp} {q : Addr} {as : List Addr} {R : Nat → List Int} (g : G τ [] H H') (h : Rows K H q as R) : Rows K H' q as R := ⟨h.top.up0 g, h.nd, h.out, fun k a e => (h.row k a e).up0 g⟩
/-- another list changes -/
theorem Rows.other {H : Hp} {q p : Addr} {as : List Addr} {R : Nat → List Int} {vs ys : List V} (h : Rows K H q as R) (hp : H p = some (.lst vs)) (n : p ≠ q) (na : p ∉ as) : Rows K (upd H p (.lst ys)) q as R :=
  ⟨lsPut h.top n.symm hp, h.nd, h.out, fun k a e => lsPut (h.row k a e) (fun z => na (by rw [← z]; exact List.mem_of_getElem? e)) hp⟩
/-- one of its rows changes -/
theorem Rows.turn {H : Hp} {q a : Addr} {as : List Addr} {R R' : Nat → List Int} {vs ys : List V} {j : Nat} (h : Rows K H q as R) (hj : as[j]? = some a) (ha : H a = some (.lst vs)) (hy : ImA K H ys ((R' j).map D.int)) (hR : ∀ k, k ≠ j → R' k = R k) : Rows K (upd H a (.lst ys)) q as R' := by
  have hm : a ∈ as := List.mem_of_getElem? hj
  refine ⟨lsPut h.top (fun z => h.out (by rw [z]; exact hm)) ha, h.nd, h.out, fun k b e => ?_⟩
  by_cases hk : k = j
  · subst hk
    rw [hj] at e
    cases e
    exact ⟨ys, upd_same, hy.putH ha⟩
  · rw [hR k hk]
    refine lsPut (h.row k b e) (fun z => hk ?_) ha
    rw [z] at e
    exact nd_ix h.nd e hj
/-- [[] for _ in range(n)] -/
theorem rn_lists {σ : L2.St} {H : Hp} {j : Nat} {vs : List Nat} {n : Int} {ta : TA} (h : EvA τ K ta σ H [.int n]) (hn : n ≤ 1000000) (hw : ∀ x, wipe ((wipe σ vs).set j (some x)) vs = wipe σ vs) (tb : Tabs τ H) (h0 : -(2 ^ 62) ≤ n := by omega) :
    Rn τ [] (tLc (iRng1 ta) (gName j) tYes (tLst tNil) vs) σ H fun z H2 => ∃ q as, z = .ref q ∧ Nw H q ∧ as.length = n.toNat ∧ (∀ a ∈ as, Nw H a) ∧ Rows K H2 q as fun _ => [] := fun Q q => h H (.refl tb) _ fun ws H1 g1 hws => by
  have e1 : ws = [.int n] := ima_ints (ns := [n]) hws
  refine ⟨n, e1, h0, by omega, fun Dl hD => ?_⟩
  have nD : Nw H Dl := (Nw.of hD).back0 g1
  refine lc_range (lo := 0) (n := n.toNat) (fun i H' => G τ [] H H' ∧ ∃ as : List Addr, as.length = i ∧ (∀ a ∈ as, Nw H a) ∧ Rows K H' Dl as fun _ => []) ?_ (fun i H' hi p => ?_) fun H' p => ?_
  · have gn : G τ [] H1 (upd H1 Dl (.lst [])) := .new g1.tabs hD
    exact ⟨g1.trans gn, [], rfl, (fun a h => by cases h), ⟨[], upd_same, .nil⟩, List.nodup_nil, by simp, (fun k a e => by simp at e)⟩
  · obtain ⟨p1, as, p2, p3, p4⟩ := p
    rw [Int.zero_add]
    refine ⟨hw _, ?_⟩
    unfold tYes
    refine iteT ?_
    refine ⟨Nat.zero_le _, fun a ha => ?_⟩
    have gn : G τ [] H' (upd H' a (.lst [])) := .new p1.tabs ha
    have na : Nw H a := (Nw.of ha).back0 p1
    obtain ⟨ys, y1, y2⟩ := p4.top.up0 gn
    have naD : a ≠ Dl := fun z => by
      obtain ⟨zs, z1, _⟩ := p4.top
      rw [z, z1] at ha
      cases ha
    have naa : a ∉ as := fun hm => by
      obtain ⟨k, hk⟩ := List.mem_iff_getElem?.mp hm
      obtain ⟨zs, z1, _⟩ := p4.row k a hk
      rw [z1] at ha
      cases ha
    refine ⟨ys, y1, ?_, (p1.trans gn).put (.inr nD) y1, as ++ [a], by rw [List.length_append, List.length_singleton, p2], fun b hb => ?_, ⟨ys ++ [.ref a], upd_same, ?_⟩, ?_, ?_, fun k b e => ?_⟩
    · rw [y2.length, List.length_map, p2]
      exact Nat.lt_of_lt_of_le (show i < 1000001 by omega) (by decide)
    · rcases List.mem_append.mp hb with hb | hb
      · exact p3 b hb
      · rw [List.mem_singleton.mp hb]
        exact na
    · rw [List.map_append]
      exact (y2.append (.cons (.ptr a) .nil)).putH y1
    · rw [List.nodup_append]
      exact ⟨p4.nd, by simp, fun x hx y hy z => naa (by rw [← List.mem_singleton.mp hy, ← z]; exact hx)⟩
    · rw [List.mem_append, List.mem_singleton]
      rintro (z | z)
      · exact p4.out z
      · exact naD z.symm
    · by_cases hk : k < as.length
      · rw [List.getElem?_append_left hk] at e
        exact lsPut ((p4.row k b e).up0 gn) (fun z => p4.out (by rw [← z]; exact List.mem_of_getElem? e)) y1
      · have hk2 : k = as.length := by
          have := (List.getElem?_eq_some_iff.mp e).1
          rw [List.length_append, List.length_singleton] at this
          omega
        subst hk2
        rw [List.getElem?_append_right (Nat.le_refl _), Nat.sub_self] at e
        have e' : a = b := Option.some.inj e
        subst e'
        exact ⟨[], by rw [upd_ne naD]; exact upd_same, .nil⟩
  · obtain ⟨p1, as, p2, p3, p4⟩ := p
    exact q _ H' p1 ⟨Dl, as, rfl, nD, p2, p3, p4⟩
end
end K01
namespace K01
open PySem PySem.Spec PyProof.Rows L2 LamX NdefX Clo LRev U
section
variable {P : Program} {w : World} {K : PySem.W.Frag} {mg : Str → Option Value} {base : Heap} {τ : TL}
/-- of the first i leaves -/
def idxN (p : Int × Int → Bool) (ls : List (Int × Int)) (i : Nat) : List Int := ((List.range i).filter fun k => p (ls.getD k (0, 0))).map fun k => ((k : Nat) : Int)
theorem idxN_yes {p : Int × Int → Bool} {ls : List (Int × Int)} {i : Nat} (h : p (ls.getD i (0, 0)) = true) : idxN p ls (i + 1) = idxN p ls i ++ [((i : Nat) : Int)] := by
  unfold idxN
  rw [List.range_succ, List.filter_append, List.filter_cons_of_pos (p := fun k => p (ls.getD k (0, 0))) h, List.map_append]
  rfl
theorem idxN_no {p : Int × Int → Bool} {ls : List (Int × Int)} {i : Nat} (h : p (ls.getD i (0, 0)) = false) : idxN p ls (i + 1) = idxN p ls i := by
  unfold idxN
  rw [List.range_succ, List.filter_append, List.filter_cons_of_neg (p := fun k => p (ls.getD k (0, 0))) (by rw [h]; exact Bool.false_ne_true)]
  simp
theorem idxN_len (p : Int × Int → Bool) (ls : List (Int × Int)) (i : Nat) : (idxN p ls i).length ≤ i := by
  unfold idxN
  rw [List.length_map]
  have h := List.length_filter_le (fun k => p (ls.getD k (0, 0))) (List.range i)
  rw [List.length_range] at h
  exact h
theorem oks_ints {m : Nat} {ns : List Int} (h : ns.length ≤ 100000) : OkS (m + 1) (.tup (ns.map D.int)) := .inr ⟨_, rfl, by rw [List.length_map]; exact h, fun x hx => by
  obtain ⟨i, _, rfl⟩ := List.mem_map.mp hx
  cases m with
  | zero => exact ⟨i, rfl⟩
  | succ m => exact .inl ⟨i, rfl⟩⟩
theorem kb_ends_of_word_heap (D : Dfn K mg "ends_of" s_ends_of ["heap", "word"]) : ∀ (s : Shared) (ws : List Value), ws.length = (["word", "heap"] : List Str).length → BindsTo s D.fd ⟨[], (["word", "heap"] : List Str).zip ws⟩ ((["heap", "word"] : List Str).zip (perm Value.none [1, 0] ws)) := by
  intro s ws hl
  obtain ⟨oc, od, kV, doc, pm, an, cdv, ct, osl, e, lk, hcd⟩ := D.F.ex
  rw [e]
  match ws, hl with
  | [a, b], _ => exact .of_eq rfl
theorem kb_loops_of_heap (D : Dfn K mg "loops_of" s_loops_of ["heap"]) : ∀ (s : Shared) (ws : List Value), ws.length = (["heap"] : List Str).length → BindsTo s D.fd ⟨[], (["heap"] : List Str).zip ws⟩ ((["heap"] : List Str).zip (perm Value.none [0] ws)) := by
  intro s ws hl
  obtain ⟨oc, od, kV, doc, pm, an, cdv, ct, osl, e, lk, hcd⟩ := D.F.ex
  rw [e]
  match ws, hl with
  | [a], _ => exact .of_eq rfl
theorem ek_nil {σ : L2.St} {H : Hp} : EvA τ K tNil σ H [] := ea_nil
theorem Rows.new {H : Hp} {q p : Addr} {as : List Addr} {R : Nat → List Int} (h : Rows K H q as R) (n : Nw H p) : p ≠ q ∧ p ∉ as := by
  refine ⟨(Nw.neLs n h.top).symm, fun hm => ?_⟩
  obtain ⟨k, hk⟩ := List.mem_iff_getElem?.mp hm
  exact Nw.neLs n (h.row k p hk) rfl
/-- rows[j].append(k) -/
theorem rows_app {σ : L2.St} {H : Hp} {q : Addr} {as : List Addr} {R : Nat → List Int} {tr te : TE} {j : Nat} {k : Int} {Dn : Ends} (tb : Tabs τ H) (h : Rows K H q as R) (hj : j < as.length) (hl : (R j).length < 1000000) (hr : ∀ a, as[j]? = some a → EvI τ K tr σ H (.ptr a)) (he : EvI τ K te σ H (.int k))
    (c : ∀ a vs H2, as[j]? = some a → G τ [] H H2 → H2 a = some (.lst vs) → Rows K (upd H2 a (.lst (vs ++ [.int k]))) q as (fun x => if x = j then R j ++ [k] else R x) → Dn.nx σ (upd H2 a (.lst (vs ++ [.int k])))) : tDrop (tBM K "list" rAppend tr (tCons te tNil)) Dn σ H := by
  have ha : as[j]? = some as[j] := List.getElem?_eq_getElem hj
  refine r_app (ms := []) (A := fun z H2 => Im K H2 z (.int k)) tb (hr _ ha) (h.row j _ ha) (by simp) (by rw [List.length_map]; exact hl) (fun H1 g1 => (he.up g1).rn g1.tabs) fun z vs H2 g2 hz h2 hvs => ?_
  rw [im_int hz]
  refine c _ vs H2 ha g2 h2 ((h.up g2).turn ha h2 ?_ fun x hx => if_neg hx)
  rw [if_pos rfl, List.map_append]
  exact hvs.append (.cons (.int k) .nil)
def FTrue1 (ds : List D) (r : D) : Prop := ∃ (n : Int) (ls : List (Int × Int)), ds = [hD n ls] ∧ 1 ≤ n ∧ n ≤ 10 ∧ ls.length ≤ 1000 ∧ (∀ l ∈ ls, inR n l) ∧ r = .bl true
theorem ok__law_words (T : Txt K mg) : FnOk P w K mg base L2.CX0 8 T._law_words.f T._law_words.fd ["_law_pile"] (spF τ K FTrue1) := by
  have G__law_same : FnOk P w K mg base L2.CX0 3 T._law_same.f T._law_same.fd _ _ := ok__law_same (τ := τ) T 3
  have G_fan_of : FnOk P w K mg base L2.CX0 6 T.fan_of.f T.fan_of.fd _ _ := ok_fan_of (τ := τ) T
  have G_ends_of : FnOk P w K mg base L2.CX0 6 T.ends_of.f T.ends_of.fd _ _ := ok_ends_of (τ := τ) T
  have G_surplus_of : FnOk P w K mg base L2.CX0 7 T.surplus_of.f T.surplus_of.fd _ _ := ok_surplus_of (τ := τ) T
  have G_from_word : FnOk P w K mg base L2.CX0 5 T.from_word.f T.from_word.fd _ _ := ok_from_word (τ := τ) T
  have G_to_word : FnOk P w K mg base L2.CX0 5 T.to_word.f T.to_word.fd _ _ := ok_to_word (τ := τ) T
  have G_loops_of : FnOk P w K mg base L2.CX0 1 T.loops_of.f T.loops_of.fd _ _ := ok_loops_of (τ := τ) T
  refine T._law_words.F.ok sc__law_words (fun vs H Q E h => ?_) (fun cdv A outer s H vs Q E hr h => ?_)
  · obtain ⟨ds, r, h1, _, ⟨_, _, rfl, _⟩, _⟩ := h
    exact h1.length
  · obtain ⟨ds, r, hv, tb, ⟨n, ls, rfl, n0, n1, l1, hb, rfl⟩, q⟩ := h
    obtain ⟨x, rfl, hx⟩ := ima1 hv
    refine ⟨_, (pss_cons (ps_asg (pv 0) (pg_tup rfl (pgs_cons (pg_name (i := 6) sc__law_words.nd rfl (by first | exact .inl rfl | exact .inr rfl)) (pgs_cons (pg_name (i := 7) sc__law_words.nd rfl (by first | exact .inl rfl | exact .inr rfl)) pgs_nil))))
      (pss_cons (ps_setLc (i := 1) (own := [("_law_w", 5)]) (g := (gName 5)) (tt := tYes) rfl sc__law_words.nd rfl rfl (sw_true rfl rfl rfl (by decide +kernel)) (pi_range1 (by rfl) T.z_range (pa_cons (pv 6) pa_nil)) (blkOk_by (own := [("_law_w", 5)]) (N := ["_law_pile", "_law_out", "_law_into", "_law_loops", "_law_k", "_law_w", "_law_size", "_law_leaves"]) (sc := defScope s__law_words) (by decide +kernel)) (fun _ _ _ _ _ => (pg_name (i := 5) sc__law_words.nd rfl (by first | exact .inl rfl | exact .inr rfl))) (fun _ _ _ _ _ => pts_nil) (fun _ _ _ _ _ => (pe_lst pa_nil)))
      (pss_cons (ps_setLc (i := 2) (own := [("_law_w", 5)]) (g := (gName 5)) (tt := tYes) rfl sc__law_words.nd rfl rfl (sw_true rfl rfl rfl (by decide +kernel)) (pi_range1 (by rfl) T.z_range (pa_cons (pv 6) pa_nil)) (blkOk_by (own := [("_law_w", 5)]) (N := ["_law_pile", "_law_out", "_law_into", "_law_loops", "_law_k", "_law_w", "_law_size", "_law_leaves"]) (sc := defScope s__law_words) (by decide +kernel)) (fun _ _ _ _ _ => (pg_name (i := 5) sc__law_words.nd rfl (by first | exact .inl rfl | exact .inr rfl))) (fun _ _ _ _ _ => pts_nil) (fun _ _ _ _ _ => (pe_lst pa_nil)))
      (pss_cons (ps_set (i := 3) sc__law_words.nd rfl (by first | exact .inl rfl | exact .inr rfl) (pe_lst pa_nil))
      (pss_cons (ps_for PassesOwn.never rfl (pi_range1 (by rfl) T.z_range (pa_cons (pe_callB (r := rLenQ K) call_len_seq (by rfl) T.z_len (by decide +kernel) (pa_cons (pv 7) pa_nil)) pa_nil)) (pg_name (i := 4) sc__law_words.nd rfl (by first | exact .inl rfl | exact .inr rfl)) (pss_cons (ps_expr (pe_bm PySem.F.plainAttrs_list PySem.F.slot_list_append PySem.F.type_list_append mt_append (pe_ix (r := rIx K) ix_seq (pv 1) (pe_ix (r := rIx K) ix_seq (pe_ix (r := rIx K) ix_seq (pv 7) (pv 4) (fun _ _ => rfl)) pe_int (fun _ _ => rfl)) (fun _ _ => rfl)) (pa_cons (pv 4) pa_nil)))
      (pss_cons (ps_expr (pe_bm PySem.F.plainAttrs_list PySem.F.slot_list_append PySem.F.type_list_append mt_append (pe_ix (r := rIx K) ix_seq (pv 2) (pe_ix (r := rIx K) ix_seq (pe_ix (r := rIx K) ix_seq (pv 7) (pv 4) (fun _ _ => rfl)) pe_int (fun _ _ => rfl)) (fun _ _ => rfl)) (pa_cons (pv 4) pa_nil)))
      (pss_one (ps_if (pt_cmpR op_eq (pe_ix (r := rIx K) ix_seq (pe_ix (r := rIx K) ix_seq (pv 7) (pv 4) (fun _ _ => rfl)) pe_int (fun _ _ => rfl)) (pe_ix (r := rIx K) ix_seq (pe_ix (r := rIx K) ix_seq (pv 7) (pv 4) (fun _ _ => rfl)) pe_int (fun _ _ => rfl)) (nomark _)) (pss_one (ps_expr (pe_bm PySem.F.plainAttrs_list PySem.F.slot_list_append PySem.F.type_list_append mt_append (pv 3) (pa_cons (pv 4) pa_nil)))) pss_nil)))))
      (pss_cons (ps_for PassesOwn.never rfl (pi_range1 (by rfl) T.z_range (pa_cons (pv 6) pa_nil)) (pg_name (i := 5) sc__law_words.nd rfl (by first | exact .inl rfl | exact .inr rfl)) (pss_cons (ps_if (PW.pt (pw_or (pt_not (pt_val (pc T._law_same G__law_same (hr.mono (by decide)) (by rfl) (pa_cons (pc T.fan_of G_fan_of (hr.mono (by decide)) (by rfl) (pa_cons (pv 0) (pa_cons (pv 5) pa_nil))) (pa_cons (pe_callB (r := rLenQ K) call_len_seq (by rfl) T.z_len (by decide +kernel) (pa_cons (pe_ix (r := rIx K) ix_seq (pv 1) (pv 5) (fun _ _ => rfl)) pa_nil)) pa_nil))))) (pw_or1 (pt_not (pt_val (pc T._law_same G__law_same (hr.mono (by decide)) (by rfl) (pa_cons (pck T.ends_of G_ends_of (hr.mono (by decide)) (by rfl) (kb_ends_of_word_heap T.ends_of) (pk_cons (pv 5) (pk_cons (pv 0) pk_nil))) (pa_cons (pe_callB (r := rLenQ K) call_len_seq (by rfl) T.z_len (by decide +kernel) (pa_cons (pe_ix (r := rIx K) ix_seq (pv 2) (pv 5) (fun _ _ => rfl)) pa_nil)) pa_nil)))))))) (pss_one (ps_ret pe_bl)) pss_nil)
      (pss_cons (ps_if (pt_not (pt_val (pc T._law_same G__law_same (hr.mono (by decide)) (by rfl) (pa_cons (pc T.surplus_of G_surplus_of (hr.mono (by decide)) (by rfl) (pa_cons (pv 0) (pa_cons (pv 5) pa_nil))) (pa_cons (pe_op op_sub (pe_callB (r := rLenQ K) call_len_seq (by rfl) T.z_len (by decide +kernel) (pa_cons (pe_ix (r := rIx K) ix_seq (pv 2) (pv 5) (fun _ _ => rfl)) pa_nil)) (pe_callB (r := rLenQ K) call_len_seq (by rfl) T.z_len (by decide +kernel) (pa_cons (pe_ix (r := rIx K) ix_seq (pv 1) (pv 5) (fun _ _ => rfl)) pa_nil))) pa_nil))))) (pss_one (ps_ret pe_bl)) pss_nil)
      (pss_one (ps_if (PW.pt (pw_or (pt_not (pt_val (pc T._law_same G__law_same (hr.mono (by decide)) (by rfl) (pa_cons (pc T.from_word G_from_word (hr.mono (by decide)) (by rfl) (pa_cons (pv 0) (pa_cons (pv 5) pa_nil))) (pa_cons (pe_callTy (r := rTupQ K) call_tuple_of (by rfl) T.z_tuple (by decide +kernel) (pa_cons (pe_ix (r := rIx K) ix_seq (pv 1) (pv 5) (fun _ _ => rfl)) pa_nil)) pa_nil))))) (pw_or1 (pt_not (pt_val (pc T._law_same G__law_same (hr.mono (by decide)) (by rfl) (pa_cons (pc T.to_word G_to_word (hr.mono (by decide)) (by rfl) (pa_cons (pv 0) (pa_cons (pv 5) pa_nil))) (pa_cons (pe_callTy (r := rTupQ K) call_tuple_of (by rfl) T.z_tuple (by decide +kernel) (pa_cons (pe_ix (r := rIx K) ix_seq (pv 2) (pv 5) (fun _ _ => rfl)) pa_nil)) pa_nil)))))))) (pss_one (ps_ret pe_bl)) pss_nil)))))
      (pss_one (ps_ret (pc T._law_same G__law_same (hr.mono (by decide)) (by rfl) (pa_cons (pck T.loops_of G_loops_of (hr.mono (by decide)) (by rfl) (kb_loops_of_heap T.loops_of) (pk_cons (pv 0) pk_nil)) (pa_cons (pe_callTy (r := rTupQ K) call_tuple_of (by rfl) T.z_tuple (by decide +kernel) (pa_cons (pv 3) pa_nil)) pa_nil))))))))))), ?_⟩
    refine s_unpack2 tb (ei_var (i := 0) rfl hx) fun v1 v2 H1 g1 hv1 hv2 => ?_
    rw [im_int hv1]
    have hll : (ls.map prD).length = ls.length := List.length_map ..
    -- out, into, loops
    refine s_asg (rn_lists (K := K) (ea_cons (ei_var (i := 6) rfl (.int n)) ea_nil) (by omega) (fun _ => rfl) g1.tabs) fun v H2 g2 hv => ?_
    obtain ⟨qo, ao, rfl, nqo, lo, nao, ro⟩ := hv
    refine s_asg (rn_lists (K := K) (ea_cons (ei_var (i := 6) rfl (.int n)) ea_nil) (by omega) (fun _ => rfl) g2.tabs) fun v H3 g3 hv => ?_
    obtain ⟨qi, ai, rfl, nqi, li, nai, ri⟩ := hv
    refine s_asgN (K := K) (ds := []) g3.tabs (en_lst ea_nil (by decide)) fun lp H4 g4 nlp hlp => ?_
    have ro3 := ro.up g3
    have d1 := ro.new nqi
    have d2 : ∀ a ∈ ai, a ≠ qo ∧ a ∉ ao := fun a ha => ro.new (nai a ha)
    have d3 := ro3.new nlp
    have d4 := ri.new nlp
    have g13 := g2.trans g3
    have Nqo : Nw H1 qo := nqo
    have Nqi : Nw H1 qi := nqi.back0 g2
    have Nai : ∀ a ∈ ai, Nw H1 a := fun a ha => (nai a ha).back0 g2
    have Nlp : Nw H1 lp := nlp.back0 g13
    have hlen : ao.length = n.toNat ∧ ai.length = n.toNat := ⟨lo, li⟩
    refine s_forR (K := K) (n := (ls.length : Int)) g4.tabs (ea_cons (ei_is (ei_lenT (ei_var (i := 7) rfl (hv2.up (g13.trans g4)))) (by rw [hll])) ea_nil) (by omega)
      (fun i σ H' => ∃ v4, σ = [some x, some (.ref qo), some (.ref qi), some (.ref lp), v4, none, some (.int n), some v2] ∧ G τ [] H1 H' ∧ Rows K H' qo ao (fun w => idxN (pFrom ((w : Nat) : Int)) ls i) ∧ Rows K H' qi ai (fun w => idxN (pTo ((w : Nat) : Int)) ls i) ∧ Ls K H' lp ((idxN pLoop ls i).map D.int)) (fun H5 g5 => ?_) (fun i σ H5 hi hP => ?_) fun σ H5 hP => ?_
    · exact ⟨none, rfl, (g13.trans g4).trans g5, (ro3.up g4).up g5, (ri.up g4).up g5, hlp.up0 g5⟩
    · obtain ⟨v4, rfl, g, r1, r2, r3⟩ := hP
      have hi' : i < ls.length := by omega
      generalize hl : ls.getD i (0, 0) = l
      have hlm : inR n l := by rw [← hl]; exact hb _ (List.mem_of_getElem? (getD_of hi'))
      have hal : atI (ls.map prD) ((i : Nat) : Int) = some (prD l) := by rw [← hl]; exact at_leaf hi'
      obtain ⟨j1, e1⟩ : ∃ j : Nat, l.1 = (j : Int) := ⟨l.1.toNat, by have := hlm.1.1; omega⟩
      obtain ⟨j2, e2⟩ : ∃ j : Nat, l.2 = (j : Int) := ⟨l.2.toNat, by have := hlm.2.1; omega⟩
      have b1 := hlm.1.2
      have b2 := hlm.2.2
      have hv5 := hv2.up g
      have atp : ∀ {as : List Addr} {j : Nat} {a : Addr}, as[j]? = some a → atI (as.map D.ptr) (j : Int) = some (.ptr a) := fun {as j a} e => by
        refine at_nat rfl ?_
        rw [List.getElem?_map, e]
        rfl
      -- out
      refine rows_app g.tabs r1 (j := j1) (by omega) (Nat.lt_of_le_of_lt (idxN_len _ _ _) (by omega)) (fun a ha => ei_ixL (ei_var (i := 1) rfl (.ptr qo)) r1.top.lr (ei_is (ei_ixT (ei_ixT (ei_var (i := 7) rfl hv5) (ei_var (i := 4) rfl (.int _)) hal) ei_i rfl) (by rw [e1])) (atp ha)) (ei_var (i := 4) rfl (.int _)) fun a vs H6 ha g6 h6 r1' => ?_
      have ham : a ∈ ao := List.mem_of_getElem? ha
      have naqi : a ≠ qi := fun z => d1.2 (by rw [← z]; exact ham)
      have naai : a ∉ ai := fun z => (d2 a z).2 ham
      have nalp : lp ≠ a := fun z => d3.2 (by rw [z]; exact ham)
      have gg6 : G τ [] H1 (upd H6 a (.lst (vs ++ [.int (i : Int)]))) := (g.trans g6).put (.inr (nao a ham)) h6
      have r2' := (r2.up g6).other (ys := vs ++ [.int (i : Int)]) h6 naqi naai
      have r3' := lsPut (ys := vs ++ [.int (i : Int)]) (r3.up0 g6) nalp h6
      -- into
      refine rows_app gg6.tabs r2' (j := j2) (by omega) (Nat.lt_of_le_of_lt (idxN_len _ _ _) (by omega)) (fun a ha => ei_ixL (ei_var (i := 2) rfl (.ptr qi)) r2'.top.lr (ei_is (ei_ixT (ei_ixT (ei_var (i := 7) rfl (hv2.up gg6)) (ei_var (i := 4) rfl (.int _)) hal) ei_i rfl) (by rw [e2])) (atp ha)) (ei_var (i := 4) rfl (.int _)) fun b us H7 hbm g7 h7 r2'' => ?_
      have hbm' : b ∈ ai := List.mem_of_getElem? hbm
      have nblp : lp ≠ b := fun z => d4.2 (by rw [z]; exact hbm')
      have gg7 : G τ [] H1 (upd H7 b (.lst (us ++ [.int (i : Int)]))) := (gg6.trans g7).put (.inr (Nai b hbm')) h7
      have r1'' := (r1'.up g7).other (ys := us ++ [.int (i : Int)]) h7 (d2 b hbm').1 (d2 b hbm').2
      have r3'' := lsPut (ys := us ++ [.int (i : Int)]) (r3'.up0 g7) nblp h7
      have eR1 : (fun x => if x = j1 then idxN (pFrom ((j1 : Nat) : Int)) ls i ++ [((i : Nat) : Int)] else idxN (pFrom ((x : Nat) : Int)) ls i) = fun w => idxN (pFrom ((w : Nat) : Int)) ls (i + 1) := by
        funext w
        by_cases h : w = j1
        · rw [if_pos h, h, idxN_yes (by rw [hl]; exact decide_eq_true e1)]
        · rw [if_neg h, idxN_no (by rw [hl]; exact decide_eq_false fun z => h (by omega))]
      have eR2 : (fun x => if x = j2 then idxN (pTo ((j2 : Nat) : Int)) ls i ++ [((i : Nat) : Int)] else idxN (pTo ((x : Nat) : Int)) ls i) = fun w => idxN (pTo ((w : Nat) : Int)) ls (i + 1) := by
        funext w
        by_cases h : w = j2
        · rw [if_pos h, h, idxN_yes (by rw [hl]; exact decide_eq_true e2)]
        · rw [if_neg h, idxN_no (by rw [hl]; exact decide_eq_false fun z => h (by omega))]
      rw [eR1] at r1''
      rw [eR2] at r2''
      -- a loop
      refine s_if gg7.tabs (et_test (K := K) (ei_eqI (ei_ixT (ei_ixT (ei_var (i := 7) rfl (hv2.up gg7)) (ei_var (i := 4) rfl (.int _)) hal) ei_i rfl) (ei_ixT (ei_ixT (ei_var (i := 7) rfl (hv2.up gg7)) (ei_var (i := 4) rfl (.int _)) hal) ei_i rfl))) (fun e H8 g8 => ?_) fun e H8 g8 => ?_
      · refine r_app (ms := []) (A := fun z H2 => Im K H2 z (.int (i : Int))) g8.tabs (ei_var (i := 3) rfl (.ptr lp)) (r3''.up0 g8) (by simp) (by rw [List.length_map]; exact Nat.lt_of_le_of_lt (idxN_len _ _ _) (by omega)) (fun H9 g9 => (ei_var (i := 4) rfl (.int _)).rn g9.tabs) fun z vs H9 g9 hz h9 hvs => ?_
        refine ⟨_, rfl, ((gg7.trans g8).trans g9).put (.inr Nlp) h9, ((r1''.up g8).up g9).other h9 d3.1 d3.2, ((r2''.up g8).up g9).other h9 d4.1 d4.2, ?_⟩
        rw [idxN_yes (by rw [hl]; exact e), List.map_append]
        exact ⟨_, upd_same, (hvs.append (.cons hz .nil)).putH h9⟩
      · refine ⟨_, rfl, gg7.trans g8, r1''.up g8, r2''.up g8, ?_⟩
        rw [idxN_no (by rw [hl]; exact e)]
        exact r3''.up0 g8
    · obtain ⟨v4, rfl, g, r1, r2, r3⟩ := hP
      have hx1 := hx.up g1
      have bnd : ∀ p, (idx p ls).length ≤ 1000 := fun p => Nat.le_trans (idxN_len p ls ls.length) l1
      rw [Int.toNat_natCast] at r1 r2 r3
      refine s_forR (K := K) (n := n) g.tabs (ea_cons (ei_var (i := 6) rfl (.int n)) ea_nil) (by omega) (fun i σ H' => ∃ v5, σ = [some x, some (.ref qo), some (.ref qi), some (.ref lp), v4, v5, some (.int n), some v2] ∧ G τ [] H5 H') (fun H6 g6 => ⟨none, rfl, g6⟩) (fun i σ H6 hi hP => ?_) fun σ H6 hP => ?_
      · obtain ⟨v5, rfl, g6⟩ := hP
        have hw : inW n (i : Int) = true := by
          unfold inW
          rw [decide_eq_true (by omega), decide_eq_true (by omega)]
          rfl
        have ao1 : ao[i]? = some (ao.getD i 0) := getD_of (by omega)
        have ai1 : ai[i]? = some (ai.getD i 0) := getD_of (by omega)
        have x6 := hx1.up (g.trans g6)
        have f1 : ∀ {H' : Hp}, G τ [] H6 H' → EvI τ K (tOp (rIx K) (tVar 1) (tVar 5)) [some x, some (.ref qo), some (.ref qi), some (.ref lp), v4, some (.int (i : Int)), some (.int n), some v2] H' (.ptr (ao.getD i 0)) := fun g => ei_ixL (ei_var (i := 1) rfl (.ptr qo)) (r1.top.up0 (g6.trans g)).lr (ei_var (i := 5) rfl (.int _)) (at_nat rfl (by rw [List.getElem?_map, ao1]; rfl))
        have f2 : ∀ {H' : Hp}, G τ [] H6 H' → EvI τ K (tOp (rIx K) (tVar 2) (tVar 5)) [some x, some (.ref qo), some (.ref qi), some (.ref lp), v4, some (.int (i : Int)), some (.int n), some v2] H' (.ptr (ai.getD i 0)) := fun g => ei_ixL (ei_var (i := 2) rfl (.ptr qi)) (r2.top.up0 (g6.trans g)).lr (ei_var (i := 5) rfl (.int _)) (at_nat rfl (by rw [List.getElem?_map, ai1]; rfl))
        have row1 := (r1.row i _ ao1).up0 g6
        have row2 := (r2.row i _ ai1).up0 g6
        refine s_if g6.tabs (et_or (et_not (et_B (K := K) (ei_call (ea_cons (ei_call (ea_cons (ei_var (i := 0) rfl x6) (ea_cons (ei_var (i := 5) rfl (.int _)) ea_nil)) ⟨n, ls, _, rfl, hw, by omega, rfl⟩) (ea_cons (ei_is (ei_lenL (f1 (.refl g6.tabs)) row1.lr) (by rw [List.length_map]; rfl)) ea_nil)) ⟨_, rfl, .inl ⟨_, rfl⟩, rfl⟩)))
          fun _ => et_not (et_B (K := K) (ei_call (ea_cons (ei_callP (ea_cons (ei_var (i := 5) rfl (.int _)) (ea_cons (ei_var (i := 0) rfl x6) ea_nil)) rfl ⟨n, ls, _, rfl, hw, by omega, rfl⟩) (ea_cons (ei_is (ei_lenL (f2 (.refl g6.tabs)) row2.lr) (by rw [List.length_map]; rfl)) ea_nil)) ⟨_, rfl, .inl ⟨_, rfl⟩, rfl⟩))) (fun e => by cases e) fun _ H7 g7 => ?_
        refine s_if g7.tabs (et_not (et_B (K := K) (ei_call (ea_cons (ei_call (ea_cons (ei_var (i := 0) rfl (x6.up g7)) (ea_cons (ei_var (i := 5) rfl (.int _)) ea_nil)) ⟨n, ls, _, rfl, hw, by omega, rfl⟩) (ea_cons (ei_is (ei_sub (ei_lenL (f2 g7) (row2.up0 g7).lr) (ei_lenL (f1 g7) (row1.up0 g7).lr)) (by rw [List.length_map, List.length_map]; rfl)) ea_nil)) ⟨_, rfl, .inl ⟨_, rfl⟩, rfl⟩))) (fun e => by cases e) fun _ H8 g8 => ?_
        have g68 := g7.trans g8
        refine s_if g8.tabs (et_or (et_not (et_B (K := K) (ei_call (ea_cons (ei_call (ea_cons (ei_var (i := 0) rfl (x6.up g68)) (ea_cons (ei_var (i := 5) rfl (.int _)) ea_nil)) ⟨n, ls, _, rfl, hw, by omega, rfl⟩) (ea_cons (ei_tupL (f1 g68) (row1.up0 g68).lr) ea_nil)) ⟨_, rfl, oks_ints (Nat.le_trans (bnd _) (by omega)), rfl⟩)))
          fun _ => et_not (et_B (K := K) (ei_call (ea_cons (ei_call (ea_cons (ei_var (i := 0) rfl (x6.up g68)) (ea_cons (ei_var (i := 5) rfl (.int _)) ea_nil)) ⟨n, ls, _, rfl, hw, by omega, rfl⟩) (ea_cons (ei_tupL (f2 g68) (row2.up0 g68).lr) ea_nil)) ⟨_, rfl, oks_ints (Nat.le_trans (bnd _) (by omega)), rfl⟩))) (fun e => by cases e) fun _ H9 g9 => ?_
        exact ⟨_, rfl, (g6.trans g68).trans g9⟩
      · obtain ⟨v5, rfl, g6⟩ := hP
        refine s_ret (K := K) g6.tabs (ei_call (ea_cons (ei_callP (ea_cons (ei_var (i := 0) rfl (hx1.up (g.trans g6))) ea_nil) rfl ⟨n, ls, rfl, by omega, rfl⟩) (ea_cons (ei_tupL (ei_var (i := 3) rfl (.ptr lp)) (r3.up0 g6).lr) ea_nil)) ⟨_, rfl, oks_ints (Nat.le_trans (bnd _) (by omega)), rfl⟩) fun v H7 g7 hv => q v H7 (((g1.trans g).trans g6).trans g7) hv
end
end K01
namespace K01
open PySem PySem.Spec PyProof.Rows L2 LamX NdefX Clo LRev U
section
variable {P : Program} {w : World} {K : PySem.W.Frag} {mg : Str → Option Value} {base : Heap} {τ : TL}
/-! ### likes -/
abbrev lf (ls : List (Int × Int)) (k : Nat) : Int × Int := ls.getD k (0, 0)
def isFirst (ls : List (Int × Int)) (k : Nat) : Bool := (List.range k).all fun j => !decide (lf ls j = lf ls k)
def firsts (ls : List (Int × Int)) (i : Nat) : List Nat := (List.range i).filter (isFirst ls)
theorem isFirst_yes {ls : List (Int × Int)} {k : Nat} (h : ∀ j, j < k → lf ls j ≠ lf ls k) : isFirst ls k = true := by
  unfold isFirst
  rw [List.all_eq_true]
  intro j hj
  rw [decide_eq_false (h j (List.mem_range.mp hj))]
  rfl
theorem isFirst_ne {ls : List (Int × Int)} {k j : Nat} (h : isFirst ls k = true) (hj : j < k) : lf ls j ≠ lf ls k := fun e => by
  unfold isFirst at h
  rw [List.all_eq_true] at h
  have := h j (List.mem_range.mpr hj)
  rw [decide_eq_true e] at this
  cases this
theorem isFirst_no {ls : List (Int × Int)} {k : Nat} (h : isFirst ls k = false) : ∃ j, j < k ∧ lf ls j = lf ls k := by
  by_cases hx : ∃ j, j < k ∧ lf ls j = lf ls k
  · exact hx
  · rw [isFirst_yes fun j hj e => hx ⟨j, hj, e⟩] at h
    cases h
theorem firsts_yes {ls : List (Int × Int)} {i : Nat} (h : isFirst ls i = true) : firsts ls (i + 1) = firsts ls i ++ [i] := by
  unfold firsts
  rw [List.range_succ, List.filter_append, List.filter_cons_of_pos h]
  rfl
theorem firsts_no {ls : List (Int × Int)} {i : Nat} (h : isFirst ls i = false) : firsts ls (i + 1) = firsts ls i := by
  unfold firsts
  rw [List.range_succ, List.filter_append, List.filter_cons_of_neg (by rw [h]; exact Bool.false_ne_true)]
  simp
theorem getD_app {α : Type} {l m : List α} {i : Nat} {z : α} (h : i < l.length) : (l ++ m).getD i z = l.getD i z := by
  rw [List.getD_eq_getElem?_getD, List.getD_eq_getElem?_getD, List.getElem?_append_left h]
theorem getD_end {α : Type} {l : List α} {a z : α} : (l ++ [a]).getD l.length z = a := by
  rw [List.getD_eq_getElem?_getD, List.getElem?_append_right (Nat.le_refl _), Nat.sub_self]
  rfl
theorem firsts_len (ls : List (Int × Int)) (i : Nat) : (firsts ls i).length ≤ (firsts ls (i + 1)).length := by
  cases h : isFirst ls i with
  | true =>
    rw [firsts_yes h, List.length_append]
    omega
  | false =>
    rw [firsts_no h]
    exact Nat.le_refl _
theorem firsts_pre {ls : List (Int × Int)} {i g : Nat} (hg : g < (firsts ls i).length) : (firsts ls (i + 1)).getD g 0 = (firsts ls i).getD g 0 := by
  cases h : isFirst ls i with
  | true => rw [firsts_yes h, getD_app hg]
  | false => rw [firsts_no h]
theorem firsts_get {ls : List (Int × Int)} {i g : Nat} (hg : g < (firsts ls i).length) : (firsts ls i).getD g 0 < i ∧ isFirst ls ((firsts ls i).getD g 0) = true := by
  have h : (firsts ls i).getD g 0 ∈ firsts ls i := List.mem_of_getElem? (getD_of hg)
  have h2 := List.mem_filter.mp h
  exact ⟨List.mem_range.mp h2.1, h2.2⟩
theorem firsts_le (ls : List (Int × Int)) (i : Nat) : (firsts ls i).length ≤ i := by
  have h := List.length_filter_le (isFirst ls) (List.range i)
  rw [List.length_range] at h
  exact h
theorem firsts_inj {ls : List (Int × Int)} {i g g' : Nat} (hg : g < (firsts ls i).length) (hg' : g' < (firsts ls i).length) (e : lf ls ((firsts ls i).getD g 0) = lf ls ((firsts ls i).getD g' 0)) : g = g' := by
  have er : (firsts ls i).getD g 0 = (firsts ls i).getD g' 0 := by
    rcases Nat.lt_trichotomy ((firsts ls i).getD g 0) ((firsts ls i).getD g' 0) with h | h | h
    · exact absurd e (isFirst_ne (firsts_get hg').2 h)
    · exact h
    · exact absurd e.symm (isFirst_ne (firsts_get hg).2 h)
  have nd : (firsts ls i).Nodup := List.Pairwise.filter _ List.nodup_range
  have h1 : (firsts ls i)[g]? = some ((firsts ls i).getD g 0) := getD_of hg
  have h2 : (firsts ls i)[g']? = some ((firsts ls i).getD g 0) := by
    rw [er]
    exact getD_of hg'
  have hh := (List.getElem?_eq_some_iff.mp h1).2
  have hh2 := (List.getElem?_eq_some_iff.mp h2).2
  exact (List.getElem_inj (h₀ := hg) (h₁ := hg') nd).mp (hh.trans hh2.symm)
theorem firsts_ex {ls : List (Int × Int)} : ∀ {k j : Nat}, j < k → ∃ g, g < (firsts ls k).length ∧ lf ls ((firsts ls k).getD g 0) = lf ls j
  | 0, j, h => absurd h (Nat.not_lt_zero _)
  | k + 1, j, h => by
    have old : ∀ j, j < k → ∃ g, g < (firsts ls (k + 1)).length ∧ lf ls ((firsts ls (k + 1)).getD g 0) = lf ls j := fun j hj => by
      obtain ⟨g, h1, h2⟩ := firsts_ex (ls := ls) hj
      exact ⟨g, Nat.lt_of_lt_of_le h1 (firsts_len ls k), by rw [firsts_pre h1]; exact h2⟩
    by_cases hj : j < k
    · exact old j hj
    · have ej : j = k := by omega
      subst ej
      cases hf : isFirst ls j with
      | true => exact ⟨(firsts ls j).length, by rw [firsts_yes hf, List.length_append]; exact Nat.lt_succ_self _, by rw [firsts_yes hf, getD_end]⟩
      | false =>
        obtain ⟨i, hi, e⟩ := isFirst_no hf
        obtain ⟨g, h1, h2⟩ := old i hi
        exact ⟨g, h1, h2.trans e⟩
theorem idxN_none {p : Int × Int → Bool} {ls : List (Int × Int)} : ∀ {i : Nat}, (∀ j, j < i → p (lf ls j) = false) → idxN p ls i = []
  | 0, _ => rfl
  | i + 1, h => by
    rw [idxN_no (h i (Nat.lt_succ_self _))]
    exact idxN_none fun j hj => h j (Nat.lt_succ_of_lt hj)
theorem idxN_head {p : Int × Int → Bool} {ls : List (Int × Int)} {r : Nat} (hp : p (lf ls r) = true) (hn : ∀ j, j < r → p (lf ls j) = false) : ∀ {i : Nat}, r < i → (idxN p ls i)[0]? = some ((r : Nat) : Int)
  | 0, h => absurd h (Nat.not_lt_zero _)
  | i + 1, h => by
    by_cases hr : r < i
    · have ih := idxN_head (i := i) hp hn hr
      have l0 : 0 < (idxN p ls i).length := (List.getElem?_eq_some_iff.mp ih).1
      cases hq : p (lf ls i) with
      | true =>
        rw [idxN_yes hq, List.getElem?_append_left l0]
        exact ih
      | false =>
        rw [idxN_no hq]
        exact ih
    · have e : r = i := by omega
      subst e
      rw [idxN_yes hp, idxN_none hn]
      rfl
/-- what the row of group g holds -/
def RR (ls : List (Int × Int)) (i g : Nat) : List Int := idxN (pLike (lf ls ((firsts ls i).getD g 0))) ls i
theorem RR_head {ls : List (Int × Int)} {i g : Nat} (hg : g < (firsts ls i).length) : (RR ls i g)[0]? = some (((firsts ls i).getD g 0 : Nat) : Int) := by
  obtain ⟨h1, h2⟩ := firsts_get hg
  exact idxN_head (decide_eq_true rfl) (fun j hj => decide_eq_false (isFirst_ne h2 hj)) h1
theorem RR_same {ls : List (Int × Int)} {i g p : Nat} (hf : isFirst ls i = false) (hp : p < (firsts ls i).length) (ep : lf ls ((firsts ls i).getD p 0) = lf ls i) (hg : g < (firsts ls i).length) : RR ls (i + 1) g = if g = p then RR ls i p ++ [((i : Nat) : Int)] else RR ls i g := by
  unfold RR
  rw [firsts_no hf]
  by_cases h : g = p
  · subst h
    rw [if_pos rfl]
    exact idxN_yes (decide_eq_true ep.symm)
  · rw [if_neg h]
    exact idxN_no (decide_eq_false fun e => h (firsts_inj hg hp (e.symm.trans ep.symm)))
theorem RR_next {ls : List (Int × Int)} {i g : Nat} (hf : isFirst ls i = true) (hg : g < (firsts ls i).length + 1) : RR ls (i + 1) g = if g = (firsts ls i).length then [] ++ [((i : Nat) : Int)] else RR ls i g := by
  unfold RR
  rw [firsts_yes hf]
  by_cases h : g = (firsts ls i).length
  · subst h
    rw [if_pos rfl, getD_end, idxN_yes (decide_eq_true rfl), idxN_none fun j hj => decide_eq_false (isFirst_ne hf hj)]
  · have hg' : g < (firsts ls i).length := by omega
    rw [if_neg h, getD_app hg']
    exact idxN_no (decide_eq_false fun e => isFirst_ne hf (firsts_get hg').1 e.symm)
def WhOk (ls : List (Int × Int)) (i : Nat) (ws : List Nat) : Prop := ws.length = i ∧ ∀ k, k < i → ws.getD k 0 < (firsts ls i).length ∧ lf ls ((firsts ls i).getD (ws.getD k 0) 0) = lf ls k
theorem WhOk.step {ls : List (Int × Int)} {i p : Nat} {ws : List Nat} (h : WhOk ls i ws) (hp : p < (firsts ls (i + 1)).length) (e : lf ls ((firsts ls (i + 1)).getD p 0) = lf ls i) : WhOk ls (i + 1) (ws ++ [p]) := by
  obtain ⟨h1, h2⟩ := h
  refine ⟨by rw [List.length_append, h1]; rfl, fun k hk => ?_⟩
  by_cases hki : k < i
  · obtain ⟨q1, q2⟩ := h2 k hki
    rw [getD_app (by omega)]
    exact ⟨Nat.lt_of_lt_of_le q1 (firsts_len ls i), by rw [firsts_pre q1]; exact q2⟩
  · have ek : k = ws.length := by omega
    rw [ek, getD_end]
    exact ⟨hp, by rw [e, h1]⟩
theorem mem_likes {ls : List (Int × Int)} {i j : Nat} (hj : j < ls.length) (e : lf ls j = lf ls i) : ((j : Nat) : Int) ∈ likes ls i :=
  List.mem_map.mpr ⟨j, List.mem_filter.mpr ⟨List.mem_range.mpr hj, decide_eq_true e⟩, rfl⟩
theorem likes_asc (ls : List (Int × Int)) (i : Nat) : (likes ls i).Pairwise (· < ·) :=
  List.Pairwise.map _ (fun a b h => by omega) (List.Pairwise.filter _ List.pairwise_lt_range)
theorem head_least {l : List Int} (h : l.Pairwise (· < ·)) {x : Int} (hx : x ∈ l) : l.getD 0 0 ≤ x := by
  cases l with
  | nil => cases hx
  | cons a r =>
    show a ≤ x
    rcases List.mem_cons.mp hx with rfl | hx
    · exact Int.le_refl _
    · exact Int.le_of_lt ((List.pairwise_cons.mp h).1 x hx)
theorem likes_first {ls : List (Int × Int)} {i : Nat} (hi : i < ls.length) : decide ((likes ls i).getD 0 0 = ((i : Nat) : Int)) = isFirst ls i := by
  cases hf : isFirst ls i with
  | true =>
    have h : (likes ls i)[0]? = some ((i : Nat) : Int) := idxN_head (p := pLike (lf ls i)) (decide_eq_true rfl) (fun j hj => decide_eq_false (isFirst_ne hf hj)) hi
    rw [List.getD_eq_getElem?_getD, h]
    exact decide_eq_true rfl
  | false =>
    obtain ⟨j, hj, e⟩ := isFirst_no hf
    have := head_least (likes_asc ls i) (mem_likes (Nat.lt_trans hj hi) e)
    exact decide_eq_false (by omega)
theorem range_getD (l : List Nat) : (List.range l.length).map (fun g => l.getD g 0) = l := by
  refine List.ext_getElem? fun i => ?_
  rw [List.getElem?_map]
  by_cases h : i < l.length
  · rw [List.getElem?_range h, getD_of (z := 0) h]
    rfl
  · rw [List.getElem?_eq_none (by rw [List.length_range]; omega), List.getElem?_eq_none (by omega)]
    rfl
theorem likeSets_eq (ls : List (Int × Int)) : outs (fun g => decide (1 < ((RR ls ls.length g).length : Int))) (fun g => .tup ((RR ls ls.length g).map D.int)) (firsts ls ls.length).length = tsD (likeSets ls) := by
  have e1 : (List.range ls.length).filter (fun i => decide (1 < ((likes ls i).length : Int)) && decide ((likes ls i).getD 0 0 = ((i : Nat) : Int))) = (firsts ls ls.length).filter fun i => decide (1 < ((likes ls i).length : Int)) := by
    unfold firsts
    rw [List.filter_filter]
    refine List.filter_congr fun i hi => ?_
    rw [likes_first (List.mem_range.mp hi)]
  unfold outs tsD likeSets
  rw [e1, List.map_map]
  have e2 : ∀ (a : Nat → Bool) (f : Nat → D) (l : List Nat), ((List.range l.length).filter fun g => a (l.getD g 0)).map (fun g => f (l.getD g 0)) = (l.filter a).map f := fun a f l => by
    have h : l.filter a = ((List.range l.length).map fun g => l.getD g 0).filter a := by rw [range_getD]
    rw [h, List.filter_map, List.map_map]
    rfl
  exact e2 (fun i => decide (1 < ((likes ls i).length : Int))) (fun i => .tup ((likes ls i).map D.int)) (firsts ls ls.length)
theorem oks_ts {m : Nat} {xs : List (List Int)} (h : xs.length ≤ 100000) (h2 : ∀ l ∈ xs, l.length ≤ 100000) : OkS (m + 2) (.tup (tsD xs)) := .inr ⟨_, rfl, by unfold tsD; rw [List.length_map]; exact h, fun x hx => by
  obtain ⟨l, hl, rfl⟩ := List.mem_map.mp hx
  exact oks_ints (h2 l hl)⟩
theorem at_ptr {as : List Addr} {j : Nat} {a : Addr} (e : as[j]? = some a) : atI (as.map D.ptr) (j : Int) = some (.ptr a) := by
  refine at_nat rfl ?_
  rw [List.getElem?_map, e]
  rfl
theorem at_int {ns : List Int} {j : Nat} {a : Int} (e : ns[j]? = some a) : atI (ns.map D.int) (j : Int) = some (.int a) := by
  refine at_nat rfl ?_
  rw [List.getElem?_map, e]
  rfl
/-- a new row -/
theorem Rows.grow {H H2 : Hp} {q a : Addr} {as : List Addr} {R R' : Nat → List Int} {vs : List V} (h : Rows K H q as R) (g : G τ [] H H2) (na : Nw H a) (ha : Ls K H2 a []) (hq : H2 q = some (.lst vs)) (hvs : ImA K H2 vs (as.map D.ptr)) (hR : ∀ k, k < as.length → R' k = R k) (hR2 : R' as.length = []) : Rows K (upd H2 q (.lst (vs ++ [.ref a]))) q (as ++ [a]) R' := by
  obtain ⟨n1, n2⟩ := h.new na
  refine ⟨⟨_, upd_same, ?_⟩, ?_, ?_, fun k b e => ?_⟩
  · rw [List.map_append]
    exact (hvs.append (.cons (.ptr a) .nil)).putH hq
  · rw [List.nodup_append]
    exact ⟨h.nd, by simp, fun x hx y hy z => n2 (by rw [← List.mem_singleton.mp hy, ← z]; exact hx)⟩
  · rw [List.mem_append, List.mem_singleton]
    rintro (z | z)
    · exact h.out z
    · exact n1 z.symm
  · by_cases hk : k < as.length
    · rw [List.getElem?_append_left hk] at e
      rw [hR k hk]
      exact lsPut ((h.row k b e).up0 g) (fun z => h.out (by rw [← z]; exact List.mem_of_getElem? e)) hq
    · have hk2 : k = as.length := by
        have := (List.getElem?_eq_some_iff.mp e).1
        rw [List.length_append, List.length_singleton] at this
        omega
      subst hk2
      rw [List.getElem?_append_right (Nat.le_refl _), Nat.sub_self] at e
      have e' : a = b := Option.some.inj e
      subst e'
      rw [hR2]
      exact lsPut ha n1 hq
theorem Rows.congr {H : Hp} {q : Addr} {as : List Addr} {R R' : Nat → List Int} (h : Rows K H q as R) (e : ∀ k, k < as.length → R' k = R k) : Rows K H q as R' := ⟨h.top, h.nd, h.out, fun k a ha => by
  rw [e k (List.getElem?_eq_some_iff.mp ha).1]
  exact h.row k a ha⟩
abbrev natD (g : Nat) : D := .int ((g : Nat) : Int)
theorem ok__law_likes (T : Txt K mg) : FnOk P w K mg base L2.CX0 7 T._law_likes.f T._law_likes.fd ["_law_pile"] (spF τ K FTrue1) := by
  have G__law_same : FnOk P w K mg base L2.CX0 3 T._law_same.f T._law_same.fd _ _ := ok__law_same (τ := τ) T 3
  have G_like_leaves : FnOk P w K mg base L2.CX0 5 T.like_leaves.f T.like_leaves.fd _ _ := ok_like_leaves (τ := τ) T
  have G_like_sets : FnOk P w K mg base L2.CX0 6 T.like_sets.f T.like_sets.fd _ _ := ok_like_sets (τ := τ) T
  refine T._law_likes.F.ok sc__law_likes (fun vs H Q E h => ?_) (fun cdv A outer s H vs Q E hr h => ?_)
  · obtain ⟨ds, r, h1, _, ⟨_, _, rfl, _⟩, _⟩ := h
    exact h1.length
  · obtain ⟨ds, r, hv, tb, ⟨n, ls, rfl, n0, n1, l1, hb, rfl⟩, q⟩ := h
    obtain ⟨x, rfl, hx⟩ := ima1 hv
    refine ⟨_, (pss_cons (ps_set (i := 1) sc__law_likes.nd rfl (by first | exact .inl rfl | exact .inr rfl) (pe_ix (r := rIx K) ix_seq (pv 0) pe_int (fun _ _ => rfl)))
      (pss_cons (ps_set (i := 2) sc__law_likes.nd rfl (by first | exact .inl rfl | exact .inr rfl) (pe_lst pa_nil))
      (pss_cons (ps_set (i := 3) sc__law_likes.nd rfl (by first | exact .inl rfl | exact .inr rfl) (pe_lst pa_nil))
      (pss_cons (ps_for PassesOwn.never rfl (pi_range1 (by rfl) T.z_range (pa_cons (pe_callB (r := rLenQ K) call_len_seq (by rfl) T.z_len (by decide +kernel) (pa_cons (pv 1) pa_nil)) pa_nil)) (pg_name (i := 4) sc__law_likes.nd rfl (by first | exact .inl rfl | exact .inr rfl)) (pss_cons (ps_set (i := 5) sc__law_likes.nd rfl (by first | exact .inl rfl | exact .inr rfl) (pe_callB (r := rLenQ K) call_len_seq (by rfl) T.z_len (by decide +kernel) (pa_cons (pv 2) pa_nil)))
      (pss_cons (ps_for PassesOwn.never rfl (pi_range1 (by rfl) T.z_range (pa_cons (pe_callB (r := rLenQ K) call_len_seq (by rfl) T.z_len (by decide +kernel) (pa_cons (pv 2) pa_nil)) pa_nil)) (pg_name (i := 6) sc__law_likes.nd rfl (by first | exact .inl rfl | exact .inr rfl)) (pss_one (ps_if (pt_cmpR (r := rEqD K) (op_eqD hr.units) (pe_ix (r := rIx K) ix_seq (pv 1) (pe_ix (r := rIx K) ix_seq (pe_ix (r := rIx K) ix_seq (pv 2) (pv 6) (fun _ _ => rfl)) pe_int (fun _ _ => rfl)) (fun _ _ => rfl)) (pe_ix (r := rIx K) ix_seq (pv 1) (pv 4) (fun _ _ => rfl)) (nomark _)) (pss_one (ps_set (i := 5) sc__law_likes.nd rfl (by first | exact .inl rfl | exact .inr rfl) (pv 6))) pss_nil)))
      (Evl.pss_cut (ps_if (pt_cmpR op_eq (pv 5) (pe_callB (r := rLenQ K) call_len_seq (by rfl) T.z_len (by decide +kernel) (pa_cons (pv 2) pa_nil)) (nomark _)) (pss_one (ps_expr (pe_bm PySem.F.plainAttrs_list PySem.F.slot_list_append PySem.F.type_list_append mt_append (pv 2) (pa_cons (pe_lst pa_nil) pa_nil)))) pss_nil)
      (pss_cons (ps_expr (pe_bm PySem.F.plainAttrs_list PySem.F.slot_list_append PySem.F.type_list_append mt_append (pe_ix (r := rIx K) ix_seq (pv 2) (pv 5) (fun _ _ => rfl)) (pa_cons (pv 4) pa_nil)))
      (pss_one (ps_expr (pe_bm PySem.F.plainAttrs_list PySem.F.slot_list_append PySem.F.type_list_append mt_append (pv 3) (pa_cons (pv 5) pa_nil)))))))))
      (pss_cons (ps_for PassesOwn.never rfl (pi_range1 (by rfl) T.z_range (pa_cons (pe_callB (r := rLenQ K) call_len_seq (by rfl) T.z_len (by decide +kernel) (pa_cons (pv 1) pa_nil)) pa_nil)) (pg_name (i := 4) sc__law_likes.nd rfl (by first | exact .inl rfl | exact .inr rfl)) (pss_one (ps_if (pt_not (pt_val (pc T._law_same G__law_same (hr.mono (by decide)) (by rfl) (pa_cons (pc T.like_leaves G_like_leaves (hr.mono (by decide)) (by rfl) (pa_cons (pv 0) (pa_cons (pv 4) pa_nil))) (pa_cons (pe_callTy (r := rTupQ K) call_tuple_of (by rfl) T.z_tuple (by decide +kernel) (pa_cons (pe_ix (r := rIx K) ix_seq (pv 2) (pe_ix (r := rIx K) ix_seq (pv 3) (pv 4) (fun _ _ => rfl)) (fun _ _ => rfl)) pa_nil)) pa_nil))))) (pss_one (ps_ret pe_bl)) pss_nil)))
      (pss_one (ps_ret (pc T._law_same G__law_same (hr.mono (by decide)) (by rfl) (pa_cons (pc T.like_sets G_like_sets (hr.mono (by decide)) (by rfl) (pa_cons (pv 0) pa_nil)) (pa_cons (pe_callTy (r := rTupQ K) call_tuple_of (by rfl) T.z_tuple (by decide +kernel) (pa_cons (pe_lc (own := [("_law_group", 7)]) (g := (gName 7)) (tt := _) rfl sc__law_likes.nd (pi_list (pv 2)) (blkOk_by (own := [("_law_group", 7)]) (N := ["_law_pile", "_law_leaves", "_law_groups", "_law_where", "_law_k", "_law_place", "_law_g", "_law_group"]) (sc := defScope s__law_likes) (by decide +kernel)) (fun _ _ _ _ _ => (pg_name (i := 7) sc__law_likes.nd rfl (by first | exact .inl rfl | exact .inr rfl))) (fun _ _ _ _ _ => pts_one (pt_cmpR op_gt (pe_callB (r := rLenQ K) call_len_seq (by rfl) T.z_len (by decide +kernel) (pa_cons (pv 7) pa_nil)) pe_int (nomark _))) (fun _ _ _ _ _ => (pe_callTy (r := rTupQ K) call_tuple_of (by rfl) T.z_tuple (by decide +kernel) (pa_cons (pv 7) pa_nil)))) pa_nil)) pa_nil)))))))))), ?_⟩
    have hll : (ls.map prD).length = ls.length := List.length_map ..
    refine s_asgI (K := K) tb (ei_ixT (ei_var (i := 0) rfl hx) ei_i rfl) fun v H1 g1 hv2 => ?_
    refine s_asgN (K := K) (ds := []) g1.tabs (en_lst ea_nil (by decide)) fun q1 H2 g2 nq hq => ?_
    refine s_asgN (K := K) (ds := []) g2.tabs (en_lst ea_nil (by decide)) fun wh H3 g3 nw hw => ?_
    have nqw : q1 ≠ wh := Nw.neLs nw hq
    have g13 := g2.trans g3
    have Nwh : Nw H1 wh := nw.back0 g2
    refine s_forR (K := K) (n := (ls.length : Int)) g3.tabs (ea_cons (ei_is (ei_lenT (ei_var (i := 1) rfl (hv2.up g13))) (by rw [hll])) ea_nil) (by omega)
      (fun i σ H' => ∃ (v4 v5 v6 : Option V) (as : List Addr) (ws : List Nat), σ = [some x, some v, some (.ref q1), some (.ref wh), v4, v5, v6, none] ∧ G τ [] H1 H' ∧ Rows K H' q1 as (RR ls i) ∧ as.length = (firsts ls i).length ∧ (∀ a ∈ as, Nw H1 a ∧ a ≠ wh) ∧ Ls K H' wh (ws.map natD) ∧ WhOk ls i ws) (fun H5 g5 => ?_) (fun i σ H5 hi hP => ?_) fun σ H5 hP => ?_
    · exact ⟨none, none, none, [], [], rfl, g13.trans g5, ⟨(hq.up0 g3).up0 g5, List.nodup_nil, by simp, fun k a e => by simp at e⟩, rfl, (fun a h => by cases h), hw.up0 g5, rfl, fun k hk => absurd hk (Nat.not_lt_zero _)⟩
    · obtain ⟨v4, v5, v6, as, ws, rfl, g, r1, la, na, hws, hok⟩ := hP
      have hi' : i < ls.length := by omega
      have hv5 := hv2.up g
      -- place = len(groups)
      refine s_asgZ (K := K) g.tabs (n := ((firsts ls i).length : Int)) (ei_is (ei_lenL (ei_var (i := 2) rfl (.ptr q1)) r1.top.lr) (by rw [List.length_map, la])) fun H6 g6 => ?_
      have g06 := g.trans g6
      have r6 := r1.up g6
      have hfl := firsts_le ls i
      -- looks for it
      refine s_forR (K := K) (n := ((firsts ls i).length : Int)) g6.tabs (ea_cons (ei_is (ei_lenL (ei_var (i := 2) rfl (.ptr q1)) r6.top.lr) (by rw [List.length_map, la])) ea_nil) (by omega)
        (fun j σ H' => ∃ (v6 : Option V) (p : Nat), σ = [some x, some v, some (.ref q1), some (.ref wh), some (.int (i : Int)), some (.int (p : Int)), v6, none] ∧ G τ [] H6 H' ∧ ((p = (firsts ls i).length ∧ ∀ g, g < j → lf ls ((firsts ls i).getD g 0) ≠ lf ls i) ∨ (p < (firsts ls i).length ∧ lf ls ((firsts ls i).getD p 0) = lf ls i)))
        (fun H7 g7 => ⟨v6, _, rfl, g7, .inl ⟨rfl, fun g hg => absurd hg (Nat.not_lt_zero _)⟩⟩) (fun j σ H7 hj hP => ?_) fun σ H7 hP => ?_
      · obtain ⟨v6, p, rfl, g7, hp⟩ := hP
        have hj' : j < (firsts ls i).length := by omega
        have aj : as[j]? = some (as.getD j 0) := getD_of (by omega)
        have r7 := r6.up g7
        refine s_if g7.tabs (et_test (K := K) (ei_eqPr (ei_ixT (ei_var (i := 1) rfl (hv5.up (g6.trans g7))) (ei_ixL (ei_ixL (ei_var (i := 2) rfl (.ptr q1)) r7.top.lr (ei_var (i := 6) rfl (.int _)) (at_ptr aj)) (r7.row j _ aj).lr ei_i (at_int (j := 0) (RR_head hj'))) (at_leaf (by have := (firsts_get hj').1; omega))) (ei_ixT (ei_var (i := 1) rfl (hv5.up (g6.trans g7))) (ei_var (i := 4) rfl (.int _)) (at_leaf hi')))) (fun e H8 g8 => ?_) fun e H8 g8 => ?_
        · refine s_asgZ (K := K) g8.tabs (ei_var (i := 6) rfl (.int _)) fun H9 g9 => ?_
          exact ⟨_, j, rfl, (g7.trans g8).trans g9, .inr ⟨hj', of_decide_eq_true e⟩⟩
        · refine ⟨_, p, rfl, g7.trans g8, ?_⟩
          rcases hp with ⟨e1, e2⟩ | h
          · refine .inl ⟨e1, fun g hg => ?_⟩
            by_cases hgj : g < j
            · exact e2 g hgj
            · rw [show g = j by omega]
              exact of_decide_eq_false e
          · exact .inr h
      · obtain ⟨v6, p, rfl, g7, hp⟩ := hP
        rw [Int.toNat_natCast] at hp
        have hp1 : (p = (firsts ls i).length ∧ isFirst ls i = true) ∨ (p < (firsts ls i).length ∧ isFirst ls i = false ∧ lf ls ((firsts ls i).getD p 0) = lf ls i) := by
          rcases hp with ⟨e1, e2⟩ | ⟨h1, h2⟩
          · refine .inl ⟨e1, isFirst_yes fun j hj e => ?_⟩
            obtain ⟨g, hg, hgd⟩ := firsts_ex (ls := ls) hj
            exact e2 g hg (hgd.trans e)
          · refine .inr ⟨h1, ?_, h2⟩
            cases hf : isFirst ls i with
            | false => rfl
            | true => exact absurd h2 (isFirst_ne hf (firsts_get h1).1)
        have g17 := g06.trans g7
        -- a new group
        refine ⟨fun σ H' => ∃ (as' : List Addr) (R' : Nat → List Int), σ = [some x, some v, some (.ref q1), some (.ref wh), some (.int (i : Int)), some (.int (p : Int)), v6, none] ∧ G τ [] H1 H' ∧ Rows K H' q1 as' R' ∧ as'.length = (firsts ls (i + 1)).length ∧ (∀ a ∈ as', Nw H1 a ∧ a ≠ wh) ∧ Ls K H' wh (ws.map natD) ∧ p < as'.length ∧ lf ls ((firsts ls (i + 1)).getD p 0) = lf ls i ∧ (R' p).length ≤ i ∧ ∀ g, g < as'.length → RR ls (i + 1) g = if g = p then R' p ++ [((i : Nat) : Int)] else R' g, ?_, fun σ H8 hP => ?_⟩
        · refine s_if g7.tabs (et_test (K := K) (ei_eqI (ei_var (i := 5) rfl (.int _)) (ei_is (ei_lenL (ei_var (i := 2) rfl (.ptr q1)) (r6.up g7).top.lr) (by rw [List.length_map, la])))) (fun e H8 g8 => ?_) fun e H8 g8 => ?_
          · have ep : ((p : Nat) : Int) = ((firsts ls i).length : Int) := of_decide_eq_true e
            have ep : p = (firsts ls i).length := by omega
            have hf : isFirst ls i = true := by
              rcases hp1 with ⟨_, h⟩ | ⟨h, _⟩
              · exact h
              · omega
            have r8 := (r6.up g7).up g8
            refine r_app (ms := []) (A := fun z H2 => ∃ a, z = .ref a ∧ Nw H8 a ∧ Ls K H2 a []) g8.tabs (ei_var (i := 2) rfl (.ptr q1)) r8.top (by simp) (by rw [List.length_map]; omega) (fun H9 g9 => Rn_imp (Ev.rn (en_lst ea_nil (by decide) : EvN τ K _ _ H9 []) g9.tabs) fun z H10 hz => ?_) fun z vs H9 g9 hz h9 hvs => ?_
            · obtain ⟨a, rfl, n1, h⟩ := hz
              exact ⟨a, rfl, n1.back0 g9, h⟩
            · obtain ⟨a, rfl, n8, ha⟩ := hz
              have nwa : wh ≠ a := Nw.neLs n8 ((hws.up0 g6).up0 (g7.trans g8))
              have gg8 := g17.trans g8
              have Nq : Nw H1 q1 := nq
              refine ⟨as ++ [a], fun k => if k < as.length then RR ls i k else [], rfl, (gg8.trans g9).put (.inr Nq) h9, r8.grow g9 n8 ha h9 hvs (fun k hk => if_pos hk) (if_neg (Nat.lt_irrefl _)), ?_, fun b hb => ?_, ?_, ?_, ?_, ?_, fun k hk => ?_⟩
              · rw [firsts_yes hf, List.length_append, List.length_append, la]
                rfl
              · rcases List.mem_append.mp hb with hb | hb
                · exact na b hb
                · rw [List.mem_singleton.mp hb]
                  exact ⟨n8.back0 gg8, nwa.symm⟩
              · exact lsPut (((hws.up0 g6).up0 (g7.trans g8)).up0 g9) nqw.symm h9
              · rw [List.length_append, la, ep]
                exact Nat.lt_succ_self _
              · rw [firsts_yes hf, ep, getD_end]
              · show (if p < as.length then RR ls i p else []).length ≤ i
                rw [if_neg (by omega)]
                exact Nat.zero_le _
              · rw [List.length_append, List.length_singleton, la] at hk
                rw [RR_next hf hk, ← ep]
                show _ = if k = p then (if p < as.length then RR ls i p else []) ++ [((i : Nat) : Int)] else if k < as.length then RR ls i k else []
                by_cases hkp : k = p
                · rw [if_pos hkp, if_pos hkp, if_neg (by omega)]
                · rw [if_neg hkp, if_neg hkp, if_pos (by omega)]
          · have ep : ¬ ((p : Nat) : Int) = ((firsts ls i).length : Int) := of_decide_eq_false e
            obtain ⟨p1, p2, p3⟩ : p < (firsts ls i).length ∧ isFirst ls i = false ∧ lf ls ((firsts ls i).getD p 0) = lf ls i := by
              rcases hp1 with ⟨h, _⟩ | h
              · omega
              · exact h
            exact ⟨as, RR ls i, rfl, g17.trans g8, (r6.up g7).up g8, by rw [firsts_no p2, la], na, (hws.up0 g6).up0 (g7.trans g8), by omega, by rw [firsts_no p2]; exact p3, idxN_len _ _ _, fun k hk => RR_same p2 p1 p3 (by omega)⟩
        · obtain ⟨as', R', rfl, g8, r8, la8, na8, hw8, p8, e8, l8, eR⟩ := hP
          -- the leaf into its group
          refine rows_app g8.tabs r8 (j := p) (by omega) (by omega) (fun a ha => ei_ixL (ei_var (i := 2) rfl (.ptr q1)) r8.top.lr (ei_var (i := 5) rfl (.int _)) (at_ptr ha)) (ei_var (i := 4) rfl (.int _)) fun a vs H9 ha g9 h9 r9 => ?_
          have ham : a ∈ as' := List.mem_of_getElem? ha
          have gg9 : G τ [] H1 (upd H9 a (.lst (vs ++ [.int (i : Int)]))) := (g8.trans g9).put (.inr (na8 a ham).1) h9
          have hw9 := lsPut (ys := vs ++ [.int (i : Int)]) (hw8.up0 g9) (na8 a ham).2.symm h9
          have lw : ws.length = i := hok.1
          refine r_app (ms := []) (A := fun z H2 => Im K H2 z (natD p)) gg9.tabs (ei_var (i := 3) rfl (.ptr wh)) hw9 (by simp) (by rw [List.length_map]; omega) (fun H10 g10 => (ei_var (i := 5) rfl (.int _)).rn g10.tabs) fun z us H10 g10 hz h10 hus => ?_
          refine ⟨_, _, _, as', ws ++ [p], rfl, (gg9.trans g10).put (.inr Nwh) h10, ((r9.up g10).other h10 nqw.symm fun z => (na8 _ z).2 rfl).congr fun k hk => eR k hk, la8, na8, ⟨_, upd_same, ?_⟩, hok.step (by omega) e8⟩
          rw [List.map_append]
          exact (hus.append (.cons hz .nil)).putH h10
    · obtain ⟨v4, v5, v6, as, ws, rfl, g, r1, la, na, hws, hok⟩ := hP
      rw [Int.toNat_natCast] at r1 la hok
      have hx1 := hx.up g1
      have bnd : ∀ p, (idx p ls).length ≤ 1000 := fun p => Nat.le_trans (idxN_len p ls ls.length) l1
      refine s_forR (K := K) (n := (ls.length : Int)) g.tabs (ea_cons (ei_is (ei_lenT (ei_var (i := 1) rfl (hv2.up g))) (by rw [hll])) ea_nil) (by omega) (fun i σ H' => ∃ v4, σ = [some x, some v, some (.ref q1), some (.ref wh), v4, v5, v6, none] ∧ G τ [] H5 H') (fun H6 g6 => ⟨v4, rfl, g6⟩) (fun i σ H6 hi hP => ?_) fun σ H6 hP => ?_
      · obtain ⟨v4', rfl, g6⟩ := hP
        have hi' : i < ls.length := by omega
        obtain ⟨w1, w2⟩ := hok.2 i hi'
        have x6 := hx1.up (g.trans g6)
        have a1 : as[ws.getD i 0]? = some (as.getD (ws.getD i 0) 0) := getD_of (by omega)
        have wi : ws[i]? = some (ws.getD i 0) := getD_of (by have := hok.1; omega)
        have eL : RR ls ls.length (ws.getD i 0) = likes ls i := by
          unfold RR
          rw [w2]
          rfl
        refine s_if g6.tabs (et_not (et_B (K := K) (ei_call (ea_cons (ei_call (ea_cons (ei_var (i := 0) rfl x6) (ea_cons (ei_var (i := 4) rfl (.int _)) ea_nil)) ⟨n, ls, i, rfl, hi', by omega, rfl⟩) (ea_cons (ei_is (ei_tupL (ei_ixL (ei_var (i := 2) rfl (.ptr q1)) (r1.top.up0 g6).lr (ei_ixL (ei_var (i := 3) rfl (.ptr wh)) (hws.up0 g6).lr (ei_var (i := 4) rfl (.int _)) (at_nat rfl (by rw [List.getElem?_map, wi]; rfl))) (at_ptr a1)) ((r1.row _ _ a1).up0 g6).lr) (by rw [eL])) ea_nil)) ⟨_, rfl, oks_ints (Nat.le_trans (bnd _) (by omega)), rfl⟩))) (fun e => by cases e) fun _ H7 g7 => ?_
        exact ⟨_, rfl, g6.trans g7⟩
      · obtain ⟨v4', rfl, g6⟩ := hP
        have r6 := r1.up g6
        have lS : (likeSets ls).length ≤ 1000 := by
          unfold likeSets
          rw [List.length_map]
          have h := List.length_filter_le (fun i => decide (1 < ((likes ls i).length : Int)) && decide ((likes ls i).getD 0 0 = ((i : Nat) : Int))) (List.range ls.length)
          rw [List.length_range] at h
          omega
        have hfl := firsts_le ls ls.length
        refine s_ret (K := K) g6.tabs (ei_call (ea_cons (ei_call (ea_cons (ei_var (i := 0) rfl (hx1.up (g.trans g6))) ea_nil) ⟨n, ls, rfl, by omega, rfl⟩) (ea_cons (ei_tupN (en_is (en_lcL (fun k => decide (1 < ((RR ls ls.length k).length : Int))) (fun k => .tup ((RR ls ls.length k).map D.int)) (ei_var (i := 2) rfl (.ptr q1)) r6.top.lr (by rw [List.length_map]; omega) (fun _ => rfl)
          (fun k d z H7 g7 hd hz => ?_) fun k d z H7 g7 hd hz _ => ?_) ?_)) ea_nil)) ⟨_, rfl, oks_ts (xs := likeSets ls) (by omega) (fun l hl => ?_), rfl⟩) fun v H7 g7 hv => q v H7 (((g1.trans g).trans g6).trans g7) hv
        · rw [List.getElem?_map] at hd
          obtain ⟨a, ha, rfl⟩ := Option.map_eq_some_iff.mp hd
          rw [im_ptr hz]
          exact et_test (K := K) (ei_is (ei_gt (ei_lenL (ei_var (i := 7) rfl (.ptr a)) ((r6.row k a ha).up0 g7).lr) ei_i) (by rw [List.length_map]))
        · rw [List.getElem?_map] at hd
          obtain ⟨a, ha, rfl⟩ := Option.map_eq_some_iff.mp hd
          rw [im_ptr hz]
          exact ei_tupL (ei_var (i := 7) rfl (.ptr a)) ((r6.row k a ha).up0 g7).lr
        · rw [List.length_map, la]
          exact likeSets_eq ls
        · unfold likeSets at hl
          obtain ⟨i, _, rfl⟩ := List.mem_map.mp hl
          exact Nat.le_trans (bnd _) (by omega)
end
end K01
namespace K01
open PySem PySem.Spec PyProof.Rows L2 LamX NdefX Clo LRev U
section
variable {P : Program} {w : World} {K : PySem.W.Frag} {mg : Str → Option Value} {base : Heap} {τ : TL}
/-! ### cuts -/
def b2i (a : Bool) : Int := if a = true then 1 else 0
def sideZ (a b : Bool) : Int := b2i a * 2 + b2i b
theorem side3 (a b : Bool) : decide (sideZ a b = 3) = ((a == true) && (b == true)) := by cases a <;> cases b <;> rfl
theorem side2 (a b : Bool) : decide (sideZ a b = 2) = ((a == true) && (b == false)) := by cases a <;> cases b <;> rfl
theorem side1 (a b : Bool) : decide (sideZ a b = 1) = ((a == false) && (b == true)) := by cases a <;> cases b <;> rfl
def spCuts (τ : TL) (K : PySem.W.Frag) : Sp := fun vs H Q _ => ∃ (x : V) (o : Addr) (n : Int) (ls : List (Int × Int)) (ts : List (List Int)), vs = [x, .ref o] ∧ Tabs τ H ∧ Im K H x (hD n ls) ∧ ls.length ≤ 1000 ∧ Ls K H o (ts.map lotD) ∧ (∀ t ∈ ts, lotOk n t = true ∧ t.length ≤ 1000) ∧ ∀ H2, G τ [] H H2 → Q (.bl true) H2
theorem ok__law_cuts (T : Txt K mg) {c Pt : Addr} (L : Lm T base τ c Pt) : FnOk P w K mg base L2.CX0 12 T._law_cuts.f T._law_cuts.fd ["_law_pile", "_law_lots_here"] (spCuts τ K) := by
  have G__law_same : FnOk P w K mg base L2.CX0 3 T._law_same.f T._law_same.fd _ _ := ok__law_same (τ := τ) T 3
  have G_gates_of : FnOk P w K mg base L2.CX0 11 T.gates_of.f T.gates_of.fd _ _ := ok_gates_of T L
  have G_leaving : FnOk P w K mg base L2.CX0 10 T.leaving.f T.leaving.fd _ _ := ok_leaving T L
  have G_within : FnOk P w K mg base L2.CX0 10 T.within.f T.within.fd _ _ := ok_within T L
  have G_entering : FnOk P w K mg base L2.CX0 10 T.entering.f T.entering.fd _ _ := ok_entering T L
  refine T._law_cuts.F.ok sc__law_cuts (fun vs H Q E h => ?_) (fun cdv A outer s H vs Q E hr h => ?_)
  · obtain ⟨_, _, _, _, _, rfl, _⟩ := h
    rfl
  · obtain ⟨x, o, n, ls, ts, rfl, tb, hx, l1, ho, hts, q⟩ := h
    refine ⟨_, (pss_cons (ps_for PassesOwn.never rfl (pi_list (pv 1)) (pg_name (i := 2) sc__law_cuts.nd rfl (by first | exact .inl rfl | exact .inr rfl)) (pss_cons (ps_set (i := 3) sc__law_cuts.nd rfl (by first | exact .inl rfl | exact .inr rfl) (pe_lst pa_nil))
      (pss_cons (ps_set (i := 4) sc__law_cuts.nd rfl (by first | exact .inl rfl | exact .inr rfl) (pe_lst pa_nil))
      (pss_cons (ps_set (i := 5) sc__law_cuts.nd rfl (by first | exact .inl rfl | exact .inr rfl) (pe_lst pa_nil))
      (pss_cons (ps_for PassesOwn.never rfl (pi_range1 (by rfl) T.z_range (pa_cons (pe_callB (r := rLenQ K) call_len_seq (by rfl) T.z_len (by decide +kernel) (pa_cons (pe_ix (r := rIx K) ix_seq (pv 0) pe_int (fun _ _ => rfl)) pa_nil)) pa_nil)) (pg_name (i := 6) sc__law_cuts.nd rfl (by first | exact .inl rfl | exact .inr rfl)) (pss_cons (ps_set (i := 7) sc__law_cuts.nd rfl (by first | exact .inl rfl | exact .inr rfl) (pe_op op_add (pe_op op_mul (pe_callTy call_int1 (by rfl) T.z_int (by decide +kernel) (pa_cons (pe_cmpR (r := rIn K false) op_in_seq (pe_ix (r := rIx K) ix_seq (pe_ix (r := rIx K) ix_seq (pe_ix (r := rIx K) ix_seq (pv 0) pe_int (fun _ _ => rfl)) (pv 6) (fun _ _ => rfl)) pe_int (fun _ _ => rfl)) (pv 2) (by rfl)) pa_nil)) pe_int) (pe_callTy call_int1 (by rfl) T.z_int (by decide +kernel) (pa_cons (pe_cmpR (r := rIn K false) op_in_seq (pe_ix (r := rIx K) ix_seq (pe_ix (r := rIx K) ix_seq (pe_ix (r := rIx K) ix_seq (pv 0) pe_int (fun _ _ => rfl)) (pv 6) (fun _ _ => rfl)) pe_int (fun _ _ => rfl)) (pv 2) (by rfl)) pa_nil))))
      (Evl.pss_cut (ps_if (pt_cmpR op_eq (pv 7) pe_int (nomark _)) (pss_one (ps_expr (pe_bm PySem.F.plainAttrs_list PySem.F.slot_list_append PySem.F.type_list_append mt_append (pv 3) (pa_cons (pv 6) pa_nil)))) pss_nil)
      (Evl.pss_cut (ps_if (pt_cmpR op_eq (pv 7) pe_int (nomark _)) (pss_one (ps_expr (pe_bm PySem.F.plainAttrs_list PySem.F.slot_list_append PySem.F.type_list_append mt_append (pv 4) (pa_cons (pv 6) pa_nil)))) pss_nil)
      (pss_one (ps_if (pt_cmpR op_eq (pv 7) pe_int (nomark _)) (pss_one (ps_expr (pe_bm PySem.F.plainAttrs_list PySem.F.slot_list_append PySem.F.type_list_append mt_append (pv 5) (pa_cons (pv 6) pa_nil)))) pss_nil))))))
      (pss_cons (ps_if (PW.pt (pw_or (pt_not (pt_val (pc T._law_same G__law_same (hr.mono (by decide)) (by rfl) (pa_cons (pc T.gates_of G_gates_of (hr.mono (by decide)) (by rfl) (pa_cons (pv 0) (pa_cons (pv 2) pa_nil))) (pa_cons (pe_callB (r := rLenQ K) call_len_seq (by rfl) T.z_len (by decide +kernel) (pa_cons (pv 4) pa_nil)) pa_nil))))) (pw_or1 (pt_not (pt_val (pc T._law_same G__law_same (hr.mono (by decide)) (by rfl) (pa_cons (pc T.leaving G_leaving (hr.mono (by decide)) (by rfl) (pa_cons (pv 0) (pa_cons (pv 2) pa_nil))) (pa_cons (pe_callTy (r := rTupQ K) call_tuple_of (by rfl) T.z_tuple (by decide +kernel) (pa_cons (pv 4) pa_nil)) pa_nil)))))))) (pss_one (ps_ret pe_bl)) pss_nil)
      (pss_one (ps_if (PW.pt (pw_or (pt_not (pt_val (pc T._law_same G__law_same (hr.mono (by decide)) (by rfl) (pa_cons (pc T.within G_within (hr.mono (by decide)) (by rfl) (pa_cons (pv 0) (pa_cons (pv 2) pa_nil))) (pa_cons (pe_callTy (r := rTupQ K) call_tuple_of (by rfl) T.z_tuple (by decide +kernel) (pa_cons (pv 3) pa_nil)) pa_nil))))) (pw_or1 (pt_not (pt_val (pc T._law_same G__law_same (hr.mono (by decide)) (by rfl) (pa_cons (pc T.entering G_entering (hr.mono (by decide)) (by rfl) (pa_cons (pv 0) (pa_cons (pv 2) pa_nil))) (pa_cons (pe_callTy (r := rTupQ K) call_tuple_of (by rfl) T.z_tuple (by decide +kernel) (pa_cons (pv 5) pa_nil)) pa_nil)))))))) (pss_one (ps_ret pe_bl)) pss_nil))))))))
      (pss_one (ps_ret pe_bl))), ?_⟩
    have hll : (ls.map prD).length = ls.length := List.length_map ..
    refine s_forL (K := K) tb (ei_var (i := 1) rfl (.ptr o)) ho.lr (fun i σ H' => ∃ (v2 v3 v4 v5 v6 v7 : Option V), σ = [some x, some (.ref o), v2, v3, v4, v5, v6, v7] ∧ G τ [] H H') (fun H1 g1 => ⟨_, _, _, _, _, _, rfl, g1⟩) (fun i σ H1 hP => ?_) (fun i d z σ H1 hd hz hP => ?_) fun σ H1 hP => ?_
    · obtain ⟨_, _, _, _, _, _, _, g1⟩ := hP
      exact (ho.up0 g1).lr
    · obtain ⟨v2, v3, v4, v5, v6, v7, rfl, g1⟩ := hP
      rw [List.getElem?_map] at hd
      obtain ⟨t, ht, rfl⟩ := Option.map_eq_some_iff.mp hd
      obtain ⟨t1, t2⟩ := hts t (List.mem_of_getElem? ht)
      have x1 := hx.up g1
      refine s_asgN (K := K) (ds := []) g1.tabs (en_lst ea_nil (by decide)) fun a1 H2 g2 n1 h1 => ?_
      refine s_asgN (K := K) (ds := []) g2.tabs (en_lst ea_nil (by decide)) fun a2 H3 g3 n2 h2 => ?_
      refine s_asgN (K := K) (ds := []) g3.tabs (en_lst ea_nil (by decide)) fun a3 H4 g4 n3 h3 => ?_
      have N1 : Nw H1 a1 := n1
      have N2 : Nw H1 a2 := n2.back0 g2
      have N3 : Nw H1 a3 := n3.back0 (g2.trans g3)
      have d12 : a1 ≠ a2 := Nw.neLs n2 h1
      have d13 : a1 ≠ a3 := Nw.neLs n3 (h1.up0 g3)
      have d23 : a2 ≠ a3 := Nw.neLs n3 h2
      have g14 := (g2.trans g3).trans g4
      have z4 := hz.up g14
      refine s_forR (K := K) (n := (ls.length : Int)) g4.tabs (ea_cons (ei_is (ei_lenT (ei_ixT (ei_var (i := 0) rfl (x1.up g14)) ei_i rfl)) (by rw [hll])) ea_nil) (by omega)
        (fun k σ H' => ∃ (v6 v7 : Option V), σ = [some x, some (.ref o), some z, some (.ref a1), some (.ref a2), some (.ref a3), v6, v7] ∧ G τ [] H1 H' ∧ Ls K H' a1 ((idxN (pCross t true true) ls k).map D.int) ∧ Ls K H' a2 ((idxN (pCross t true false) ls k).map D.int) ∧ Ls K H' a3 ((idxN (pCross t false true) ls k).map D.int))
        (fun H5 g5 => ⟨_, _, rfl, g14.trans g5, (h1.up0 (g3.trans g4)).up0 g5, (h2.up0 g4).up0 g5, h3.up0 g5⟩) (fun k σ H5 hk hP => ?_) fun σ H5 hP => ?_
      · obtain ⟨v6, v7, rfl, g5, r1, r2, r3⟩ := hP
        have hk' : k < ls.length := by omega
        have z5 := hz.up g5
        have x5 := x1.up g5
        have bd : ∀ p, ((idxN p ls k).map D.int).length < 1000000 := fun p => by
          rw [List.length_map]
          exact Nat.lt_of_le_of_lt (idxN_len _ _ _) (by omega)
        -- which side
        refine s_asgZ (K := K) (n := sideZ (decide ((lf ls k).1 ∈ t)) (decide ((lf ls k).2 ∈ t))) g5.tabs (ei_add (K := K) (ei_mul (ei_intB (ei_inT (ei_ixT (ei_ixT (ei_ixT (ei_var (i := 0) rfl x5) ei_i rfl) (ei_var (i := 6) rfl (.int _)) (at_leaf hk')) ei_i rfl) (ei_var (i := 2) rfl z5))) ei_i ?_) (ei_intB (ei_inT (ei_ixT (ei_ixT (ei_ixT (ei_var (i := 0) rfl x5) ei_i rfl) (ei_var (i := 6) rfl (.int _)) (at_leaf hk')) ei_i rfl) (ei_var (i := 2) rfl z5)))) fun H6 g6 => ?_
        · exact .inr (by decide)
        have g16 := g5.trans g6
        refine ⟨fun σ H' => σ = [some x, some (.ref o), some z, some (.ref a1), some (.ref a2), some (.ref a3), some (.int (k : Int)), some (.int (sideZ (decide ((lf ls k).1 ∈ t)) (decide ((lf ls k).2 ∈ t))))] ∧ G τ [] H1 H' ∧ Ls K H' a1 ((idxN (pCross t true true) ls (k + 1)).map D.int) ∧ Ls K H' a2 ((idxN (pCross t true false) ls k).map D.int) ∧ Ls K H' a3 ((idxN (pCross t false true) ls k).map D.int), ?_, fun σ H7 hP => ?_⟩
        · refine s_if g6.tabs (et_test (K := K) (ei_is (ei_eqI (ei_var (i := 7) rfl (.int _)) ei_i) (by rw [side3]))) (fun e H7 g7 => ?_) fun e H7 g7 => ?_
          · refine s_app (K := K) g7.tabs (ei_var (i := 3) rfl (.ptr a1)) (ei_var (i := 6) rfl (.int _)) ((r1.up0 g6).up0 g7) (bd _) fun H8 g8 h8 => ?_
            refine ⟨rfl, ((g16.trans g7).wide.trans g8).less N1, ?_, ((r2.up0 g6).up0 g7).up g8 (by simpa using d12.symm), ((r3.up0 g6).up0 g7).up g8 (by simpa using d13.symm)⟩
            rw [idxN_yes e, List.map_append]
            exact h8
          · refine ⟨rfl, g16.trans g7, ?_, (r2.up0 g6).up0 g7, (r3.up0 g6).up0 g7⟩
            rw [idxN_no e]
            exact (r1.up0 g6).up0 g7
        obtain ⟨rfl, g17, r1, r2, r3⟩ := hP
        refine ⟨fun σ H' => σ = [some x, some (.ref o), some z, some (.ref a1), some (.ref a2), some (.ref a3), some (.int (k : Int)), some (.int (sideZ (decide ((lf ls k).1 ∈ t)) (decide ((lf ls k).2 ∈ t))))] ∧ G τ [] H1 H' ∧ Ls K H' a1 ((idxN (pCross t true true) ls (k + 1)).map D.int) ∧ Ls K H' a2 ((idxN (pCross t true false) ls (k + 1)).map D.int) ∧ Ls K H' a3 ((idxN (pCross t false true) ls k).map D.int), ?_, fun σ H8 hP => ?_⟩
        · refine s_if g17.tabs (et_test (K := K) (ei_is (ei_eqI (ei_var (i := 7) rfl (.int _)) ei_i) (by rw [side2]))) (fun e H8 g8 => ?_) fun e H8 g8 => ?_
          · refine s_app (K := K) g8.tabs (ei_var (i := 4) rfl (.ptr a2)) (ei_var (i := 6) rfl (.int _)) (r2.up0 g8) (bd _) fun H9 g9 h9 => ?_
            refine ⟨rfl, ((g17.trans g8).wide.trans g9).less N2, (r1.up0 g8).up g9 (by simpa using d12), ?_, (r3.up0 g8).up g9 (by simpa using d23.symm)⟩
            rw [idxN_yes e, List.map_append]
            exact h9
          · refine ⟨rfl, g17.trans g8, r1.up0 g8, ?_, r3.up0 g8⟩
            rw [idxN_no e]
            exact r2.up0 g8
        obtain ⟨rfl, g18, r1, r2, r3⟩ := hP
        refine s_if g18.tabs (et_test (K := K) (ei_is (ei_eqI (ei_var (i := 7) rfl (.int _)) ei_i) (by rw [side1]))) (fun e H9 g9 => ?_) fun e H9 g9 => ?_
        · refine s_app (K := K) g9.tabs (ei_var (i := 5) rfl (.ptr a3)) (ei_var (i := 6) rfl (.int _)) (r3.up0 g9) (bd _) fun H10 g10 h10 => ?_
          refine ⟨_, _, rfl, ((g18.trans g9).wide.trans g10).less N3, (r1.up0 g9).up g10 (by simpa using d13), (r2.up0 g9).up g10 (by simpa using d23), ?_⟩
          rw [idxN_yes e, List.map_append]
          exact h10
        · refine ⟨_, _, rfl, g18.trans g9, r1.up0 g9, r2.up0 g9, ?_⟩
          rw [idxN_no e]
          exact r3.up0 g9
      · obtain ⟨v6, v7, rfl, g5, r1, r2, r3⟩ := hP
        rw [Int.toNat_natCast] at r1 r2 r3
        have bnd : ∀ p, (idx p ls).length ≤ 1000 := fun p => Nat.le_trans (idxN_len p ls ls.length) l1
        have x5 := x1.up g5
        have z5 := hz.up g5
        refine s_if g5.tabs (et_or (et_not (et_B (K := K) (ei_call (ea_cons (ei_call (ea_cons (ei_var (i := 0) rfl x5) (ea_cons (ei_var (i := 2) rfl z5) ea_nil)) ⟨n, ls, t, rfl, t1, by omega, by omega, rfl⟩) (ea_cons (ei_is (ei_lenL (ei_var (i := 4) rfl (.ptr a2)) r2.lr) (by rw [List.length_map]; rfl)) ea_nil)) ⟨_, rfl, .inl ⟨_, rfl⟩, rfl⟩)))
          fun _ => et_not (et_B (K := K) (ei_call (ea_cons (ei_call (ea_cons (ei_var (i := 0) rfl x5) (ea_cons (ei_var (i := 2) rfl z5) ea_nil)) ⟨n, ls, t, rfl, t1, by omega, by omega, rfl⟩) (ea_cons (ei_tupL (ei_var (i := 4) rfl (.ptr a2)) r2.lr) ea_nil)) ⟨_, rfl, oks_ints (Nat.le_trans (bnd _) (by omega)), rfl⟩))) (fun e => by cases e) fun _ H6 g6 => ?_
        refine s_if g6.tabs (et_or (et_not (et_B (K := K) (ei_call (ea_cons (ei_call (ea_cons (ei_var (i := 0) rfl (x5.up g6)) (ea_cons (ei_var (i := 2) rfl (z5.up g6)) ea_nil)) ⟨n, ls, t, rfl, t1, by omega, by omega, rfl⟩) (ea_cons (ei_tupL (ei_var (i := 3) rfl (.ptr a1)) (r1.up0 g6).lr) ea_nil)) ⟨_, rfl, oks_ints (Nat.le_trans (bnd _) (by omega)), rfl⟩)))
          fun _ => et_not (et_B (K := K) (ei_call (ea_cons (ei_call (ea_cons (ei_var (i := 0) rfl (x5.up g6)) (ea_cons (ei_var (i := 2) rfl (z5.up g6)) ea_nil)) ⟨n, ls, t, rfl, t1, by omega, by omega, rfl⟩) (ea_cons (ei_tupL (ei_var (i := 5) rfl (.ptr a3)) (r3.up0 g6).lr) ea_nil)) ⟨_, rfl, oks_ints (Nat.le_trans (bnd _) (by omega)), rfl⟩))) (fun e => by cases e) fun _ H7 g7 => ?_
        exact ⟨_, _, _, _, _, _, rfl, ((g1.trans g5).trans g6).trans g7⟩
    · obtain ⟨v2, v3, v4, v5, v6, v7, rfl, g1⟩ := hP
      dsimp only
      refine s_ret (K := K) g1.tabs (d := .bl true) ei_b fun v H2 g2 hv => ?_
      rw [im_bl hv]
      exact q H2 (g1.trans g2)
end
end K01
namespace K01
open PySem PySem.Spec PyProof.Rows L2 LamX NdefX Clo LRev U
section
variable {P : Program} {w : World} {K : PySem.W.Frag} {mg : Str → Option Value} {base : Heap} {τ : TL}
theorem s_forN {σ : L2.St} {H : Hp} {tu : TS} {Dn : Ends} {j : Nat} {tl : TE} {ds : List D} (tb : Tabs τ H) (h : EvN τ K tl σ H ds) (Pv : Addr → Nat → L2.St → Hp → Prop) (h0 : ∀ a H1, G τ [] H H1 → Nw H a → Ls K H1 a ds → Pv a 0 σ H1)
    (hl : ∀ a i σ' H' , Pv a i σ' H' → Lr K H' a ds) (hs : ∀ a (i : Nat) d v σ' H', ds[i]? = some d → Im K H' v d → Pv a i σ' H' → tu { Dn with nx := Pv a (i + 1), ct := Pv a (i + 1), bk := Dn.nx } (σ'.set j (some v)) H') (hd : ∀ a σ' H', Pv a ds.length σ' H' → Dn.nx σ' H') : tFor (iList K tl) (gName j) tu Dn σ H :=
  h H (.refl tb) _ fun v H1 g1 hv => by
    obtain ⟨a, rfl, na, hL⟩ := hv
    obtain ⟨xs, h1, h2⟩ := hL.lr
    refine ⟨a, rfl, ⟨xs, h1⟩, ?_⟩
    refine ⟨fun i m σ H => m = ds.length - i ∧ i ≤ ds.length ∧ Pv a i σ H, ⟨ds.length, by simp, Nat.zero_le _, h0 a H1 g1 na hL⟩, ?_⟩
    rintro i m σ' H' ⟨rfl, hi, p⟩
    obtain ⟨vs, q1, q2⟩ := hl a i σ' H' p
    have hlen := q2.length
    by_cases hlt : i < ds.length
    · refine .inr ⟨⟨vs, vs[i], q1, by simp [hlen, hlt]⟩, Pv a (i + 1), fun σ' H' p' => ⟨ds.length - (i + 1), by omega, rfl, hlt, p'⟩, fun x H2 y => ?_⟩
      obtain ⟨e, y⟩ := y
      subst e
      obtain ⟨d, d1, d2⟩ := q2.getV (y vs q1)
      exact hs a i d x σ' _ d1 d2 p
    · have e : i = ds.length := by omega
      subst e
      exact .inl ⟨⟨vs, q1, by omega⟩, hd a σ' H' p⟩
theorem ei_cuts {σ : L2.St} {H : Hp} {tr : TA} {o : Addr} {n : Int} {ls : List (Int × Int)} {ts : List (List Int)} (h : EvA τ K tr σ H [hD n ls, .ptr o]) (l1 : ls.length ≤ 1000) (ho : Ls K H o (ts.map lotD)) (hts : ∀ t ∈ ts, lotOk n t = true ∧ t.length ≤ 1000) : EvI τ K (tCall (spCuts τ K) [] L2.E0 tr) σ H (.bl true) := fun H1 g Q q =>
  h H1 g _ fun vs H2 g2 hvs => by
    obtain ⟨x, y, rfl, hx, hy⟩ := ima2 hvs
    rw [im_ptr hy]
    exact ⟨x, o, n, ls, ts, rfl, g2.tabs, hx, l1, (ho.up0 g).up0 g2, hts, fun H3 g3 => q _ H3 (g2.trans g3) (.bl _)⟩
def spLaw (τ : TL) (K : PySem.W.Frag) : Sp := fun vs H Q _ => ∃ (a : Addr) (ns : List Int), vs = [.ref a] ∧ Tabs τ H ∧ SqL K H a (ns.map V.int) ∧ ns.length ≤ 63 ∧ ∀ H2, Q (.bl true) H2
theorem ok_law (T : Txt K mg) {c Pt : Addr} (L : Lm T base τ c Pt) : FnOk P w K mg base L2.CX0 13 T.law.f T.law.fd ["_law_script"] (spLaw τ K) := by
  have G__law_cells : FnOk P w K mg base L2.CX0 2 T._law_cells.f T._law_cells.fd _ _ := ok__law_cells (τ := τ) T
  have G__law_pick : FnOk P w K mg base L2.CX0 1 T._law_pick.f T._law_pick.fd _ _ := ok__law_pick (τ := τ) T
  have G__law_heap : FnOk P w K mg base L2.CX0 4 T._law_heap.f T._law_heap.fd _ _ := ok__law_heap (τ := τ) T
  have G__law_twin : FnOk P w K mg base L2.CX0 2 T._law_twin.f T._law_twin.fd _ _ := ok__law_twin (τ := τ) T
  have G__law_lots : FnOk P w K mg base L2.CX0 2 T._law_lots.f T._law_lots.fd _ _ := ok__law_lots (τ := τ) T
  have G__law_words : FnOk P w K mg base L2.CX0 8 T._law_words.f T._law_words.fd _ _ := ok__law_words (τ := τ) T
  have G__law_likes : FnOk P w K mg base L2.CX0 7 T._law_likes.f T._law_likes.fd _ _ := ok__law_likes (τ := τ) T
  have G__law_cuts : FnOk P w K mg base L2.CX0 12 T._law_cuts.f T._law_cuts.fd _ _ := ok__law_cuts T L
  refine T.law.F.ok sc_law (fun vs H Q E h => ?_) (fun cdv A outer s H vs Q E hr h => ?_)
  · obtain ⟨_, _, rfl, _⟩ := h
    rfl
  · obtain ⟨a, ns, rfl, tb, ha, l1, q⟩ := h
    refine ⟨_, (pss_cons (ps_set (i := 1) sc_law.nd rfl (by first | exact .inl rfl | exact .inr rfl) (pc T._law_cells G__law_cells (hr.mono (by decide)) (by rfl) (pa_cons (pv 0) (pa_cons pe_int pa_nil))))
      (pss_cons (ps_set (i := 2) sc_law.nd rfl (by first | exact .inl rfl | exact .inr rfl) (pc T._law_heap G__law_heap (hr.mono (by decide)) (by rfl) (pa_cons (pv 1) (pa_cons (pc T._law_pick G__law_pick (hr.mono (by decide)) (by rfl) (pa_cons (pv 1) (pa_cons pe_int pa_nil))) pa_nil))))
      (pss_cons (ps_set (i := 3) sc_law.nd rfl (by first | exact .inl rfl | exact .inr rfl) (pc T._law_twin G__law_twin (hr.mono (by decide)) (by rfl) (pa_cons (pv 1) (pa_cons (pv 2) pa_nil))))
      (pss_cons (ps_set (i := 4) sc_law.nd rfl (by first | exact .inl rfl | exact .inr rfl) (pc T._law_lots G__law_lots (hr.mono (by decide)) (by rfl) (pa_cons (pv 1) (pa_cons (pe_ix (r := rIx K) ix_seq (pv 2) pe_int (fun _ _ => rfl)) pa_nil))))
      (pss_cons (ps_for PassesOwn.never rfl (pi_list (pe_lst (pa_cons (pv 2) (pa_cons (pv 3) (pa_cons (pv 2) pa_nil))))) (pg_name (i := 5) sc_law.nd rfl (by first | exact .inl rfl | exact .inr rfl)) (pss_one (ps_if (PW.pt (pw_or (pt_not (pt_val (pc T._law_words G__law_words (hr.mono (by decide)) (by rfl) (pa_cons (pv 5) pa_nil)))) (pw_or (pt_not (pt_val (pc T._law_likes G__law_likes (hr.mono (by decide)) (by rfl) (pa_cons (pv 5) pa_nil)))) (pw_or1 (pt_not (pt_val (pc T._law_cuts G__law_cuts (hr.mono (by decide)) (by rfl) (pa_cons (pv 5) (pa_cons (pv 4) pa_nil))))))))) (pss_one (ps_ret pe_bl)) pss_nil)))
      (pss_one (ps_ret pe_bl))))))), ?_⟩
    refine r_call (K := K) tb (ea_cons (ei_var (i := 0) rfl (.ptr a)) (ea_cons ei_i ea_nil)) fun vs H1 g1 hvs => ?_
    obtain ⟨x, y, rfl, hx, hy⟩ := ima2 hvs
    rw [im_ptr hx, im_int hy]
    refine ⟨a, ns, 240, rfl, g1.seqL ha, l1, by decide, by decide, g1.tabs, fun p H2 g2 np c2 => ?_⟩
    -- the heap
    refine ⟨.ref p, rfl, ?_⟩
    refine rn_pick (lim := 4) g2.tabs (ea_cons (ei_var (i := 1) rfl (.ptr p)) (ea_cons ei_i ea_nil)) (by decide) c2 _ fun z H3 g3 hz => ?_
    obtain ⟨kd, rfl, k0, k1, c3⟩ := hz
    refine ⟨p, kd, rfl, g3.tabs, c3, fun v n ls H4 g4 hv n0 n1 l4 hb c4 => ?_⟩
    -- its twin
    refine r_call (K := K) g4.tabs (ea_cons (ei_var (i := 1) rfl (.ptr p)) (ea_cons (ei_var (i := 2) rfl hv) ea_nil)) fun vs H5 g5 hvs => ?_
    obtain ⟨x, y, rfl, hx, hy⟩ := ima2 hvs
    rw [im_ptr hx]
    refine ⟨p, y, n, ls, rfl, g5.tabs, c4.up0 g5, hy, n0, n1, l4, hb, fun v2 ls2 H6 g6 hv2 l6 hb2 c6 => ?_⟩
    have hv6 := (hv.up g5).up g6
    -- lots
    refine r_call (K := K) g6.tabs (ea_cons (ei_var (i := 1) rfl (.ptr p)) (ea_cons (ei_ixT (ei_var (i := 2) rfl hv6) ei_i rfl) ea_nil)) fun vs H7 g7 hvs => ?_
    obtain ⟨x, y, rfl, hx, hy⟩ := ima2 hvs
    rw [im_ptr hx, im_int hy]
    refine ⟨p, n, rfl, g7.tabs, c6.up0 g7, n0, n1, fun o ts H8 g8 no ho hts c8 => ?_⟩
    have hv8 := (hv6.up g7).up g8
    have hw8 := (hv2.up g7).up g8
    refine s_forN (K := K) g8.tabs (en_lst (ea_cons (ei_var (i := 2) rfl hv8) (ea_cons (ei_var (i := 3) rfl hw8) (ea_cons (ei_var (i := 2) rfl hv8) ea_nil))) (show 3 ≤ 100000 by decide))
      (fun b i σ H' => ∃ v5, σ = [some (.ref a), some (.ref p), some v, some v2, some (.ref o), v5] ∧ G τ [] H8 H' ∧ Ls K H' b [hD n ls, hD n ls2, hD n ls]) (fun b H9 g9 nb hb9 => ⟨none, rfl, g9, hb9⟩) (fun b i σ H9 hP => ?_) (fun b i d z σ H9 hd hz hP => ?_) fun b σ H9 hP => ?_
    · obtain ⟨_, _, _, h⟩ := hP
      exact h.lr
    · obtain ⟨v5, rfl, g9, hb9⟩ := hP
      obtain ⟨ls3, rfl, l3, hb3⟩ : ∃ ls3, d = hD n ls3 ∧ ls3.length ≤ 100 ∧ ∀ l ∈ ls3, inR n l := by
        have hm := List.mem_of_getElem? hd
        rcases List.mem_cons.mp hm with rfl | hm
        · exact ⟨ls, rfl, l4, hb⟩
        · rcases List.mem_cons.mp hm with rfl | hm
          · exact ⟨ls2, rfl, l6, hb2⟩
          · rw [List.mem_singleton.mp hm]
            exact ⟨ls, rfl, l4, hb⟩
      have fr : FTrue1 [hD n ls3] (.bl true) := ⟨n, ls3, rfl, n0, n1, by omega, hb3, rfl⟩
      refine s_if g9.tabs (et_or (et_not (et_B (K := K) (ei_call (ea_cons (ei_var (i := 5) rfl hz) ea_nil) fr))) fun _ => et_or (et_not (et_B (K := K) (ei_call (ea_cons (ei_var (i := 5) rfl hz) ea_nil) fr))) fun _ => et_not (et_B (K := K) (ei_cuts (ea_cons (ei_var (i := 5) rfl hz) (ea_cons (ei_var (i := 4) rfl (.ptr o)) ea_nil)) (by omega) (ho.up0 g9) hts))) (fun e => by cases e) fun _ H10 g10 => ?_
      exact ⟨_, rfl, g9.trans g10, hb9.up0 g10⟩
    · obtain ⟨v5, rfl, g9, hb9⟩ := hP
      dsimp only
      refine s_ret (K := K) g9.tabs (d := .bl true) ei_b fun v H2 g2 hv => ?_
      rw [im_bl hv]
      exact q H2
end
end K01
namespace K01
open PySem PySem.Spec PyProof.Rows L2 LamX NdefX Clo LRev U
/-! ### what the top has written -/
section
variable {w : World} {K : PySem.W.Frag} {mg : Str → Option Value} {h : Heap}
theorem dfn_mk {x : Str} {st : Stmt} {ps : List Str} {f : Addr} {oc : Value} {od an : Option Addr} {osl : Array (Option Value)} {kV doc pm cdv ct : Value} (X : K.In h) (G : h.Ns mainGlobals mg) (a : PySem.W.nsIn K mainGlobals x = some (some (.ref f)))
    (l : K.lookup f = some ⟨oc, od, .func (PySem.W.fnOf x x (defArgs st) (defBody st) (defScope st) .none kV doc pm an cdv ct), osl⟩) (c : PySem.W.codeIn K cdv x = true) (k : PySem.W.keepIn K (.ref f) = true)
    (b : ∀ (kV doc pm : Value) (an : Option Addr) (cdv ct : Value) (us : List Value), us.length = ps.length → bindArgs (PySem.W.fnOf x x (defArgs st) (defBody st) (defScope st) .none kV doc pm an cdv ct) ⟨us, []⟩ = pure (ps.zip us)) : ∃ D : Dfn K mg x st ps, D.fd.code = cdv :=
  have F : L2.Fun K x x st f _ := fun_mk l c k
  ⟨⟨f, _, F, PySem.W.mg_of X G a, F.binds b⟩, rfl⟩
theorem law_at {l : PySem.W.OpenLaw} (T : Txt K mg) {c Pt fa : Addr} (hfa : mg "law" = some (.ref fa)) (hc : T.are_below.fd.code = .ref c) (hP : h.get? Pt = some { cls := .none, data := .fields #[] }) (hn : K.lookup Pt = none) (C : PySem.W.CodeHd h c Pt) : LawAtS l w K L2.CX0 13 63 "_law_script" mg fa h := by
  have e : T.law.f = fa := by
    have z := T.law.g.symm.trans hfa
    injection z with z
    injection z
  subst e
  refine ⟨T.law.fd, [(c, Pt)], spLaw [(Pt, lamQ)] K, fun p hp => ?_, fun p hp => ?_, fun p hp => ?_, fun s u => ?_, fun H a ns h1 _ h3 h4 => ⟨a, ns, rfl, fun p hp => ?_, h4, h1, fun _ => rfl⟩, fun base _ _ tb => ok_law T ⟨hc, tb _ List.mem_cons_self, rfl⟩⟩
  · rw [List.mem_singleton.mp hp]
    exact hP
  · rw [List.mem_singleton.mp hp]
    exact hn
  · rw [List.mem_singleton.mp hp]
    exact C
  · obtain ⟨oc, od, kV, doc, pm, an, cdv, ct, osl, e, lk, hcd⟩ := T.law.F.ex
    rw [e]
    exact .of_eq rfl
  · rw [List.mem_singleton.mp hp]
    exact .nil (h3 _ List.mem_cons_self)
end
end K01
open PySem PySem.W PyProof.Rows L2
set_option maxHeartbeats 0 in
theorem PySem.Challenge.cw_unsewn_k01_whole_leaves_by_going_through_holds : PySem.Challenge.rw_unsewn_k01_whole_leaves_by_going_through.Holds := by
  w_on; o_law; k_head; (case hw => w_witness2)
  k_fill
  refine LamX.walk_ofTs (l := PySem.Challenge.rw_unsewn_k01_whole_leaves_by_going_through) (n := 63) (k := 13) (x := "_law_script") (CX := fun _ => L2.CX0) rfl (by decide) rfl ⟨rfl, by decide, by decide⟩ (fun w h Y => PySem.W.km_in_of Y) ?F (fun _ _ _ _ _ h => h)
  case F =>
    intro w mg fa h Y KX G hmg
    obtain ⟨d_need, e_need⟩ : ∃ D : U.Dfn _ mg "need" K01.s_need ["holds", "name"], D.fd.code = _ := by
      refine' K01.dfn_mk KX G ?a ?l ?c ?k (fun _ _ _ _ _ _ us hl => match us, hl with | [_, _], _ => rfl)
      (case a => k_is); (case l => k_is); (case c => k_is); (case k => k_is)
    obtain ⟨d_is_integer, e_is_integer⟩ : ∃ D : U.Dfn _ mg "is_integer" K01.s_is_integer ["thing"], D.fd.code = _ := by
      refine' K01.dfn_mk KX G ?a ?l ?c ?k (fun _ _ _ _ _ _ us hl => match us, hl with | [_], _ => rfl)
      (case a => k_is); (case l => k_is); (case c => k_is); (case k => k_is)
    obtain ⟨d_is_number, e_is_number⟩ : ∃ D : U.Dfn _ mg "is_number" K01.s_is_number ["thing"], D.fd.code = _ := by
      refine' K01.dfn_mk KX G ?a ?l ?c ?k (fun _ _ _ _ _ _ us hl => match us, hl with | [_], _ => rfl)
      (case a => k_is); (case l => k_is); (case c => k_is); (case k => k_is)
    obtain ⟨d_is_below, e_is_below⟩ : ∃ D : U.Dfn _ mg "is_below" K01.s_is_below ["many", "thing"], D.fd.code = _ := by
      refine' K01.dfn_mk KX G ?a ?l ?c ?k (fun _ _ _ _ _ _ us hl => match us, hl with | [_, _], _ => rfl)
      (case a => k_is); (case l => k_is); (case c => k_is); (case k => k_is)
    obtain ⟨d_is_tuple_of, e_is_tuple_of⟩ : ∃ D : U.Dfn _ mg "is_tuple_of" K01.s_is_tuple_of ["check", "thing"], D.fd.code = _ := by
      refine' K01.dfn_mk KX G ?a ?l ?c ?k (fun _ _ _ _ _ _ us hl => match us, hl with | [_, _], _ => rfl)
      (case a => k_is); (case l => k_is); (case c => k_is); (case k => k_is)
    obtain ⟨d_are_below, e_are_below⟩ : ∃ D : U.Dfn _ mg "are_below" K01.s_are_below ["many", "thing"], D.fd.code = _ := by
      refine' K01.dfn_mk KX G ?a ?l ?c ?k (fun _ _ _ _ _ _ us hl => match us, hl with | [_, _], _ => rfl)
      (case a => k_is); (case l => k_is); (case c => k_is); (case k => k_is)
    obtain ⟨d_ascends, e_ascends⟩ : ∃ D : U.Dfn _ mg "ascends" K01.s_ascends ["row"], D.fd.code = _ := by
      refine' K01.dfn_mk KX G ?a ?l ?c ?k (fun _ _ _ _ _ _ us hl => match us, hl with | [_], _ => rfl)
      (case a => k_is); (case l => k_is); (case c => k_is); (case k => k_is)
    obtain ⟨d_is_word, e_is_word⟩ : ∃ D : U.Dfn _ mg "is_word" K01.s_is_word ["heap", "thing"], D.fd.code = _ := by
      refine' K01.dfn_mk KX G ?a ?l ?c ?k (fun _ _ _ _ _ _ us hl => match us, hl with | [_, _], _ => rfl)
      (case a => k_is); (case l => k_is); (case c => k_is); (case k => k_is)
    obtain ⟨d_is_leaf, e_is_leaf⟩ : ∃ D : U.Dfn _ mg "is_leaf" K01.s_is_leaf ["heap", "thing"], D.fd.code = _ := by
      refine' K01.dfn_mk KX G ?a ?l ?c ?k (fun _ _ _ _ _ _ us hl => match us, hl with | [_, _], _ => rfl)
      (case a => k_is); (case l => k_is); (case c => k_is); (case k => k_is)
    obtain ⟨d_is_lot, e_is_lot⟩ : ∃ D : U.Dfn _ mg "is_lot" K01.s_is_lot ["heap", "thing"], D.fd.code = _ := by
      refine' K01.dfn_mk KX G ?a ?l ?c ?k (fun _ _ _ _ _ _ us hl => match us, hl with | [_, _], _ => rfl)
      (case a => k_is); (case l => k_is); (case c => k_is); (case k => k_is)
    obtain ⟨d_is_set_below, e_is_set_below⟩ : ∃ D : U.Dfn _ mg "is_set_below" K01.s_is_set_below ["many", "thing"], D.fd.code = _ := by
      refine' K01.dfn_mk KX G ?a ?l ?c ?k (fun _ _ _ _ _ _ us hl => match us, hl with | [_, _], _ => rfl)
      (case a => k_is); (case l => k_is); (case c => k_is); (case k => k_is)
    obtain ⟨d_fan_of, e_fan_of⟩ : ∃ D : U.Dfn _ mg "fan_of" K01.s_fan_of ["heap", "word"], D.fd.code = _ := by
      refine' K01.dfn_mk KX G ?a ?l ?c ?k (fun _ _ _ _ _ _ us hl => match us, hl with | [_, _], _ => rfl)
      (case a => k_is); (case l => k_is); (case c => k_is); (case k => k_is)
    obtain ⟨d_ends_of, e_ends_of⟩ : ∃ D : U.Dfn _ mg "ends_of" K01.s_ends_of ["heap", "word"], D.fd.code = _ := by
      refine' K01.dfn_mk KX G ?a ?l ?c ?k (fun _ _ _ _ _ _ us hl => match us, hl with | [_, _], _ => rfl)
      (case a => k_is); (case l => k_is); (case c => k_is); (case k => k_is)
    obtain ⟨d_surplus_of, e_surplus_of⟩ : ∃ D : U.Dfn _ mg "surplus_of" K01.s_surplus_of ["heap", "word"], D.fd.code = _ := by
      refine' K01.dfn_mk KX G ?a ?l ?c ?k (fun _ _ _ _ _ _ us hl => match us, hl with | [_, _], _ => rfl)
      (case a => k_is); (case l => k_is); (case c => k_is); (case k => k_is)
    obtain ⟨d_loops_of, e_loops_of⟩ : ∃ D : U.Dfn _ mg "loops_of" K01.s_loops_of ["heap"], D.fd.code = _ := by
      refine' K01.dfn_mk KX G ?a ?l ?c ?k (fun _ _ _ _ _ _ us hl => match us, hl with | [_], _ => rfl)
      (case a => k_is); (case l => k_is); (case c => k_is); (case k => k_is)
    obtain ⟨d_from_word, e_from_word⟩ : ∃ D : U.Dfn _ mg "from_word" K01.s_from_word ["heap", "word"], D.fd.code = _ := by
      refine' K01.dfn_mk KX G ?a ?l ?c ?k (fun _ _ _ _ _ _ us hl => match us, hl with | [_, _], _ => rfl)
      (case a => k_is); (case l => k_is); (case c => k_is); (case k => k_is)
    obtain ⟨d_to_word, e_to_word⟩ : ∃ D : U.Dfn _ mg "to_word" K01.s_to_word ["heap", "word"], D.fd.code = _ := by
      refine' K01.dfn_mk KX G ?a ?l ?c ?k (fun _ _ _ _ _ _ us hl => match us, hl with | [_, _], _ => rfl)
      (case a => k_is); (case l => k_is); (case c => k_is); (case k => k_is)
    obtain ⟨d_like_leaves, e_like_leaves⟩ : ∃ D : U.Dfn _ mg "like_leaves" K01.s_like_leaves ["heap", "leaf"], D.fd.code = _ := by
      refine' K01.dfn_mk KX G ?a ?l ?c ?k (fun _ _ _ _ _ _ us hl => match us, hl with | [_, _], _ => rfl)
      (case a => k_is); (case l => k_is); (case c => k_is); (case k => k_is)
    obtain ⟨d_like_sets, e_like_sets⟩ : ∃ D : U.Dfn _ mg "like_sets" K01.s_like_sets ["heap"], D.fd.code = _ := by
      refine' K01.dfn_mk KX G ?a ?l ?c ?k (fun _ _ _ _ _ _ us hl => match us, hl with | [_], _ => rfl)
      (case a => k_is); (case l => k_is); (case c => k_is); (case k => k_is)
    obtain ⟨d_gates_of, e_gates_of⟩ : ∃ D : U.Dfn _ mg "gates_of" K01.s_gates_of ["heap", "lot"], D.fd.code = _ := by
      refine' K01.dfn_mk KX G ?a ?l ?c ?k (fun _ _ _ _ _ _ us hl => match us, hl with | [_, _], _ => rfl)
      (case a => k_is); (case l => k_is); (case c => k_is); (case k => k_is)
    obtain ⟨d_within, e_within⟩ : ∃ D : U.Dfn _ mg "within" K01.s_within ["heap", "lot"], D.fd.code = _ := by
      refine' K01.dfn_mk KX G ?a ?l ?c ?k (fun _ _ _ _ _ _ us hl => match us, hl with | [_, _], _ => rfl)
      (case a => k_is); (case l => k_is); (case c => k_is); (case k => k_is)
    obtain ⟨d_leaving, e_leaving⟩ : ∃ D : U.Dfn _ mg "leaving" K01.s_leaving ["heap", "lot"], D.fd.code = _ := by
      refine' K01.dfn_mk KX G ?a ?l ?c ?k (fun _ _ _ _ _ _ us hl => match us, hl with | [_, _], _ => rfl)
      (case a => k_is); (case l => k_is); (case c => k_is); (case k => k_is)
    obtain ⟨d_entering, e_entering⟩ : ∃ D : U.Dfn _ mg "entering" K01.s_entering ["heap", "lot"], D.fd.code = _ := by
      refine' K01.dfn_mk KX G ?a ?l ?c ?k (fun _ _ _ _ _ _ us hl => match us, hl with | [_, _], _ => rfl)
      (case a => k_is); (case l => k_is); (case c => k_is); (case k => k_is)
    obtain ⟨d_crossing, e_crossing⟩ : ∃ D : U.Dfn _ mg "crossing" K01.s_crossing ["heap", "lot", "from_inside", "to_inside"], D.fd.code = _ := by
      refine' K01.dfn_mk KX G ?a ?l ?c ?k (fun _ _ _ _ _ _ us hl => match us, hl with | [_, _, _, _], _ => rfl)
      (case a => k_is); (case l => k_is); (case c => k_is); (case k => k_is)
    obtain ⟨d__law_mix, e__law_mix⟩ : ∃ D : U.Dfn _ mg "_law_mix" K01.s__law_mix ["_law_cell", "_law_k"], D.fd.code = _ := by
      refine' K01.dfn_mk KX G ?a ?l ?c ?k (fun _ _ _ _ _ _ us hl => match us, hl with | [_, _], _ => rfl)
      (case a => k_is); (case l => k_is); (case c => k_is); (case k => k_is)
    obtain ⟨d__law_cells, e__law_cells⟩ : ∃ D : U.Dfn _ mg "_law_cells" K01.s__law_cells ["_law_script", "_law_many_more"], D.fd.code = _ := by
      refine' K01.dfn_mk KX G ?a ?l ?c ?k (fun _ _ _ _ _ _ us hl => match us, hl with | [_, _], _ => rfl)
      (case a => k_is); (case l => k_is); (case c => k_is); (case k => k_is)
    obtain ⟨d__law_pick, e__law_pick⟩ : ∃ D : U.Dfn _ mg "_law_pick" K01.s__law_pick ["_law_cells_here", "_law_limit"], D.fd.code = _ := by
      refine' K01.dfn_mk KX G ?a ?l ?c ?k (fun _ _ _ _ _ _ us hl => match us, hl with | [_, _], _ => rfl)
      (case a => k_is); (case l => k_is); (case c => k_is); (case k => k_is)
    obtain ⟨d__law_dealt, e__law_dealt⟩ : ∃ D : U.Dfn _ mg "_law_dealt" K01.s__law_dealt ["_law_cells_here", "_law_things"], D.fd.code = _ := by
      refine' K01.dfn_mk KX G ?a ?l ?c ?k (fun _ _ _ _ _ _ us hl => match us, hl with | [_, _], _ => rfl)
      (case a => k_is); (case l => k_is); (case c => k_is); (case k => k_is)
    obtain ⟨d__law_ring, e__law_ring⟩ : ∃ D : U.Dfn _ mg "_law_ring" K01.s__law_ring ["_law_cells_here", "_law_size", "_law_extra"], D.fd.code = _ := by
      refine' K01.dfn_mk KX G ?a ?l ?c ?k (fun _ _ _ _ _ _ us hl => match us, hl with | [_, _, _], _ => rfl)
      (case a => k_is); (case l => k_is); (case c => k_is); (case k => k_is)
    obtain ⟨d__law_heap, e__law_heap⟩ : ∃ D : U.Dfn _ mg "_law_heap" K01.s__law_heap ["_law_cells_here", "_law_kind"], D.fd.code = _ := by
      refine' K01.dfn_mk KX G ?a ?l ?c ?k (fun _ _ _ _ _ _ us hl => match us, hl with | [_, _], _ => rfl)
      (case a => k_is); (case l => k_is); (case c => k_is); (case k => k_is)
    obtain ⟨d__law_twin, e__law_twin⟩ : ∃ D : U.Dfn _ mg "_law_twin" K01.s__law_twin ["_law_cells_here", "_law_pile"], D.fd.code = _ := by
      refine' K01.dfn_mk KX G ?a ?l ?c ?k (fun _ _ _ _ _ _ us hl => match us, hl with | [_, _], _ => rfl)
      (case a => k_is); (case l => k_is); (case c => k_is); (case k => k_is)
    obtain ⟨d__law_lots, e__law_lots⟩ : ∃ D : U.Dfn _ mg "_law_lots" K01.s__law_lots ["_law_cells_here", "_law_size"], D.fd.code = _ := by
      refine' K01.dfn_mk KX G ?a ?l ?c ?k (fun _ _ _ _ _ _ us hl => match us, hl with | [_, _], _ => rfl)
      (case a => k_is); (case l => k_is); (case c => k_is); (case k => k_is)
    obtain ⟨d__law_same, e__law_same⟩ : ∃ D : U.Dfn _ mg "_law_same" K01.s__law_same ["_law_told", "_law_due"], D.fd.code = _ := by
      refine' K01.dfn_mk KX G ?a ?l ?c ?k (fun _ _ _ _ _ _ us hl => match us, hl with | [_, _], _ => rfl)
      (case a => k_is); (case l => k_is); (case c => k_is); (case k => k_is)
    obtain ⟨d__law_words, e__law_words⟩ : ∃ D : U.Dfn _ mg "_law_words" K01.s__law_words ["_law_pile"], D.fd.code = _ := by
      refine' K01.dfn_mk KX G ?a ?l ?c ?k (fun _ _ _ _ _ _ us hl => match us, hl with | [_], _ => rfl)
      (case a => k_is); (case l => k_is); (case c => k_is); (case k => k_is)
    obtain ⟨d__law_likes, e__law_likes⟩ : ∃ D : U.Dfn _ mg "_law_likes" K01.s__law_likes ["_law_pile"], D.fd.code = _ := by
      refine' K01.dfn_mk KX G ?a ?l ?c ?k (fun _ _ _ _ _ _ us hl => match us, hl with | [_], _ => rfl)
      (case a => k_is); (case l => k_is); (case c => k_is); (case k => k_is)
    obtain ⟨d__law_cuts, e__law_cuts⟩ : ∃ D : U.Dfn _ mg "_law_cuts" K01.s__law_cuts ["_law_pile", "_law_lots_here"], D.fd.code = _ := by
      refine' K01.dfn_mk KX G ?a ?l ?c ?k (fun _ _ _ _ _ _ us hl => match us, hl with | [_, _], _ => rfl)
      (case a => k_is); (case l => k_is); (case c => k_is); (case k => k_is)
    obtain ⟨d_law, e_law⟩ : ∃ D : U.Dfn _ mg "law" K01.s_law ["_law_script"], D.fd.code = _ := by
      refine' K01.dfn_mk KX G ?a ?l ?c ?k (fun _ _ _ _ _ _ us hl => match us, hl with | [_], _ => rfl)
      (case a => k_is); (case l => k_is); (case c => k_is); (case k => k_is)
    have z_abs : mg "abs" = none := PySem.W.mg_none_of KX G (by k_is)
    have z_all : mg "all" = none := PySem.W.mg_none_of KX G (by k_is)
    have z_bool : mg "bool" = none := PySem.W.mg_none_of KX G (by k_is)
    have z_int : mg "int" = none := PySem.W.mg_none_of KX G (by k_is)
    have z_isinstance : mg "isinstance" = none := PySem.W.mg_none_of KX G (by k_is)
    have z_len : mg "len" = none := PySem.W.mg_none_of KX G (by k_is)
    have z_list : mg "list" = none := PySem.W.mg_none_of KX G (by k_is)
    have z_range : mg "range" = none := PySem.W.mg_none_of KX G (by k_is)
    have z_reversed : mg "reversed" = none := PySem.W.mg_none_of KX G (by k_is)
    have z_tuple : mg "tuple" = none := PySem.W.mg_none_of KX G (by k_is)
    refine' K01.law_at (Pt := 93) ⟨d_need, d_is_integer, d_is_number, d_is_below, d_is_tuple_of, d_are_below, d_ascends, d_is_word, d_is_leaf, d_is_lot, d_is_set_below, d_fan_of, d_ends_of, d_surplus_of, d_loops_of, d_from_word, d_to_word, d_like_leaves, d_like_sets, d_gates_of, d_within, d_leaving, d_entering, d_crossing, d__law_mix, d__law_cells, d__law_pick, d__law_dealt, d__law_ring, d__law_heap, d__law_twin, d__law_lots, d__law_same, d__law_words, d__law_likes, d__law_cuts, d_law, z_abs, z_all, z_bool, z_int, z_isinstance, z_len, z_list, z_range, z_reversed, z_tuple⟩ hmg e_are_below (PySem.W.km_tabs_of Y _ List.mem_cons_self) ?n (PySem.W.codeHd_of_K KX ?c)
    (case n => kernel_rfl); (case c => kernel_rfl)
