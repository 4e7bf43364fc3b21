import PyProof.Rows.All
import Wide.All
import OpenK.AllK
import Wide.FinOn
import HandS.ForMost
import HandS.IsInst
import HandS.Flow
import HandS.Conv
import HandS.Deep
import HandS.TupAny
import HandS.Walk
import HandS.Zip
import HandS.Codes
import PyProof.ReprRoads
import PyProof.ReprLen
import KE.DataMinMax
import PyProof.ReprBulk
import PyProof.Draws
import PyProof.EnumMake
import HandS.NoneIn
import HandS.Style
import PySem.Challenge.RW_aboutface_k04_beat_by_beat
set_option Elab.async false
set_option linter.all false
set_option maxRecDepth 100000
/-! ### the ground: heaps, data, repr, defs that want no guard -/
namespace Af
open PySem PySem.Spec PyProof.Rows L2
/-! heaps -/
theorem same_new {H : Hp} {p : Addr} {o : HO} (h : H p = none) : Same H (upd H p o) := fun b x e => by
  rw [upd_ne (ne_of_none e h)]; exact e
/-- the heap without one place -/
def hid (H : Hp) (b : Addr) : Hp := fun a => if a = b then none else H a
theorem hid_at {H : Hp} {b : Addr} : hid H b b = none := if_pos rfl
theorem hid_ne {H : Hp} {a b : Addr} (h : a ≠ b) : hid H b a = H a := if_neg h
theorem hid_upd {H : Hp} {b : Addr} {o : HO} : hid (upd H b o) b = hid H b := by
  funext a; unfold hid; split
  · rfl
  · rename_i h; exact upd_ne h
theorem hid_new {H : Hp} {b p : Addr} {o : HO} (h : p ≠ b) : hid (upd H p o) b = upd (hid H b) p o := by
  funext a
  by_cases e : a = b
  · subst e; rw [hid_at, upd_ne h.symm, hid_at]
  · rw [hid_ne e]
    by_cases e2 : a = p
    · subst e2; rw [upd_same, upd_same]
    · rw [upd_ne e2, upd_ne e2, hid_ne e]
theorem hid_le {H : Hp} {b : Addr} : Same (hid H b) H := fun a o e => by
  by_cases h : a = b
  · subst h; rw [hid_at] at e; cases e
  · rw [hid_ne h] at e; exact e
theorem hid_mono {H H' : Hp} {b : Addr} (s : Same H H') : Same (hid H b) (hid H' b) := fun a o e => by
  by_cases h : a = b
  · subst h; rw [hid_at] at e; cases e
  · rw [hid_ne h] at e ⊢; exact s a o e
theorem hid_none {H : Hp} {b p : Addr} (h : H p = none) : hid H b p = none := by
  by_cases e : p = b
  · subst e; exact hid_at
  · rw [hid_ne e]; exact h
theorem hid_some {H : Hp} {b p : Addr} {o : HO} (h : hid H b p = some o) : p ≠ b ∧ H p = some o := by
  by_cases e : p = b
  · subst e; rw [hid_at] at h; cases h
  · rw [hid_ne e] at h; exact ⟨e, h⟩
/-! data -/
theorem sqt_mono {K : PySem.W.Frag} {H H' : Hp} {a : Addr} {xs : List V} (e : Same H H') (h : SqT K H a xs) : SqT K H' a xs := by
  rcases h with (h | ⟨o, h⟩) | h
  · exact .inl (.inl (e _ _ h))
  · exact .inl (.inr ⟨o, e _ _ h⟩)
  · exact .inr h
mutual
theorem dp_mono {K : PySem.W.Frag} {H H' : Hp} (e : Same H H') : ∀ (d : PyData) (v : V), Dp K H v d → Dp K H' v d
  | .none, _, h => by cases h; exact .non
  | .bool b, _, h => by cases h; exact .bl b
  | .int i, _, h => by cases h; exact .int i
  | .str x, _, h => by cases h; exact .str x
  | .list ds, _, h => by
    cases h with
    | lst hs ha => exact .lst (e.seq hs) (dps_mono e ds _ ha)
  | .tuple ds, _, h => by
    cases h with
    | tup hs ha => exact .tup (sqt_mono e hs) (dps_mono e ds _ ha)
  | .dict _, _, h => by cases h
theorem dps_mono {K : PySem.W.Frag} {H H' : Hp} (e : Same H H') : ∀ (ds : List PyData) (vs : List V), DpAll K H vs ds → DpAll K H' vs ds
  | [], _, h => by cases h; exact .nil
  | d :: ds, _, h => by
    cases h with
    | cons h1 h2 => exact .cons (dp_mono e d _ h1) (dps_mono e ds _ h2)
end
theorem dp_up {K : PySem.W.Frag} {H H' : Hp} {d : PyData} {v : V} (h : Dp K H v d) (e : Same H H') : Dp K H' v d := dp_mono e d v h
theorem dps_up {K : PySem.W.Frag} {H H' : Hp} {ds : List PyData} {vs : List V} (h : DpAll K H vs ds) (e : Same H H') : DpAll K H' vs ds := dps_mono e ds vs h
theorem dps_len {K : PySem.W.Frag} {H : Hp} : ∀ {vs : List V} {ds : List PyData}, DpAll K H vs ds → vs.length = ds.length
  | [], [], _ => rfl
  | [], _ :: _, h => by cases h
  | _ :: _, [], h => by cases h
  | _ :: _, _ :: _, h => by
    cases h with
    | cons _ h2 => exact congrArg (· + 1) (dps_len h2)
theorem dps_get {K : PySem.W.Frag} {H : Hp} : ∀ {vs : List V} {ds : List PyData} {i : Nat} {d : PyData}, DpAll K H vs ds → ds[i]? = some d → ∃ v, vs[i]? = some v ∧ Dp K H v d
  | [], [], _, _, _, e => by simp at e
  | [], _ :: _, _, _, h, _ => by cases h
  | _ :: _, [], _, _, h, _ => by cases h
  | v :: vs, x :: ds, 0, d, h, e => by
    cases h with
    | cons h1 _ => simp at e; subst e; exact ⟨v, rfl, h1⟩
  | v :: vs, x :: ds, i + 1, d, h, e => by
    cases h with
    | cons _ h2 => simpa using dps_get (i := i) h2 (by simpa using e)
theorem dps_get' {K : PySem.W.Frag} {H : Hp} {vs : List V} {ds : List PyData} {i : Nat} {v : V} (h : DpAll K H vs ds) (e : vs[i]? = some v) : ∃ d, ds[i]? = some d ∧ Dp K H v d := by
  have hi : i < vs.length := (List.getElem?_eq_some_iff.mp e).1
  have hd : i < ds.length := by rw [← dps_len h]; exact hi
  obtain ⟨w, e2, q⟩ := dps_get (i := i) h (List.getElem?_eq_getElem hd)
  rw [e] at e2; cases e2
  exact ⟨_, List.getElem?_eq_getElem hd, q⟩
theorem dps_app {K : PySem.W.Frag} {H : Hp} : ∀ {vs ws : List V} {ds es : List PyData}, DpAll K H vs ds → DpAll K H ws es → DpAll K H (vs ++ ws) (ds ++ es)
  | [], _, [], _, _, h => h
  | [], _, _ :: _, _, h, _ => by cases h
  | _ :: _, _, [], _, h, _ => by cases h
  | _ :: _, _, _ :: _, _, h, g => by
    cases h with
    | cons h1 h2 => exact .cons h1 (dps_app h2 g)
theorem dps_ints {K : PySem.W.Frag} {H : Hp} : ∀ ns : List Int, DpAll K H (ns.map V.int) (ns.map PyData.int)
  | [] => .nil
  | n :: ns => .cons (.int n) (dps_ints ns)
theorem dps_ints_inv {K : PySem.W.Frag} {H : Hp} : ∀ {ns : List Int} {vs : List V}, DpAll K H vs (ns.map PyData.int) → vs = ns.map V.int
  | [], [], _ => rfl
  | [], _ :: _, h => by cases h
  | _ :: _, [], h => by cases h
  | n :: ns, v :: vs, h => by
    cases h with
    | cons h1 h2 => cases h1; rw [dps_ints_inv h2]; rfl
/-- a list or a tuple of these -/
inductive SeqD : PyData → List PyData → Prop
  | l (ds : List PyData) : SeqD (.list ds) ds
  | t (ds : List PyData) : SeqD (.tuple ds) ds
def Sq (K : PySem.W.Frag) (H : Hp) (a : Addr) (xs : List V) : Prop := SqL K H a xs ∨ SqT K H a xs
theorem sq_mono {K : PySem.W.Frag} {H H' : Hp} {a : Addr} {xs : List V} (e : Same H H') (h : Sq K H a xs) : Sq K H' a xs := by
  rcases h with h | h
  · exact .inl (e.seq h)
  · exact .inr (sqt_mono e h)
theorem dp_seq {K : PySem.W.Frag} {H : Hp} {v : V} {d : PyData} {ds : List PyData} (h : Dp K H v d) (s : SeqD d ds) : ∃ a xs, v = .ref a ∧ Sq K H a xs ∧ DpAll K H xs ds := by
  cases s with
  | l =>
    cases h with
    | lst hs ha => exact ⟨_, _, rfl, .inl hs, ha⟩
  | t =>
    cases h with
    | tup hs ha => exact ⟨_, _, rfl, .inr hs, ha⟩
theorem dp_intv {K : PySem.W.Frag} {H : Hp} {v : V} {i : Int} (h : Dp K H v (.int i)) : v = .int i := by cases h; rfl
theorem ix_of {K : PySem.W.Frag} {H : Hp} {a : Addr} {xs : List V} {i : Int} {v : V} {Q : VK} (h : Sq K H a xs) (e : atI xs i = some v) (q : Q v H) : rIx K (.ref a) (.int i) H Q := by
  rcases h with h | h
  · exact .inl ⟨a, xs, i, v, rfl, rfl, h, e, q⟩
  · exact .inr (.inl ⟨a, xs, i, v, rfl, rfl, h, e, q⟩)
/-! repr of data -/
@[irreducible] def txt (d : PyData) : Str := d.shown
theorem txt_eq (d : PyData) : txt d = d.shown := by unfold txt; rfl
theorem call_reprD {X : Cx} (hG : X.A.guards = some []) (hu : X.A.units + 70 < cLine) :
    CallR X (.builtin "repr") (fun xs H Q => ∃ (a : Addr) (d : PyData), xs = [.ref a] ∧ Dp X.K H (.ref a) d ∧ d.showable = true ∧ d.hasDict = false ∧ d.depth ≤ 60 ∧ d.shown.length ≤ sizeLine ∧ Q (.str (txt d)) H) := by
  intro pins s σ H xs us Q I r h
  obtain ⟨a, d, rfl, hd, h1, h2, h3, h4, q⟩ := h
  rw [txt_eq] at q
  cases r with
  | cons ra rt =>
    cases rt
    obtain ⟨as, rd⟩ := Dp.reads I d (.ref a) _ hd ra
    cases ra
    exact repr_of_reads' rd h1 (PyData.noDict_hsm h2) hG (by omega) (fun _ _ e => e) (fun h' u tk hk => ⟨.str d.shown, H, I.kept hk, ⟨_, rfl⟩, q⟩) h4
end Af
/-! ### defs that are called where nothing is being shown by repr -/
namespace Af
open PySem PySem.Spec PyProof.Rows L2
structure FnG (P : Program) (w : World) (K : PySem.W.Frag) (mg : Str → Option Value) (base : Heap) (k : Nat) (f : Addr) (fd : FuncData) (ps : List Str) (sp : Sp) : Prop where
  len : ∀ vs H Q E, sp vs H Q E → vs.length = ps.length
  run : ∀ (A : Around) (fr : List Env) (s : Shared) (H : Hp) (ar : Args) (us : List Value) (vs : List V) (Q : VK) (E : XK), A.guards = some [] → Room k A → Env0 P w K mg base A fr s H →
    BindsTo s fd ar (ps.zip us) → Vals vs us → sp vs H Q E → codeAny (model P w) A (.call (.ref f) ar) (CR CX0 fr P w H s Q E) s
theorem FnG.of {P : Program} {w : World} {K : PySem.W.Frag} {mg : Str → Option Value} {base : Heap} {k : Nat} {f : Addr} {fd : FuncData} {ps : List Str} {sp : Sp} (F : FnOk P w K mg base CX0 k f fd ps sp) : FnG P w K mg base k f fd ps sp :=
  ⟨F.len, fun A fr s H ar us vs Q E _ hr he hb hv hs => F.run A fr s H ar us vs Q E hr he hb hv hs⟩
section
variable {P : Program} {w : World} {K : PySem.W.Frag} {mg : Str → Option Value} {base : Heap}
theorem fun_okG {x qual : Str} {st : Stmt} {f : Addr} {fd : FuncData} {N ps : List Str} {k : Nat} {sp : Sp} (F : Fun K x qual st f fd) (S : FnScope N ps (defScope st)) (len : ∀ vs H Q E, sp vs H Q E → vs.length = ps.length)
    (hbody : ∀ (cdv : Value) (A : Around) (fr : List Env) (s : Shared) (H : Hp) (vs : List V) (Q : VK) (E : XK), A.guards = some [] → Room k (A.deeper (envOfC qual (defScope st) s.heap.objs.size f cdv)) → sp vs H Q E →
      ∃ t, PSs (cxOf CX0 P w K mg base N qual (defScope st) f cdv A fr s H E).nox (defBody st) t ∧ t { nx := fun _ H' => Q .non H', rt := Q } (start N vs) H) : FnG P w K mg base (k + 1) f fd ps sp := by
  obtain ⟨oc, od, kV, doc, pm, an, cdv, ct, osl, rfl, lk, hcd⟩ := F.ex
  refine ⟨len, fun A fr s H ar us vs Q E hG hr e0 hb r hsp => ?_⟩
  have n1 := len _ _ _ _ hsp
  have kin : K.In s.heap := e0.mod.kin.keeps fun b o e => (e0.bs b o e).1
  have nol : s.heap.NoLimit := e0.mod.nolimit.keeps fun b o e => (e0.bs b o e).1
  have par : ∀ y ∈ ps.zip us, (defScope st).names.lookup y.1 = some .local ∨ ((defScope st).names.lookup y.1 = some .cell ∧ ((cellsFrom (s.heap.objs.size + 1) (defScope st).names []).lookup y.1).isSome = true) := by
    rintro ⟨nm, vl⟩ hm
    rcases S.par nm (List.of_mem_zip hm).1 with z | z
    · exact .inl z
    · exact .inr ⟨z, PySem.W.cellsFrom_some _ _ _ (.inl z)⟩
  refine codeAny_call_function hr.depth (kin _ _ lk) rfl S.co S.gen rfl (PySem.W.codeRec_of kin hcd) (hb _ _ _ _ ?_)
  refine wpAny_newFunctionEnv_cells S.kind par fun env hE s2 ic => ?_
  subst hE
  refine ⟨nol.keeps ic.toInCall.keep, codeAny_func ?_⟩
  obtain ⟨t, ht, hq⟩ := hbody cdv A fr s H vs Q E hG (hr.deeper _) hsp
  have J0 : Inv (cxOf CX0 P w K mg base N qual (defScope st) f cdv A fr s H E) [] (start N vs) H s2 := inv_start S hr.hd e0 n1 r ic
  refine wpAny_mono (ht.nox.run [] s2 (start N vs) H _ J0 hq) (fun fl s' hs => ?_) fun e s' hs => hs
  cases fl with
  | ret u =>
    obtain ⟨v, σ', H', J, rv, q⟩ := hs
    exact ⟨v, H', J.os, J.bare, J.base, J.hok, rv, q⟩
  | next =>
    obtain ⟨σ', H', J, q⟩ := hs
    exact ⟨V.non, H', J.os, J.bare, J.base, J.hok, rfl, q⟩
  | brk => obtain ⟨_, _, _, q⟩ := hs; exact q.elim
  | cont => obtain ⟨_, _, _, q⟩ := hs; exact q.elim
end
section
variable {X : Cx} {k : Nat} {f : Addr} {fd : FuncData} {ps : List Str} {sp : Sp} {x : Str} {p pos : Pos} {e : Expr} {es : List Expr} {t : TA}
theorem pe_guarded (F : FnG X.prog X.w X.K X.mg X.base k f fd ps sp) (hG : X.A.guards = some []) (hr : Room k X.A) (hg : Gl X x) (hm : X.mg x = some (.ref f)) (hk : PySem.W.keepIn X.K (.ref f) = true) (hb : Binds X.K fd ps [])
    (ha : PA X (e :: es) t) (hdb : (x == ("__debug__" : Str)) = false := by decide) (he : starEach (e :: es) X.env = (false, eval e X.env) :: starEach es X.env := by rfl) (hpl : (backTo pos (starEach es X.env)).any (·.1) = false := by rfl) :
    PE X (.Call (.Name x p) (e :: es) [] pos) (tCall sp [] E0 t) := by
  refine ⟨fun pn s σ H Q I h => wpAny_Call_Name_kw (ld_glob I hg hm ?_ hdb)⟩
  refine PySem.W.callWith_K (h₀ := X.base) I.ok.mod.kin hk (thn (ha.run pos pn s σ H _ I h) fun us s1 ⟨vs, H1, I1, r, q⟩ => ⟨I1.kIn, ?_⟩) he hpl
  have q' : sp (vs ++ []) H1 Q E0 := q
  rw [List.append_nil] at q'
  have n1 : (us ++ ([] : List Value)).length = ps.length := by rw [List.append_nil, ← r.length]; exact F.len _ _ _ _ q'
  have bnd := hb s1 us I1.kIn n1
  rw [List.append_nil] at bnd
  refine wpAny_call (codeAny_mono (F.run X.A X.stack s1 H1 ⟨us, []⟩ us vs Q E0 hG hr I1.env0 bnd r q') fun r s' hq => ?_)
  cases r with
  | error e => exact False.elim hq
  | ok fl =>
    cases fl with
    | ret u => exact I1.after hq
    | next => exact hq.elim
    | brk => exact hq.elim
    | cont => exact hq.elim
end
/-- the law's own call, where its def wants no guard -/
theorem law_callG {P : Program} {w : World} {K : PySem.W.Frag} {mg mb : Str → Option Value} {k : Nat} {fa a : Addr} {fd : FuncData} {x : Str} {sp : Sp} {s1 : Shared} {vs : List Value} {ns : List Int}
    (KX : K.In s1.heap) (hns : s1.heap.Ns mainGlobals mg) (hb : s1.heap.Ns builtinsNs mb) (hbb : ∀ x : Str, x ≠ "__name__" → mb x = bootBuiltins x) (hlim : s1.heap.NoLimit) (hg : s1.gens = #[])
    (ha : s1.heap.get? a = some { cls := .type "list", data := .seq vs.toArray }) (hi : IntsAre vs ns) (hl : ns.length ≤ sizeLine) (hr : Room k callerA)
    (F : ∀ base : Heap, K.In base → base.Ns mainGlobals mg → FnG P w K mg base k fa fd [x] sp) (hbind : ∀ (s : Shared) (u : Value), BindsTo s fd ⟨[u], []⟩ [(x, u)])
    (hsp : ∀ H : Hp, Only H → SqL K H a (ns.map V.int) → sp [.ref a] H (fun v _ => v = .bl true) fun _ _ _ => False) :
    codeAny (model P w) callerA (.call (.ref fa) ⟨[.ref a], []⟩) (fun r s' => r = .ok (.ret (.bool true)) ∧ OldK s1.heap s'.heap ∧ s'.os = s1.os ∧ AllBare s'.gens) s1 := by
  have rv := vals_ints hi
  have ln := hi.length
  have main : ∀ H : Hp, Only H → SqL K H a (ns.map V.int) → HOk P w H s1.heap → (∀ b, H b ≠ none → b = a) → (H a ≠ none → K.lookup a = none) →
      codeAny (model P w) callerA (.call (.ref fa) ⟨[.ref a], []⟩) (fun r s' => r = .ok (.ret (.bool true)) ∧ OldK s1.heap s'.heap ∧ s'.os = s1.os ∧ AllBare s'.gens) s1 := by
    intro H hO hS hok hA hK
    have nodict : ∀ {b : Addr} {o : Obj} {es : Array DictEntry} {ep : Nat}, s1.heap.get? b = some o → o.data = .dict es ep → H b = none := by
      intro b o es ep e d
      cases q : H b with
      | none => rfl
      | some u =>
        obtain rfl : b = a := hA b (by rw [q]; simp)
        rw [ha] at e; cases e
        exact absurd (show Data.seq vs.toArray _ = Data.dict es ep from d) (fun z => by cases z)
    have ns2 : ∀ {b : Addr} {m : Str → Option Value}, s1.heap.Ns b m → (hidT s1.heap H).Ns b m := by
      rintro b m ⟨o, es, ep, e, d, r⟩
      exact ⟨o, es, ep, hidT_get e (nodict e d), d, r⟩
    have kb : K.In (hidT s1.heap H) := fun b o e => hidT_get (KX b o e) (by
      cases q : H b with
      | none => rfl
      | some u =>
        obtain rfl : b = a := hA b (by rw [q]; simp)
        have z := hK (by rw [q]; simp)
        rw [z] at e; cases e)
    have md : Mod K mg (hidT s1.heap H) := ⟨kb, ns2 hns, ⟨mb, ns2 hb, hbb⟩, let ⟨mc, g1, g2⟩ := hlim; ⟨mc, ns2 g1, g2⟩⟩
    have ev : Env0 P w K mg (hidT s1.heap H) callerA [] s1 H :=
      ⟨rfl, md, fun b o e => of_hidT e, Nat.le_of_eq (hidT_size _ _), trivial, fun b z => absurd (show b ∈ ([] : List Addr) from z) (by simp), hok, .of_eq hg⟩
    have G := F _ kb (ns2 hns)
    refine codeAny_mono (G.run callerA [] s1 H ⟨[.ref a], []⟩ [.ref a] [.ref a] _ _ rfl hr ev (hbind s1 (.ref a)) (.cons rfl .nil) (hsp H hO hS)) fun r s' h => ?_
    cases r with
    | error e => exact False.elim h
    | ok fl =>
      cases fl with
      | next => exact h.elim
      | brk => exact h.elim
      | cont => exact h.elim
      | ret u =>
        obtain ⟨v, H', os, bare, un, hok', r', q⟩ := h
        obtain rfl : v = .bl true := q
        obtain rfl : u = Value.bool true := r'
        refine ⟨rfl, OldK.of_keep fun b o e => ?_, os, bare⟩
        cases q : H b with
        | none => exact un.keep b o e q (fun z => absurd (show b ∈ ([] : List Addr) from z) (by simp)) (by simp)
        | some u =>
          rcases hO b with z | ⟨ob, xs, z⟩
          · rw [q] at z; cases z
          · obtain ⟨e1, _⟩ := hok b _ z
            obtain ⟨e2, _⟩ := hok' b _ (un.frzs b ob _ z)
            rw [e] at e1; cases e1
            exact e2
  cases hk : K.lookup a with
  | some o =>
    have e := KX a o hk
    rw [ha] at e
    cases e
    exact main (fun _ => none) (fun _ => .inl rfl) (.inr ⟨_, vs.toArray, _, hk, rfl, rfl, rfl, by rw [List.size_toArray, ln]; exact hl, by simpa using rv⟩)
      (fun b u z => nomatch (show (none : Option HO) = some u from z)) (fun b z => absurd rfl z) fun z => absurd rfl z
  | none =>
    have hh : ∀ b : Addr, (if b = a then some (HO.frz { cls := .type "list", data := .seq vs.toArray } (.lst (ns.map V.int))) else none) ≠ none → b = a := fun b z => by
      by_cases hb : b = a
      · exact hb
      · rw [if_neg hb] at z; exact absurd rfl z
    refine main (fun b => if b = a then some (.frz { cls := .type "list", data := .seq vs.toArray } (.lst (ns.map V.int))) else none) (fun b => ?_) (.inl (.inr ⟨_, if_pos rfl⟩)) (fun b u z => ?_) hh fun _ => hk
    · by_cases hb : b = a
      · exact .inr ⟨_, _, if_pos hb⟩
      · exact .inl (if_neg hb)
    · have z' : (if b = a then some (HO.frz { cls := .type "list", data := .seq vs.toArray } (.lst (ns.map V.int))) else none) = some u := z
      have hb : b = a := hh b (by rw [z']; simp)
      subst hb
      rw [if_pos rfl] at z'
      cases z'
      exact ⟨ha, by rw [List.length_map]; exact hl, vs, _, rv, ha⟩
theorem walk_ofG {l : PySem.W.OpenLaw} {n k : Nat} {q : Program} {loose : List Str} {XP : (Str → Option Value) → Heap → Prop} {YP : World → Heap → Prop} {d : DefRec} {K : Params → PySem.W.Frag} {sp : PySem.W.Frag → Sp} {x : Str}
    (hn : l.most = some n) (hn2 : n ≤ sizeLine) (hdf : d.params.defaults = []) (hr : Room k callerA)
    (hY : ∀ (w : World) (h : Heap), YP w h → (K w.params).In h)
    (F : ∀ (w : World) (mg : Str → Option Value) (fa : Addr) (h : Heap), (K w.params).In h → h.Ns mainGlobals mg → mg d.name = some (.ref fa) →
      ∃ fd : FuncData, (∀ (s : Shared) (u : Value), BindsTo s fd ⟨[u], []⟩ [(x, u)]) ∧
        ∀ base : Heap, (K w.params).In base → base.Ns mainGlobals mg → FnG l.prog w (K w.params) mg base k fa fd [x] (sp (K w.params)))
    (hsp : ∀ (K : PySem.W.Frag) (H : Hp) (a : Addr) (ns : List Int), ns.length ≤ n → Only H → SqL K H a (ns.map V.int) → sp K [.ref a] H (fun v _ => v = .bl true) fun _ _ _ => False) :
    PySem.W.WalkO q loose XP YP l.row.toRowW d [] (fun f vs => PySem.call f vs) := by
  refine Att.attach_call hn hdf fun w s0 s1 mg mb fa o pm cd doc a vs ns G Y ho hd hcd hmg hobj hints hlen hg => ?_
  obtain ⟨fd, hb, hF⟩ := F w mg fa _ (hY w _ Y) G.T.g hmg
  exact law_callG (hY w _ Y) G.T.g G.T.b G.T.builtins G.T.nolimit hg hobj hints (Nat.le_trans hlen hn2) hr hF hb fun H hO hS => hsp (K w.params) H a ns hlen hO hS
end Af
/-! ### books, standings as data -/
namespace Af
open PySem PySem.Spec PyProof.Rows L2
def RowD (d : PyData) (ns : List Int) : Prop := SeqD d (ns.map PyData.int)
inductive RowsD : List PyData → List (List Int) → Prop
  | nil : RowsD [] []
  | cons {d : PyData} {ds : List PyData} {ns : List Int} {B : List (List Int)} : RowD d ns → RowsD ds B → RowsD (d :: ds) (ns :: B)
def BookD (d : PyData) (B : List (List Int)) : Prop := ∃ ds, SeqD d ds ∧ RowsD ds B
def rowT (ns : List Int) : PyData := .tuple (ns.map PyData.int)
def rowL (ns : List Int) : PyData := .list (ns.map PyData.int)
def bookT (B : List (List Int)) : PyData := .tuple (B.map rowT)
def bookL (B : List (List Int)) : PyData := .list (B.map rowL)
theorem rowT_row (ns : List Int) : RowD (rowT ns) ns := .t _
theorem rowL_row (ns : List Int) : RowD (rowL ns) ns := .l _
theorem rowsT : ∀ B : List (List Int), RowsD (B.map rowT) B
  | [] => .nil
  | r :: B => .cons (rowT_row r) (rowsT B)
theorem rowsL : ∀ B : List (List Int), RowsD (B.map rowL) B
  | [] => .nil
  | r :: B => .cons (rowL_row r) (rowsL B)
theorem bookT_book (B : List (List Int)) : BookD (bookT B) B := ⟨_, .t _, rowsT B⟩
theorem bookL_book (B : List (List Int)) : BookD (bookL B) B := ⟨_, .l _, rowsL B⟩
theorem rows_len : ∀ {ds : List PyData} {B : List (List Int)}, RowsD ds B → ds.length = B.length
  | [], [], _ => rfl
  | [], _ :: _, h => by cases h
  | _ :: _, [], h => by cases h
  | _ :: _, _ :: _, h => by
    cases h with
    | cons _ h => exact congrArg (· + 1) (rows_len h)
theorem rows_get : ∀ {ds : List PyData} {B : List (List Int)} {i : Nat} {ns : List Int}, RowsD ds B → B[i]? = some ns → ∃ d, ds[i]? = some d ∧ RowD d ns
  | [], [], _, _, _, e => by simp at e
  | [], _ :: _, _, _, h, _ => by cases h
  | _ :: _, [], _, _, h, _ => by cases h
  | d :: ds, r :: B, 0, ns, h, e => by
    cases h with
    | cons h1 _ => simp at e; subst e; exact ⟨d, rfl, h1⟩
  | d :: ds, r :: B, i + 1, ns, h, e => by
    cases h with
    | cons _ h2 => simpa using rows_get (i := i) h2 (by simpa using e)
section
variable {K : PySem.W.Frag} {H : Hp}
theorem row_at {v : V} {d : PyData} {ns : List Int} (h : Dp K H v d) (r : RowD d ns) : ∃ a, v = .ref a ∧ Sq K H a (ns.map V.int) := by
  obtain ⟨a, xs, rfl, hs, ha⟩ := dp_seq h r
  rw [dps_ints_inv ha] at hs
  exact ⟨a, rfl, hs⟩
theorem book_len {v : V} {d : PyData} {B : List (List Int)} (h : Dp K H v d) (r : BookD d B) : ∃ a xs, v = .ref a ∧ Sq K H a xs ∧ xs.length = B.length := by
  obtain ⟨ds, s, rs⟩ := r
  obtain ⟨a, xs, rfl, hs, ha⟩ := dp_seq h s
  exact ⟨a, xs, rfl, hs, (dps_len ha).trans (rows_len rs)⟩
theorem book_row {v : V} {d : PyData} {B : List (List Int)} {i : Nat} {ns : List Int} (h : Dp K H v d) (r : BookD d B) (e : B[i]? = some ns) :
    ∃ a xs ra, v = .ref a ∧ Sq K H a xs ∧ xs[i]? = some (.ref ra) ∧ Sq K H ra (ns.map V.int) := by
  obtain ⟨ds, s, rs⟩ := r
  obtain ⟨a, xs, rfl, hs, ha⟩ := dp_seq h s
  obtain ⟨dr, e1, r1⟩ := rows_get rs e
  obtain ⟨x, e2, h2⟩ := dps_get ha e1
  obtain ⟨ra, rfl, h3⟩ := row_at h2 r1
  exact ⟨a, xs, ra, rfl, hs, e2, h3⟩
end
/-- the length of climber c's ladder -/
def lenS (B : List (List Int)) (R : List Int) (c : Nat) : Option Int := (B[c + 1]?).bind fun row => (R[c]?).bind fun r => if 1 ≤ r then row[(r - 1).toNat]? else none
def lenAt (B : List (List Int)) (R : List Int) : Nat → Option Int
  | 0 => (B[0]?).bind fun row => row[0]?
  | c + 1 => lenS B R c
theorem lenAt_zero {B : List (List Int)} {R : List Int} {n : Int} (h : lenAt B R 0 = some n) : ∃ row, B[0]? = some row ∧ row[0]? = some n := by
  have h : ((B[0]?).bind fun row => row[0]?) = some n := h
  cases e : B[0]? with
  | none => rw [e] at h; cases h
  | some row => rw [e] at h; exact ⟨row, rfl, h⟩
theorem lenAt_succ {B : List (List Int)} {R : List Int} {c : Nat} {n : Int} (h : lenAt B R (c + 1) = some n) : ∃ row r, B[c + 1]? = some row ∧ R[c]? = some r ∧ 1 ≤ r ∧ row[(r - 1).toNat]? = some n := by
  have h : lenS B R c = some n := h
  unfold lenS at h
  cases e : B[c + 1]? with
  | none => rw [e] at h; cases h
  | some row =>
    rw [e] at h
    cases e2 : R[c]? with
    | none => rw [e2] at h; cases h
    | some r =>
      rw [e2] at h
      have h' : (if 1 ≤ r then row[(r - 1).toNat]? else none) = some n := h
      by_cases h1 : 1 ≤ r
      · rw [if_pos h1] at h'; exact ⟨row, r, rfl, rfl, h1, h'⟩
      · rw [if_neg h1] at h'; cases h'
theorem lenAt_mk {B : List (List Int)} {R : List Int} {c : Nat} {row : List Int} {r n : Int} (e1 : B[c + 1]? = some row) (e2 : R[c]? = some r) (h1 : 1 ≤ r) (e3 : row[(r - 1).toNat]? = some n) : lenAt B R (c + 1) = some n := by
  show lenS B R c = some n
  unfold lenS
  rw [e1, e2]
  show (if 1 ≤ r then row[(r - 1).toNat]? else none) = some n
  rw [if_pos h1]; exact e3
/-- it hangs on the rungs of the older ones alone -/
theorem lenAt_pre {B : List (List Int)} {R S : List Int} {c : Nat} (h : ∀ i, i < c → R[i]? = S[i]?) : lenAt B R c = lenAt B S c := by
  cases c with
  | zero => rfl
  | succ c =>
    show lenS B R c = lenS B S c
    unfold lenS; rw [h c (Nat.lt_succ_self c)]
/-! a box of the draws -/
def Box (H : Hp) (bx : Addr) (m : Nat) : Prop := ∃ a b c : Int, H bx = some (.lst [.int a, .int b, .int c]) ∧ 0 ≤ a ∧ 0 ≤ b ∧ b < 2 ^ 62 ∧ 0 ≤ c ∧ c ≤ m
theorem Box.le {H : Hp} {bx : Addr} {m n : Nat} (h : Box H bx m) (e : m ≤ n) : Box H bx n := by
  obtain ⟨a, b, c, h1, h2, h3, h4, h5, h6⟩ := h
  exact ⟨a, b, c, h1, h2, h3, h4, h5, by omega⟩
theorem Box.new {H : Hp} {bx p : Addr} {m : Nat} {o : HO} (h : Box H bx m) (np : H p = none) : Box (upd H p o) bx m := by
  obtain ⟨a, b, c, h1, h2⟩ := h
  exact ⟨a, b, c, by rw [upd_ne (ne_of_none h1 np)]; exact h1, h2⟩
theorem Box.up {H H' : Hp} {bx : Addr} {m : Nat} (h : Box H bx m) (s : Same H H') : Box H' bx m := by
  obtain ⟨a, b, c, h1, h2⟩ := h
  exact ⟨a, b, c, s _ _ h1, h2⟩
theorem Box.ne {H : Hp} {bx p : Addr} {m : Nat} (h : Box H bx m) (np : H p = none) : p ≠ bx := by
  obtain ⟨a, b, c, h1, _⟩ := h
  exact (ne_of_none h1 np).symm
theorem Box.neT {H : Hp} {bx p : Addr} {m : Nat} {xs : List V} (h : Box H bx m) (np : H p = some (.tup xs)) : p ≠ bx := by
  obtain ⟨a, b, c, h1, _⟩ := h
  intro e; subst e; rw [np] at h1; cases h1
/-! max of a tuple of ints -/
theorem depth_ints : ∀ ns : List Int, PyData.depthAll (ns.map PyData.int) = 0
  | [] => by simp [PyData.depthAll]
  | n :: ns => by simp [PyData.depthAll, PyData.depth, depth_ints ns]
theorem cr_maxT {X : Cx} (hc : X.calm = true) (hu : X.A.units + 64 < cLine) :
    CallR X (.builtin "max") (fun vs H Q => ∃ (a : Addr) (n : Int) (ns : List Int), vs = [.ref a] ∧ SqT X.K H a ((n :: ns).map V.int) ∧ Q (.int (ns.foldl max n)) H) := by
  intro pins s σ H vs us Q I r h
  obtain ⟨a, n, ns, rfl, hs, q⟩ := h
  obtain ⟨its, rv, ⟨o, ho, hc2, nn, hd⟩, _⟩ := I.tuple hs
  obtain ⟨as, rs⟩ := Dp.readsAll I ((n :: ns).map PyData.int) _ its (dps_ints (n :: ns)) rv
  rw [Vals.ref1 r]
  refine PySem.W.max_tuple_data (x := .int n) (xs := ns.map PyData.int) (vs := its.toArray) (I.ok.hd hc) ⟨o, ho, hc2, nn, hd⟩ (by simpa using rs) ?_ ?_ fun i v h' tk bs hi rr hk => ?_
  · refine ⟨fun x hx y hy => ?_, fun x hx => ?_⟩
    · obtain ⟨i, _, rfl⟩ := List.mem_map.mp (show x ∈ (n :: ns).map PyData.int from hx)
      obtain ⟨j, _, rfl⟩ := List.mem_map.mp (show y ∈ (n :: ns).map PyData.int from hy)
      simp only [PySem.W.alike]
    · obtain ⟨i, _, rfl⟩ := List.mem_map.mp (show x ∈ (n :: ns).map PyData.int from hx)
      exact fun z => by cases z
  · have e : PyData.depthAll ((n :: ns).map PyData.int) = 0 := depth_ints _
    have e2 : PyData.depthAll (.int n :: ns.map PyData.int) = 0 := e
    rw [e2]; omega
  · rw [PySem.W.maxD_ints] at rr
    cases rr
    exact ⟨.int _, H, I.kept hk, ⟨_, rfl⟩, q⟩
end Af
/-! ### built-in names, defs, calls -/
namespace Af
open PySem PySem.Spec PyProof.Rows L2
/-- the built-in names are still the built-in ones -/
structure Bl (mg : Str → Option Value) : Prop where
  len : mg "len" = none
  abs : mg "abs" = none
  int : mg "int" = none
  bool : mg "bool" = none
  str : mg "str" = none
  range : mg "range" = none
  list : mg "list" = none
  tuple : mg "tuple" = none
  isi : mg "isinstance" = none
  all : mg "all" = none
  zip : mg "zip" = none
  enum : mg "enumerate" = none
  max : mg "max" = none
  repr : mg "repr" = none
/-- a def of the top: where it stands, how it is bound -/
structure Df (K : PySem.W.Frag) (mg : Str → Option Value) (x : Str) (st : Stmt) (ps : List Str) (f : Addr) (fd : FuncData) : Prop where
  F : Fun K x x st f fd
  b : Binds K fd ps []
  g : mg x = some (.ref f)
section
variable {X : Cx} {k : Nat} {f : Addr} {fd : FuncData} {ps ks : List Str} {sp : Sp} {x : Str} {st : Stmt} {p pos : Pos} {e : Expr} {es : List Expr} {kws : List Keyword} {t tk : TA}
theorem pe_do (D : Df X.K X.mg x st ps f fd) (G : FnOk X.prog X.w X.K X.mg X.base CX0 k f fd ps sp) (hr : Room k X.A) (hg : Gl X x) (ha : PA X (e :: es) t) (hdb : (x == ("__debug__" : Str)) = false := by decide)
    (he : starEach (e :: es) X.env = (false, eval e X.env) :: starEach es X.env := by rfl) (hpl : (backTo pos (starEach es X.env)).any (·.1) = false := by rfl) : PE X (.Call (.Name x p) (e :: es) [] pos) (tCall sp [] E0 t) :=
  pe_call G hr hg D.g D.F.kp D.b .nil pass0 ha hdb he hpl
theorem pe_do0 (D : Df X.K X.mg x st ps f fd) (G : FnOk X.prog X.w X.K X.mg X.base CX0 k f fd ps sp) (hr : Room k X.A) (hg : Gl X x) (hdb : (x == ("__debug__" : Str)) = false := by decide) : PE X (.Call (.Name x p) [] [] pos) (tCall sp [] E0 tNil) :=
  pe_call0 G hr hg D.g D.F.kp D.b .nil pass0 hdb
/-- keywords alone, in the parameters' order turned round -/
def gR (us ws : List Value) : List Value := if us.isEmpty then ws.reverse else []
def gVR (us ws : List V) : List V := if us.isEmpty then ws.reverse else []
theorem vals_rev : ∀ {zs : List V} {ws : List Value}, Vals zs ws → Vals zs.reverse ws.reverse
  | _, _, .nil => .nil
  | _, _, .cons r t => by
    rw [List.reverse_cons, List.reverse_cons]
    exact (vals_rev t).append (.cons r .nil)
theorem kbinds {K : PySem.W.Frag} (F : Fun K x x st f fd) (hp : ps ≠ [])
    (h : ∀ (kV doc pm : Value) (an : Option Addr) (cdv ct : Value) (ws : List Value), ws.length = ps.length → bindArgs (PySem.W.fnOf x x (defArgs st) (defBody st) (defScope st) .none kV doc pm an cdv ct) ⟨[], ks.zip ws⟩ = pure (ps.zip ws.reverse)) : KBinds K fd ps ks gR gVR := by
  obtain ⟨oc, od, kV, doc, pm, an, cdv, ct, osl, rfl, lk, hcd⟩ := F.ex
  refine ⟨fun s us ws _ hl => ?_, fun {vs us zs ws} r1 r2 => ?_⟩
  · cases us with
    | nil =>
      have hl' : ws.length = ps.length := by
        have z : ws.reverse.length = ps.length := hl
        rw [List.length_reverse] at z; exact z
      exact .of_eq (h kV doc pm an cdv ct ws hl')
    | cons u us =>
      have z : ([] : List Value).length = ps.length := hl
      exact absurd (List.eq_nil_of_length_eq_zero z.symm) hp
  · cases r1 with
    | nil => exact vals_rev r2
    | cons _ _ => exact .nil
theorem pe_kw (D : Df X.K X.mg x st ps f fd) (G : FnOk X.prog X.w X.K X.mg X.base CX0 k f fd ps sp) (hr : Room k X.A) (hg : Gl X x) (hb : KBinds X.K fd ps ks gR gVR) (hkw : PK X kws tk)
    (hall : (backToKw pos (keywordEach kws X.env)).all (·.1.isSome) = true := by rfl) (hks : (backToKw pos (keywordEach kws X.env)).filterMap (·.1) = ks := by rfl) (hdb : (x == ("__debug__" : Str)) = false := by decide)
    (hpl : ((backTo pos (starEach [] X.env)).any (·.1) || (backToKw pos (keywordEach kws X.env)).any (·.1.isNone)) = false := by rfl) : PE X (.Call (.Name x p) [] kws pos) (tCallK sp gVR E0 tNil tk) := by
  refine ⟨fun pins s σ H Q I h => wpAny_Call_Name_kw (ld_glob I hg D.g ?_ hdb)⟩
  refine PySem.W.callWith_KW0 (h₀ := X.base) I.ok.mod.kin D.F.kp hall (thn (hkw.run pos pins s σ H _ I h) fun ws s2 ⟨zs, H2, I2, rz, q2⟩ => ⟨I2.kIn, ?_⟩) hpl
  rw [hks]
  exact run_fnk (us := []) (vs := []) G hr hb pass0 I2 .nil rz q2
end
theorem bLen : bootBuiltins "len" = some (.builtin "len") := by decide +kernel
theorem bAbs : bootBuiltins "abs" = some (.builtin "abs") := by decide +kernel
theorem bInt : bootBuiltins "int" = some (.type "int") := by decide +kernel
theorem bStr : bootBuiltins "str" = some (.type "str") := by decide +kernel
theorem bBool : bootBuiltins "bool" = some (.type "bool") := by decide +kernel
theorem bList : bootBuiltins "list" = some (.type "list") := by decide +kernel
theorem bTuple : bootBuiltins "tuple" = some (.type "tuple") := by decide +kernel
theorem bIsi : bootBuiltins "isinstance" = some (.builtin "isinstance") := by decide +kernel
theorem bAll : bootBuiltins "all" = some (.builtin "all") := by decide +kernel
theorem bMax : bootBuiltins "max" = some (.builtin "max") := by decide +kernel
theorem bRepr : bootBuiltins "repr" = some (.builtin "repr") := by decide +kernel
end Af
/-! ### isinstance, sizes of data -/
namespace Af
open PySem PySem.Spec PyProof.Rows L2
def tyN : PyData → String
  | .none => "NoneType"
  | .bool _ => "bool"
  | .int _ => "int"
  | .str _ => "str"
  | .list _ => "list"
  | .tuple _ => "tuple"
  | .dict _ => "dict"
section
variable {K : PySem.W.Frag} {H : Hp}
theorem tyx_list {a : Addr} {xs : List V} (h : SqL K H a xs) : TyX K H (.ref a) (.type "list") := by
  rcases h with (h | ⟨o, h⟩) | ⟨o, _, _, h, c, _⟩
  · exact .base (.lst h)
  · exact .base (.frz h)
  · exact .kList h c
theorem tyx_tup {a : Addr} {xs : List V} (h : SqT K H a xs) : TyX K H (.ref a) (.type "tuple") := by
  rcases h with (h | ⟨o, h⟩) | ⟨o, _, _, h, c, _⟩
  · exact .base (.tup h)
  · exact .fTuple h
  · exact .kTuple h c
theorem tyx_of {v : V} {d : PyData} (h : Dp K H v d) : TyX K H v (.type (tyN d)) := by
  cases h with
  | non => exact .base .non
  | bl b => exact .base (.bl b)
  | int i => exact .base (.int i)
  | str x => exact .base (.str x)
  | lst h _ => exact tyx_list h
  | tup h _ => exact tyx_tup h
theorem kit2 {a b1 b2 : String} {r1 r2 : Bool} (h1 : kitB a b1 = some r1) (h2 : kitB a b2 = some r2) : PySem.W.kitAny K (.type a) [.type b1, .type b2] = some (r1 || r2) := by
  refine kitAny_cons (kit_ty h1) (fun e => kitAny_cons (kit_ty h2) (fun e2 => ?_) fun e2 => ?_) fun e => ?_
  · rw [e, e2]; exact kitAny_nil
  · rw [e, e2]; rfl
  · rw [e]; rfl
end
/-- isinstance of data against a built-in class of the six -/
def isD (d : PyData) (T : String) : Bool := (tyN d == T) || (tyN d == "bool" && T == "int")
def six : List String := ["NoneType", "bool", "int", "str", "list", "tuple"]
theorem kit_six : ∀ a ∈ six, ∀ b ∈ ["bool", "int", "str", "list", "tuple"], kitB a b = some ((a == b) || (a == "bool" && b == "int")) := by decide +kernel
theorem tyN_six {K : PySem.W.Frag} {H : Hp} {v : V} {d : PyData} (h : Dp K H v d) : tyN d ∈ six := by
  cases h <;> simp [tyN, six]
theorem kit_is {K : PySem.W.Frag} {H : Hp} {v : V} {d : PyData} {T : String} (h : Dp K H v d) (hT : T ∈ ["bool", "int", "str", "list", "tuple"]) : kitB (tyN d) T = some (isD d T) := kit_six _ (tyN_six h) T hT
def five : List String := ["bool", "int", "str", "list", "tuple"]
theorem call_isD {X : Cx} : CallR X (.builtin "isinstance") (fun xs H Q => ∃ (v : V) (c : String) (d : PyData), xs = [v, .ty c] ∧ c ∈ five ∧ Dp X.K H v d ∧ Q (.bl (isD d c)) H) := by
  intro pins s σ H xs us Q I r h
  obtain ⟨v, c, d, rfl, hc, hd, q⟩ := h
  exact call_isi pins s σ H _ us Q I r ⟨v, .ty c, _, _, _, rfl, .ty c, tyx_of hd, kit_ty (kit_is hd hc), q⟩
theorem call_isD2 {X : Cx} : CallR X (.builtin "isinstance") (fun xs H Q => ∃ (v : V) (tp : Addr) (c1 c2 : String) (d : PyData), xs = [v, .ref tp] ∧ H tp = some (.tup [.ty c1, .ty c2]) ∧ c1 ∈ five ∧ c2 ∈ five ∧ Dp X.K H v d ∧ Q (.bl (isD d c1 || isD d c2)) H) := by
  intro pins s σ H xs us Q I r h
  obtain ⟨v, tp, c1, c2, d, rfl, ht, h1, h2, hd, q⟩ := h
  exact call_isiT pins s σ H _ us Q I r ⟨v, tp, _, _, _, _, rfl, ht, .cons (.ty c1) (.cons (.ty c2) .nil), tyx_of hd, kit2 (kit_is hd h1) (kit_is hd h2), q⟩
/-- sizes -/
theorem bulk_len : ∀ ds : List PyData, ds.length ≤ PyData.bulkAll ds
  | [] => by simp
  | d :: ds => by have := bulk_len ds; simp only [PyData.bulkAll, List.length_cons]; omega
theorem bulk_mem : ∀ {ds : List PyData} {d : PyData}, d ∈ ds → d.bulk + 1 ≤ PyData.bulkAll ds
  | [], _, h => by cases h
  | x :: ds, d, h => by
    simp only [PyData.bulkAll]
    rcases List.mem_cons.mp h with rfl | h
    · omega
    · have := bulk_mem h; omega
theorem depth_mem : ∀ {ds : List PyData} {d : PyData}, d ∈ ds → d.depth ≤ PyData.depthAll ds
  | [], _, h => by cases h
  | x :: ds, d, h => by
    simp only [PyData.depthAll]
    rcases List.mem_cons.mp h with rfl | h
    · omega
    · have := depth_mem h; omega
end Af
/-! ### a list or a tuple, walked; what is new -/
namespace Af
open PySem PySem.Spec PyProof.Rows L2
def SqB (K : PySem.W.Frag) : Bool → Hp → Addr → List V → Prop
  | true, H, a, xs => SqL K H a xs
  | false, H, a, xs => SqT K H a xs
theorem SqB.up {K : PySem.W.Frag} {H H' : Hp} {a : Addr} {xs : List V} {b : Bool} (h : SqB K b H a xs) (s : Same H H') : SqB K b H' a xs := by
  cases b with
  | true => exact s.seq h
  | false => exact sqt_mono s h
theorem SqB.sq {K : PySem.W.Frag} {H : Hp} {a : Addr} {xs : List V} {b : Bool} (h : SqB K b H a xs) : Sq K H a xs := by
  cases b with
  | true => exact .inl h
  | false => exact .inr h
theorem Sq.kind {K : PySem.W.Frag} {H : Hp} {a : Addr} {xs : List V} (h : Sq K H a xs) : ∃ b, SqB K b H a xs := by
  rcases h with h | h
  · exact ⟨true, h⟩
  · exact ⟨false, h⟩
def iSeq (K : PySem.W.Frag) (tl : TE) : TI := fun σ H R => tl σ H fun x H1 => ∃ (a : Addr) (xs : List V) (b : Bool), x = .ref a ∧ SqB K b H1 a xs ∧ ∀ J, Walk J xs.length (fun H => SqB K b H a xs) (YAt xs) → R J H1
theorem pi_seq {X : Cx} {tg l : Expr} {tl : TE} (hl : PE X l tl) : PI X tg l (iSeq X.K tl) := by
  refine ⟨fun pins s σ H R I h => thn (hl.run pins s σ H _ I h) fun v s1 ⟨x, H1, I1, r1, q1⟩ => ?_⟩
  obtain ⟨a, xs, b, rfl, hq, q⟩ := q1
  cases r1
  have fr : ∀ c ∈ [s1.heap.objs.size], FpOk X pins H1 c := fun c hc => by
    obtain rfl : c = s1.heap.objs.size := by simpa using hc
    exact I1.fpOk (Nat.le_refl _) (I1.hok.fresh (Nat.le_refl _))
  cases b with
  | true =>
    obtain ⟨its, rv, pl, _⟩ := I1.list (show SqL X.K H1 a xs from hq)
    exact wpAny_pyIter_list pl.isList ⟨s1.heap.objs.size, [s1.heap.objs.size], _, _, H1, rfl, I1.kept (t' := s1.toks) fun b o e => Heap.get?_push_of_some _ e, turn_list a _, ⟨_, Heap.get?_push_size _ rfl, rfl, rfl⟩, fr, q _ walk_list⟩
  | false =>
    obtain ⟨its, rv, pl, _⟩ := I1.tuple (show SqT X.K H1 a xs from hq)
    exact wpAny_pyIter_tuple (show s1.heap.IsTuple a its.toArray from pl) ⟨s1.heap.objs.size, [s1.heap.objs.size], _, _, H1, rfl, I1.kept (t' := s1.toks) fun b o e => Heap.get?_push_of_some _ e, turn_tuple a _, ⟨_, Heap.get?_push_size _ rfl, rfl, rfl⟩, fr, q _ walk_tup⟩
/-- what was laid since H -/
def fresh (H H' : Hp) : Hp := fun a => match H a with
  | none => H' a
  | some _ => none
theorem fresh_at {H H' : Hp} {a : Addr} (h : H a = none) : fresh H H' a = H' a := by unfold fresh; rw [h]
theorem fresh_inv {H H' : Hp} {a : Addr} {o : HO} (h : fresh H H' a = some o) : H a = none ∧ H' a = some o := by
  unfold fresh at h
  cases e : H a with
  | none => rw [e] at h; exact ⟨rfl, h⟩
  | some x => rw [e] at h; cases h
theorem fresh_le {H H' : Hp} : Same (fresh H H') H' := fun a o e => (fresh_inv e).2
theorem fresh_up {H H1 H2 : Hp} (s : Same H1 H2) : Same (fresh H H1) (fresh H H2) := fun a o e => by
  obtain ⟨h1, h2⟩ := fresh_inv e
  rw [fresh_at h1]; exact s _ _ h2
theorem fresh_down {H0 H H1 : Hp} (s : Same H0 H) : Same (fresh H H1) (fresh H0 H1) := fun a o e => by
  obtain ⟨h1, h2⟩ := fresh_inv e
  rw [fresh_at (s.free h1)]; exact h2
theorem fresh_hid {H H' : Hp} {z : Addr} (hz : H z ≠ none) : Same (fresh H H') (hid H' z) := fun a o e => by
  obtain ⟨h1, h2⟩ := fresh_inv e
  rw [hid_ne (fun q => hz (by rw [← q]; exact h1))]; exact h2
/-- data that was made since H -/
def NewD (K : PySem.W.Frag) (H H' : Hp) (v : V) (d : PyData) : Prop := Dp K (fresh H H') v d
def NewDs (K : PySem.W.Frag) (H H' : Hp) (vs : List V) (ds : List PyData) : Prop := DpAll K (fresh H H') vs ds
section
variable {K : PySem.W.Frag} {H0 H H1 H2 : Hp} {v : V} {d : PyData} {vs : List V} {ds : List PyData}
theorem NewD.up (h : NewD K H H1 v d) (s : Same H1 H2) : NewD K H H2 v d := dp_up h (fresh_up s)
theorem NewD.down (h : NewD K H H1 v d) (s : Same H0 H) : NewD K H0 H1 v d := dp_up h (fresh_down s)
theorem NewD.dp (h : NewD K H H1 v d) : Dp K H1 v d := dp_up h fresh_le
theorem NewD.hid {z : Addr} (h : NewD K H H1 v d) (hz : H z ≠ none) : Dp K (hid H1 z) v d := dp_up h (fresh_hid hz)
theorem NewDs.up (h : NewDs K H H1 vs ds) (s : Same H1 H2) : NewDs K H H2 vs ds := dps_up h (fresh_up s)
theorem NewDs.len (h : NewDs K H H1 vs ds) : vs.length = ds.length := dps_len h
theorem new_ints (ns : List Int) : NewDs K H H1 (ns.map V.int) (ns.map PyData.int) := dps_ints ns
theorem new_lst {p : Addr} (hp : H p = none) (e : H1 p = some (.lst vs)) (h : NewDs K H H1 vs ds) : NewD K H H1 (.ref p) (.list ds) := .lst (SqL.of (by rw [fresh_at hp]; exact e)) h
theorem new_tup {p : Addr} (hp : H p = none) (e : H1 p = some (.tup vs)) (h : NewDs K H H1 vs ds) : NewD K H H1 (.ref p) (.tuple ds) := .tup (.inl (.inl (by rw [fresh_at hp]; exact e))) h
/-- one more item of a list that grows at D -/
theorem acc_step {D : Addr} {o : HO} (h : DpAll K (hid (fresh H H1) D) vs ds) (hD : H1 D ≠ none) (s0 : Same H H1) (s1 : Same H1 H2) (g : NewD K H1 H2 v d) : DpAll K (hid (fresh H (upd H2 D o)) D) (vs ++ [v]) (ds ++ [d]) := by
  have k1 : Same (hid (fresh H H1) D) (hid (fresh H (upd H2 D o)) D) := fun a x e => by
    obtain ⟨n1, e1⟩ := hid_some e
    obtain ⟨e2, e3⟩ := fresh_inv e1
    rw [hid_ne n1, fresh_at e2, upd_ne n1]; exact s1 _ _ e3
  have k2 : Same (fresh H1 H2) (hid (fresh H (upd H2 D o)) D) := fun a x e => by
    obtain ⟨e2, e3⟩ := fresh_inv e
    have n1 : a ≠ D := fun q => hD (by rw [← q]; exact e2)
    rw [hid_ne n1, fresh_at (s0.free e2), upd_ne n1]; exact e3
  exact dps_app (dps_up h k1) (.cons (dp_up g k2) .nil)
theorem acc_done {D : Addr} (h : DpAll K (hid (fresh H H1) D) vs ds) : NewDs K H H1 vs ds := dps_up h hid_le
end
/-! lists in the place of tuples, at any depth -/
mutual
def lsD : PyData → PyData
  | .list ds => .list (lsDs ds)
  | .tuple ds => .list (lsDs ds)
  | .none => .none
  | .bool b => .bool b
  | .int i => .int i
  | .str x => .str x
  | .dict kvs => .dict kvs
def lsDs : List PyData → List PyData
  | [] => []
  | d :: ds => lsD d :: lsDs ds
end
theorem lsDs_len : ∀ ds : List PyData, (lsDs ds).length = ds.length
  | [] => by simp [lsDs]
  | d :: ds => by simp [lsDs, lsDs_len ds]
theorem lsDs_take : ∀ (ds : List PyData) (i : Nat) (d : PyData), ds[i]? = some d → (lsDs ds).take (i + 1) = (lsDs ds).take i ++ [lsD d]
  | [], _, _, e => by simp at e
  | x :: ds, 0, d, e => by simp at e; subst e; simp [lsDs]
  | x :: ds, i + 1, d, e => by
    have := lsDs_take ds i d (by simpa using e)
    simp only [lsDs, List.take_succ_cons]
    rw [this]; rfl
theorem lsDs_ints : ∀ ns : List Int, lsDs (ns.map PyData.int) = ns.map PyData.int
  | [] => by simp [lsDs]
  | n :: ns => by simp [lsDs, lsD, lsDs_ints ns]
theorem lsD_row (ns : List Int) : lsD (rowT ns) = rowL ns := by simp only [rowT, rowL, lsD, lsDs_ints]
theorem lsDs_rows : ∀ B : List (List Int), lsDs (B.map rowT) = B.map rowL
  | [] => by simp [lsDs]
  | r :: B => by simp [lsDs, lsD_row, lsDs_rows B]
theorem lsD_book (B : List (List Int)) : lsD (bookT B) = bookL B := by simp only [bookT, bookL, lsD, lsDs_rows]
end Af
/-! ### good books, standings -/
namespace Af
open PySem PySem.Spec PyProof.Rows L2
theorem foldl_max_ge : ∀ (ns : List Int) (n : Int), n ≤ ns.foldl max n ∧ ∀ x ∈ ns, x ≤ ns.foldl max n
  | [], n => ⟨Int.le_refl _, fun _ h => by cases h⟩
  | m :: ns, n => by
    obtain ⟨h1, h2⟩ := foldl_max_ge ns (max n m)
    refine ⟨Int.le_trans (Int.le_max_left n m) h1, fun x hx => ?_⟩
    rcases List.mem_cons.mp hx with rfl | hx
    · exact Int.le_trans (Int.le_max_right n x) h1
    · exact h2 x hx
theorem foldl_max_le {b : Int} : ∀ (ns : List Int) (n : Int), n ≤ b → (∀ x ∈ ns, x ≤ b) → ns.foldl max n ≤ b
  | [], n, h, _ => h
  | m :: ns, n, h, g => foldl_max_le ns (max n m) (Int.max_le.mpr ⟨h, g m List.mem_cons_self⟩) fun x hx => g x (List.mem_cons_of_mem _ hx)
/-- a book whose ladders have at most hi rungs -/
structure GoodB (B : List (List Int)) (hi : Int) : Prop where
  first : ∃ n, B[0]? = some [n]
  wide : ∀ (k : Nat) (n : Int) (ns r : List Int), B[k]? = some (n :: ns) → B[k + 1]? = some r → (r.length : Int) = ns.foldl max n
  pos : ∀ r ∈ B, ∀ x ∈ r, 1 ≤ x ∧ x ≤ hi
  full : ∀ r ∈ B, r ≠ []
def StandsTo (B : List (List Int)) (R : List Int) (k : Nat) : Prop := ∀ c, c < k → ∃ n r, lenAt B R c = some n ∧ R[c]? = some r ∧ 1 ≤ r ∧ r ≤ n
structure Stands (B : List (List Int)) (R : List Int) : Prop where
  len : R.length = B.length
  all : StandsTo B R B.length
theorem len_ex {B : List (List Int)} {hi : Int} {R : List Int} {k : Nat} (G : GoodB B hi) (hk : k < B.length) (S : StandsTo B R k) : ∃ n, lenAt B R k = some n ∧ 1 ≤ n ∧ n ≤ hi := by
  cases k with
  | zero =>
    obtain ⟨n, e⟩ := G.first
    refine ⟨n, ?_, G.pos [n] (List.mem_of_getElem? e) n List.mem_cons_self⟩
    show ((B[0]?).bind fun row => row[0]?) = some n
    rw [e]; rfl
  | succ k =>
    obtain ⟨m, r, e1, e2, r1, r2⟩ := S k (Nat.lt_succ_self k)
    have hk0 : k < B.length := by omega
    obtain ⟨row, e3⟩ : ∃ row, B[k]? = some row := ⟨_, List.getElem?_eq_getElem hk0⟩
    obtain ⟨row2, e4⟩ : ∃ row, B[k + 1]? = some row := ⟨_, List.getElem?_eq_getElem hk⟩
    have hm : m ∈ row := by
      cases k with
      | zero =>
        obtain ⟨rw0, g1, g2⟩ := lenAt_zero e1
        rw [e3] at g1; cases g1
        exact List.mem_of_getElem? g2
      | succ k =>
        obtain ⟨rw0, _, g1, _, _, g2⟩ := lenAt_succ e1
        rw [e3] at g1; cases g1
        exact List.mem_of_getElem? g2
    cases row with
    | nil => cases hm
    | cons n ns =>
      have hw := G.wide k n ns row2 e3 e4
      have hle : m ≤ ns.foldl max n := by
        rcases List.mem_cons.mp hm with rfl | hm
        · exact (foldl_max_ge ns m).1
        · exact (foldl_max_ge ns n).2 m hm
      have hlt : (r - 1).toNat < row2.length := by omega
      have e5 : row2[(r - 1).toNat]? = some row2[(r - 1).toNat] := List.getElem?_eq_getElem hlt
      exact ⟨_, lenAt_mk e4 e2 r1 e5, G.pos row2 (List.mem_of_getElem? e4) _ (List.mem_of_getElem? e5)⟩
/-- the lengths of all ladders -/
def lensL (B : List (List Int)) (R : List Int) : List Int := (List.range B.length).map fun c => (lenAt B R c).getD 0
theorem lensL_len (B : List (List Int)) (R : List Int) : (lensL B R).length = B.length := by unfold lensL; rw [List.length_map, List.length_range]
theorem lensL_get {B : List (List Int)} {R : List Int} {c : Nat} (h : c < B.length) : (lensL B R)[c]? = some ((lenAt B R c).getD 0) := by
  unfold lensL
  rw [List.getElem?_map, List.getElem?_range h]; rfl
theorem stand_len {B : List (List Int)} {R : List Int} (S : Stands B R) {c : Nat} (h : c < B.length) : lenAt B R c = some ((lenAt B R c).getD 0) := by
  obtain ⟨n, r, e, _⟩ := S.all c h
  rw [e]; rfl
theorem getD_of {o : Option Int} {n : Int} (h : o = some n) : o.getD 0 = n := by rw [h]; rfl
theorem getElem?_app {R : List Int} {x : Int} {c : Nat} (h : c < R.length) : (R ++ [x])[c]? = R[c]? := List.getElem?_append_left h
theorem stands_snoc {B : List (List Int)} {R : List Int} {n x : Int} (S : StandsTo B R R.length) (e : lenAt B R R.length = some n) (h1 : 1 ≤ x) (h2 : x ≤ n) : StandsTo B (R ++ [x]) (R.length + 1) := by
  intro c hc
  by_cases h : c < R.length
  · obtain ⟨m, r, e1, e2, e3⟩ := S c h
    refine ⟨m, r, ?_, ?_, e3⟩
    · rw [← e1]; exact lenAt_pre fun i hi => getElem?_app (by omega)
    · rw [getElem?_app h]; exact e2
  · have hc' : c = R.length := by omega
    subst hc'
    refine ⟨n, x, ?_, by simp, h1, h2⟩
    rw [← e]; exact lenAt_pre fun i hi => getElem?_app hi
theorem good_one {n hi : Int} (h1 : 1 ≤ n) (h2 : n ≤ hi) : GoodB [[n]] hi :=
  ⟨⟨n, rfl⟩, fun k m ns r e1 e2 => by cases k <;> simp at e2, fun r hr x hx => by
    obtain rfl : r = [n] := by simpa using hr
    obtain rfl : x = n := by simpa using hx
    exact ⟨h1, h2⟩, fun r hr => by
    obtain rfl : r = [n] := by simpa using hr
    exact fun z => nomatch z⟩
theorem good_snoc {B : List (List Int)} {hi n : Int} {ns row : List Int} (G : GoodB (B ++ [n :: ns]) hi) (hl : (row.length : Int) = ns.foldl max n) (hp : ∀ x ∈ row, 1 ≤ x ∧ x ≤ hi) : GoodB (B ++ [n :: ns] ++ [row]) hi := by
  have n1 : 1 ≤ n := (G.pos (n :: ns) (by simp) n List.mem_cons_self).1
  have m1 := (foldl_max_ge ns n).1
  refine ⟨?_, fun k m ms r e1 e2 => ?_, fun r hr x hx => ?_, fun r hr => ?_⟩
  · obtain ⟨z, e⟩ := G.first
    exact ⟨z, by rw [List.getElem?_append_left (by simp)]; exact e⟩
  · by_cases h : k + 1 < (B ++ [n :: ns]).length
    · rw [List.getElem?_append_left (by omega)] at e1
      rw [List.getElem?_append_left h] at e2
      exact G.wide k m ms r e1 e2
    · have hk : k + 1 < (B ++ [n :: ns] ++ [row]).length := (List.getElem?_eq_some_iff.mp e2).1
      simp only [List.length_append, List.length_cons, List.length_nil] at h hk
      have ek : k = B.length := by omega
      subst ek
      have e1' : (B ++ [n :: ns] ++ [row])[B.length]? = some (n :: ns) := by simp
      have e2' : (B ++ [n :: ns] ++ [row])[B.length + 1]? = some row := by simp
      rw [e1'] at e1; rw [e2'] at e2
      cases e1; cases e2
      exact hl
  · rcases List.mem_append.mp hr with h | h
    · exact G.pos r h x hx
    · obtain rfl : r = row := by simpa using h
      exact hp x hx
  · rcases List.mem_append.mp hr with h | h
    · exact G.full r h
    · obtain rfl : r = row := by simpa using h
      intro z; subst z; simp at hl; omega
/-! heaps with a box -/
theorem hid_eq {H H' : Hp} {b a : Addr} (h : hid H' b = hid H b) (ha : a ≠ b) : H' a = H a := by
  have := congrFun h a
  rwa [hid_ne ha, hid_ne ha] at this
theorem hid_eq_same {H H' : Hp} {b : Addr} (h : hid H' b = hid H b) : Same (hid H b) (hid H' b) := by rw [h]; exact Same.refl _
end Af
/-! ### small data: it can be shown -/
namespace Af
open PySem PySem.Spec PyProof.Rows L2
structure Sml (d : PyData) : Prop where
  shw : d.showable = true
  nod : d.hasDict = false
  shrt : d.leavesShort 13 = true
  lay : d.canLay0 = true
theorem sml_int {i : Int} (h : i.natAbs ≤ 1000000) : Sml (.int i) := by
  refine ⟨?_, by simp only [PyData.hasDict], ?_, by simp only [PyData.canLay0]⟩
  · simp only [PyData.showable]
    refine decide_eq_true ?_
    by_cases z : i.natAbs = 0
    · rw [z]; decide
    · have h1 : i.natAbs.log2 < 20 := (Nat.log2_lt z).mpr (by omega)
      omega
  · have h1 := int_text_length_le10 (a := i) (k := 7) (by decide) (by omega)
    simp only [PyData.leavesShort]
    refine decide_eq_true ?_
    show (Str.ofString (toString i)).length ≤ 13
    rw [PySem.ofString_length]; omega
theorem sml_bool (b : Bool) : Sml (.bool b) := ⟨by simp only [PyData.showable], by simp only [PyData.hasDict], by simp only [PyData.leavesShort], by simp only [PyData.canLay0]⟩
theorem sml_none : Sml .none := ⟨by simp only [PyData.showable], by simp only [PyData.hasDict], by simp only [PyData.leavesShort], by simp only [PyData.canLay0]⟩
theorem sml_all : ∀ {ds : List PyData}, (∀ d ∈ ds, Sml d) → PyData.showableAll ds = true ∧ PyData.hasDictAll ds = false ∧ PyData.leavesShortAll 13 ds = true ∧ PyData.canLayAll0 ds = true
  | [], _ => by simp [PyData.showableAll, PyData.hasDictAll, PyData.leavesShortAll, PyData.canLayAll0]
  | d :: ds, h => by
    have h1 := h d List.mem_cons_self
    have h2 := sml_all (ds := ds) fun x hx => h x (List.mem_cons_of_mem _ hx)
    simp [PyData.showableAll, PyData.hasDictAll, PyData.leavesShortAll, PyData.canLayAll0, h1.shw, h1.nod, h1.shrt, h1.lay, h2.1, h2.2.1, h2.2.2.1, h2.2.2.2]
theorem sml_list {ds : List PyData} (h : ∀ d ∈ ds, Sml d) : Sml (.list ds) := by
  have q := sml_all h
  exact ⟨by simp only [PyData.showable]; exact q.1, by simp only [PyData.hasDict]; exact q.2.1, by simp only [PyData.leavesShort]; exact q.2.2.1, by simp only [PyData.canLay0]; exact q.2.2.2⟩
theorem sml_tup {ds : List PyData} (h : ∀ d ∈ ds, Sml d) : Sml (.tuple ds) := by
  have q := sml_all h
  exact ⟨by simp only [PyData.showable]; exact q.1, by simp only [PyData.hasDict]; exact q.2.1, by simp only [PyData.leavesShort]; exact q.2.2.1, by simp only [PyData.canLay0]; exact q.2.2.2⟩
theorem Sml.fits {d : PyData} (S : Sml d) (h : d.bulk ≤ 1000000) : d.shown.length ≤ sizeLine := by
  have h1 := PyData.shown_le_bulk 13 (by decide) d S.shrt
  have h2 := sizeLine_eq
  omega
theorem sml_row {ns : List Int} (h : ∀ x ∈ ns, x.natAbs ≤ 1000000) : Sml (rowT ns) := sml_tup fun d hd => by
  obtain ⟨x, hx, rfl⟩ := List.mem_map.mp hd
  exact sml_int (h x hx)
theorem bulk_ints : ∀ ns : List Int, PyData.bulkAll (ns.map PyData.int) = ns.length
  | [] => by simp [PyData.bulkAll]
  | n :: ns => by simp [PyData.bulkAll, PyData.bulk, bulk_ints ns]; omega
theorem bulk_row (ns : List Int) : (rowT ns).bulk = ns.length := by simp only [rowT, PyData.bulk, bulk_ints]
theorem bulk_rowL (ns : List Int) : (rowL ns).bulk = ns.length := by simp only [rowL, PyData.bulk, bulk_ints]
theorem depth_row (ns : List Int) : (rowT ns).depth = 1 := by simp only [rowT, PyData.depth, depth_ints]
theorem depth_rowL (ns : List Int) : (rowL ns).depth = 1 := by simp only [rowL, PyData.depth, depth_ints]
theorem bulk_rows {m : Nat} : ∀ (B : List (List Int)), (∀ r ∈ B, r.length ≤ m) → PyData.bulkAll (B.map rowT) ≤ B.length * (m + 1)
  | [], _ => by simp [PyData.bulkAll]
  | r :: B, h => by
    have h1 := bulk_rows B fun x hx => h x (List.mem_cons_of_mem _ hx)
    have h2 := h r List.mem_cons_self
    simp only [List.map_cons, PyData.bulkAll, bulk_row, List.length_cons]
    have e : (B.length + 1) * (m + 1) = B.length * (m + 1) + (m + 1) := Nat.succ_mul _ _
    omega
theorem depth_rows : ∀ (B : List (List Int)), PyData.depthAll (B.map rowT) ≤ 1
  | [] => by simp [PyData.depthAll]
  | r :: B => by
    have h1 := depth_rows B
    simp only [List.map_cons, PyData.depthAll, depth_row]
    omega
theorem depth_book (B : List (List Int)) : (bookT B).depth ≤ 2 := by
  have := depth_rows B
  simp only [bookT, PyData.depth]; omega
theorem good_rows {B : List (List Int)} {hi : Nat} (G : GoodB B hi) (h1 : 1 ≤ hi) : ∀ r ∈ B, r.length ≤ hi := by
  intro r hr
  obtain ⟨k, hk, e⟩ := List.getElem_of_mem hr
  have e' : B[k]? = some r := by rw [List.getElem?_eq_getElem hk, e]
  cases k with
  | zero =>
    obtain ⟨n, e2⟩ := G.first
    rw [e'] at e2; cases e2
    exact h1
  | succ k =>
    have hk0 : k < B.length := by omega
    have e3 : B[k]? = some B[k] := List.getElem?_eq_getElem hk0
    have hm : B[k] ∈ B := List.getElem_mem hk0
    cases z : B[k] with
    | nil => exact absurd z (G.full _ hm)
    | cons n ns =>
      rw [z] at e3 hm
      have hw := G.wide k n ns r e3 e'
      have p1 := G.pos _ hm
      have := foldl_max_le ns n (p1 n List.mem_cons_self).2 fun x hx => (p1 x (List.mem_cons_of_mem _ hx)).2
      omega
theorem bulk_book {B : List (List Int)} {hi : Nat} (G : GoodB B hi) (h1 : 1 ≤ hi) (h2 : hi ≤ 100) (h3 : B.length ≤ 100) : (bookT B).bulk ≤ 11000 := by
  have h := bulk_rows B (good_rows G h1)
  simp only [bookT, PyData.bulk]
  have : B.length * (hi + 1) ≤ 100 * 101 := Nat.mul_le_mul h3 (by omega)
  omega
theorem sml_book {B : List (List Int)} {hi : Nat} (G : GoodB B hi) (h2 : hi ≤ 1000) : Sml (bookT B) := sml_tup fun d hd => by
  obtain ⟨r, hr, rfl⟩ := List.mem_map.mp hd
  exact sml_row fun x hx => by have := G.pos r hr x hx; omega
theorem stands_mem {B : List (List Int)} {hi : Int} {R : List Int} (G : GoodB B hi) (S : Stands B R) : ∀ x ∈ R, 1 ≤ x ∧ x ≤ hi := by
  intro x hx
  obtain ⟨c, hc, e⟩ := List.getElem_of_mem hx
  have hc' : c < B.length := by rw [← S.len]; exact hc
  obtain ⟨n, r, e1, e2, r1, r2⟩ := S.all c hc'
  rw [List.getElem?_eq_getElem hc, e] at e2
  cases e2
  obtain ⟨n', e3, _, e4⟩ := len_ex G hc' (fun i hi => S.all i (by omega))
  rw [e1] at e3; cases e3
  exact ⟨r1, by omega⟩
theorem sml_stand {B : List (List Int)} {hi : Int} {R : List Int} (G : GoodB B hi) (h : hi ≤ 1000) (S : Stands B R) : Sml (rowT R) := sml_row fun x hx => by
  have := stands_mem G S x hx; omega
/-- small enough for _law_same, _law_lists -/
structure Sz (d : PyData) : Prop where
  dep : d.depth < 10
  blk : d.bulk ≤ 1000000
/-- small enough for repr -/
structure Fit (d : PyData) : Prop where
  shw : d.showable = true
  nod : d.hasDict = false
  dep : d.depth ≤ 60
  len : d.shown.length ≤ sizeLine
theorem fit_of {d : PyData} (S : Sml d) (z : Sz d) : Fit d := ⟨S.shw, S.nod, by have := z.dep; omega, S.fits z.blk⟩
theorem sz_row {ns : List Int} (h : ns.length ≤ 1000) : Sz (rowT ns) := ⟨by rw [depth_row]; decide, by rw [bulk_row]; omega⟩
theorem sz_rowL {ns : List Int} (h : ns.length ≤ 1000) : Sz (rowL ns) := ⟨by rw [depth_rowL]; decide, by rw [bulk_rowL]; omega⟩
theorem sz_book {B : List (List Int)} {hi : Nat} (G : GoodB B hi) (h1 : 1 ≤ hi) (h2 : hi ≤ 100) (h3 : B.length ≤ 100) : Sz (bookT B) :=
  ⟨by have := depth_book B; omega, by have := bulk_book G h1 h2 h3; omega⟩
end Af
/-! ### enumerate of a tuple -/
namespace Af
open PySem PySem.Spec PyProof.Rows L2
theorem draws_tup {prog : Program} {w : World} {A : Around} (hh : A.handled = none) (it l : Addr) (hne : l ≠ it) (items : Array Value) :
    Draws prog w A it [it, l] items.size (fun i v => items[i]? = some v) (fun i h => h.IsTupleIter it l i ∧ h.IsTuple l items) where
  live := fun _ _ st => let ⟨o, ho, _⟩ := st.1; ⟨o, ho⟩
  frame := fun _ _ _ st hk => by
    obtain ⟨⟨o, ho, r⟩, ⟨o2, ho2, r2⟩⟩ := st
    exact ⟨⟨o, hk it (by simp) o ho, r⟩, ⟨o2, hk l (by simp) o2 ho2, r2⟩⟩
  item := fun i s Q E hi st hQ => RZ.nextOf_tuple_item st.1 st.2 (x := items[i]) (by simp [hi]) fun h' hit' hs' => hQ _ h' s.toks (by simp [hi]) ⟨hit', st.2.extBut hs'.extBut hne⟩ hs'
  done := fun s Q E st hE => RZ.nextOf_tuple_end hh st.1 st.2 (by simp) hE
set_option maxHeartbeats 1000000 in
theorem meets_enum_tup (l : Addr) (items : Array Value) (n : Nat) (dct : Option Addr) (sl : Array (Option Value)) :
    Meets (Builtin.«enumerate.__new__» ⟨[.type "enumerate", .ref l], []⟩) (fun _ R s => s.heap.get? l = some { cls := .type "tuple", dict := dct, data := .seq items n, slots := sl } ∧
      R (.ok (.ret (.ref (s.heap.push { cls := .type "tuple_iterator", data := .fields #[.ref l, .int 0 0] }).objs.size)))
        { s with heap := (s.heap.push { cls := .type "tuple_iterator", data := .fields #[.ref l, .int 0 0] }).push { cls := .type "enumerate", data := .fields #[.none, .bool false, .ref s.heap.objs.size, rawInt 0, .none, .none] } }) :=
  .of_wp fun prog w A R s h => by
    obtain ⟨hp, g, d, tk, os⟩ := s
    obtain ⟨hl, h⟩ := h
    have sbe := sub_enumerate
    have hT : Heap.IsTuple (Shared.heap ⟨hp, g, d, tk, os⟩) l items := ⟨_, hl, rfl, n, rfl⟩
    wp_walk using AutoSeq1.wpAny_loadPart' hl
    refine wpAny_stack_any fun st => wpAny_pure ?_
    split
    · rename_i c _ _ _ _ _
      cases (c == Value.type "enumerate")
      · wp_walk using AutoSeq1.wpAny_loadPart' hl, wpAny_pyIter_tuple hT
        exact ⟨_, rfl, h⟩
      · wp_walk using AutoSeq1.wpAny_loadPart' hl, wpAny_pyIter_tuple hT
        exact ⟨_, rfl, h⟩
    · wp_walk using AutoSeq1.wpAny_loadPart' hl, wpAny_pyIter_tuple hT
      exact ⟨_, rfl, h⟩
theorem call_enum_tup {prog : Program} {w : World} {A : Around} {E : Value → Shared → Prop} {s : Shared} {l : Addr} {items : Array Value} {Q : Value → Shared → Prop} (hL : s.heap.IsTuple l items)
    (h : ∀ h', IsEnum h' (s.heap.objs.size + 1) s.heap.objs.size 0 .none → h'.IsTupleIter s.heap.objs.size l 0 → h'.objs.size = s.heap.objs.size + 2 →
      (∀ b o, s.heap.get? b = some o → h'.get? b = some o) → Q (.ref (s.heap.objs.size + 1)) { s with heap := h' }) :
    wpAny (model prog w) A (call (.type "enumerate") [.ref l]) Q E s := by
  obtain ⟨⟨c, dct, dt, sl⟩, hl, hc, n, hd⟩ := hL
  replace hc : c = .type "tuple" := hc
  replace hd : dt = .seq items n := hd
  subst hc hd
  refine callType_new F.called_enumerate (by decide) (F.typeCall_enumerate_1 _) (F.newCall_enumerate_1 _) (fun obj => F.args_object_init_2 obj _) F.entry_enumerate_new (meets_enum_tup l items n dct sl) ⟨hl, ?_⟩
  have hz : (s.heap.push { cls := .type "tuple_iterator", data := .fields #[.ref l, .int 0 0] }).objs.size = s.heap.objs.size + 1 := Heap.size_push ..
  show _ ∧ _
  rw [hz]
  have he : IsEnum ((s.heap.push { cls := .type "tuple_iterator", data := .fields #[.ref l, .int 0 0] }).push { cls := .type "enumerate", data := .fields #[.none, .bool false, .ref s.heap.objs.size, rawInt 0, .none, .none] }) (s.heap.objs.size + 1) s.heap.objs.size 0 .none := by
    have z := Heap.get?_push_size (s.heap.push { cls := .type "tuple_iterator", data := .fields #[.ref l, .int 0 0] }) (o := { cls := .type "enumerate", data := .fields #[.none, .bool false, .ref s.heap.objs.size, rawInt 0, .none, .none] }) rfl
    rw [hz] at z; exact z
  exact ⟨⟨_, he, rfl⟩, h _ he ⟨_, Heap.get?_push_of_some _ (Heap.get?_push_size _ rfl), rfl, rfl⟩ (by rw [Heap.size_push, hz]) fun b o x => Heap.get?_push_of_some _ (Heap.get?_push_of_some _ x)⟩
/-- the tuple at a, each item in a new pair with its place -/
def ItT (K : PySem.W.Frag) (a : Addr) : It :=
  ⟨fun i H => ∃ (xs : List V) (x : V), SqT K H a xs ∧ xs[i]? = some x, fun i H v H' => ∃ Tq x, v = .ref Tq ∧ H Tq = none ∧ H' = upd H Tq (.tup [.int (i : Nat), x]) ∧ ∀ xs, SqT K H a xs → xs[i]? = some x, fun i H => ∃ xs : List V, SqT K H a xs ∧ xs.length = i⟩
theorem turn_enumT {P : Program} {w : World} {K : PySem.W.Frag} {elts : List Expr} {kk : Nat} {tpos : Pos} (a e it : Addr) (hae : a ≠ e) (hai : a ≠ it) :
    Turn P w K (.Tuple elts kk tpos) (ItT K a) [e, it] e (fun i h => (∃ old, IsEnum h e it ((i : Nat) : Int) old) ∧ h.IsTupleIter it a i ∧ e ≠ it) where
  mem := by simp
  obj := fun i h st b hb => by
    obtain ⟨⟨old, he⟩, ⟨o, ho, hc, hd⟩, _⟩ := st
    rcases (show b = e ∨ b = it by simpa using hb) with z | z
    · rw [z]; exact ⟨_, he, fun v q => nomatch q⟩
    · rw [z]; exact ⟨o, ho, fun v q => by rw [hd] at q; cases q⟩
  keep := fun i h h' st k => by
    obtain ⟨⟨old, he⟩, ⟨o, ho, r⟩, hne⟩ := st
    exact ⟨⟨old, k e (by simp) _ he⟩, ⟨o, k it (by simp) o ho, r⟩, hne⟩
  item := by
    intro X hP hw hK hc i pins s σ H E I hf st hg
    subst hP hw hK
    obtain ⟨⟨old, he⟩, hit, hne⟩ := st
    obtain ⟨xs, x, hq, hx⟩ := hg
    obtain ⟨its, rv, pt, _⟩ := I.tuple hq
    obtain ⟨u, hu, ru⟩ := rv.get hx
    have hel : e < s.heap.objs.size := Heap.lt_size he
    have hil : it < s.heap.objs.size := by obtain ⟨_, q, _⟩ := hit; exact Heap.lt_size q
    have hlt : i < its.toArray.size := by simpa using (List.getElem?_eq_some_iff.mp hu).1
    refine wpAny_pyNext_enum_itemD (draws_tup (A := X.A.in1) (I.ok.hd hc) it a hai its.toArray) he ⟨hit, pt⟩ hlt hne (by simp [hae.symm, hne]) fun x' h' tk hx' ho hst' hT hsz hk => ?_
    have ex : x' = u := by
      have z : its[i]? = some x' := by simpa using hx'
      rw [hu] at z; exact (Option.some.inj z).symm
    subst ex
    refine ⟨_, rfl, wpAny_letOwnedTupleGo_enum (s := { s with heap := h', toks := tk + 1 }) ho fun h2 he' sb => ?_⟩
    have hT2 : h2.get? s.heap.objs.size = some { cls := .type "tuple", data := .seq #[.int i tk, x'] } := (sb.2 _ (Nat.ne_of_gt hel)).trans hT
    have new : ObjOk X.prog X.w (upd H s.heap.objs.size (.tup [.int (i : Nat), x])) h2 s.heap.objs.size (.tup [.int (i : Nat), x]) :=
      ⟨by show 2 ≤ sizeLine; decide, [.int i tk, x'], .cons ⟨_, rfl⟩ (.cons ru .nil), ⟨_, hT2, rfl, _, rfl⟩⟩
    have I1 : Inv X pins σ (upd H s.heap.objs.size (.tup [.int (i : Nat), x])) { s with heap := h2, toks := tk + 1 } :=
      I.turnedNew (ch := [e, it]) (fun b ob hb q => (sb.2 b (fun z => hb (by simp [z]))).trans (hk b ob (fun z => hb (by simp [z])) (fun z => hb (by simp [z])) q)) hf (Nat.le_refl _) new
    refine ⟨.ref s.heap.objs.size, _, I1, rfl, ⟨_, x, rfl, I.hok.fresh (Nat.le_refl _), rfl, fun ys hy => by rw [I.tuple_inj hy hq]; exact hx⟩, ⟨⟨x', ?_⟩, ?_, hne⟩, fun b hb => ?_⟩
    · have e1 : ((i + 1 : Nat) : Int) = (i : Int) + 1 := by omega
      rw [e1]; exact he'
    · obtain ⟨⟨o, ho', r⟩, _⟩ := hst'
      exact ⟨o, (sb.2 it (Ne.symm hne)).trans ho', r⟩
    · have hb' : b < s.heap.objs.size := by
        rcases (show b = e ∨ b = it by simpa using hb) with z | z
        · rw [z]; exact hel
        · rw [z]; exact hil
      rw [upd_ne (Nat.ne_of_lt hb')]
      exact (hf b hb).1
  done := by
    intro X hP hw hK hc i pins s σ H E I hf st hg
    subst hP hw hK
    obtain ⟨⟨old, he⟩, hit, hne⟩ := st
    obtain ⟨xs, hq, hx⟩ := hg
    obtain ⟨its, rv, pt, _⟩ := I.tuple hq
    obtain ⟨f0, f1, f2, f3, f4, f5⟩ := hf it (by simp)
    have hl := rv.length
    have ei : i = its.toArray.size := by simp; omega
    rw [ei] at hit
    exact wpAny_pyNext_enum_endD (draws_tup (A := X.A.in1) (I.ok.hd hc) it a hai its.toArray) he ⟨hit, pt⟩ fun h' eb => ⟨rfl, I.turned (t' := s.toks) (fun b o hb q => eb b o hb q) f0 f1 f3 f4 f5⟩
  self := fun A i s Q E st h => let ⟨⟨_, he⟩, _⟩ := st; wpAny_pyIter_enum he h
def iEnumT (K : PySem.W.Frag) (ta : TA) : TI := fun σ H R => ta σ H fun vs H1 => ∃ a xs, vs = [.ref a] ∧ SqT K H1 a xs ∧ R (ItT K a) H1
theorem pi_enumT {X : Cx} {e : Expr} {ta : TA} {p pos tpos : Pos} {elts : List Expr} {kk : Nat} (hg : Gl X "enumerate") (hm : X.mg "enumerate" = none) (ha : PA X [e] ta) (hs : starEach [e] X.env = [(false, eval e X.env)] := by rfl) :
    PI X (.Tuple elts kk tpos) (.Call (.Name "enumerate" p) [e] [] pos) (iEnumT X.K ta) := by
  refine ⟨fun pins s σ H R I h => Call_ (ld_blt I hg hm boot_enumerate (PyProof.Rows.callWith_type1 (thn (ha.run pos pins s σ H _ I h) fun us s1 ⟨vs, H1, I1, r1, q1⟩ => ?_) hs rfl))⟩
  obtain ⟨a, xs, rfl, hq, q⟩ := q1
  cases r1 with
  | cons r rr =>
    cases rr
    cases r
    obtain ⟨its, rv, pt, _⟩ := I1.tuple hq
    obtain ⟨oa, hoa, _⟩ := id pt
    have hal := Heap.lt_size hoa
    refine call_enum_tup (show s1.heap.IsTuple a its.toArray from pt) fun h' he hit hsz hk => wpAny_pyIter_enum he ?_
    have I2 : Inv X pins σ H1 { s1 with heap := h' } := I1.kept (t' := s1.toks) hk
    refine ⟨s1.heap.objs.size + 1, [s1.heap.objs.size + 1, s1.heap.objs.size], _, _, H1, rfl, I2, turn_enumT a (s1.heap.objs.size + 1) s1.heap.objs.size (Nat.ne_of_lt (Nat.lt_succ_of_lt hal)) (Nat.ne_of_lt hal), ⟨⟨.none, he⟩, hit, Nat.succ_ne_self _⟩, fun b hb => ?_, q⟩
    have hle : s1.heap.objs.size ≤ b := by
      rcases (show b = s1.heap.objs.size + 1 ∨ b = s1.heap.objs.size by simpa using hb) with z | z
      · rw [z]; exact Nat.le_add_right _ _
      · rw [z]; exact Nat.le_refl _
    exact I1.fpOk hle (I1.hok.fresh hle)
theorem walk_enumT {K : PySem.W.Frag} {a : Addr} {xs : List V} : Walk (ItT K a) xs.length (fun H => SqT K H a xs) (YPair (fun i => some (.int (i : Nat))) (fun i => xs[i]?)) := by
  refine ⟨fun i _ hi q => ⟨xs, xs[i], q, by simp [hi]⟩, fun _ q => ⟨xs, q, rfl⟩, fun i H v H' _ q y => ?_⟩
  obtain ⟨Tq, x, h1, h2, h3, h4⟩ := y
  exact ⟨Tq, .int (i : Nat), x, h1, h2, h3, rfl, h4 xs q⟩
end Af
/-! ### states; who is blocked, who goes -/
namespace Af
open PySem PySem.Spec PyProof.Rows L2
def StateD (d : PyData) (R F : List Int) : Prop := ∃ sd fd, SeqD d [sd, fd] ∧ RowD sd R ∧ RowD fd F
def stateT (R F : List Int) : PyData := .tuple [rowT R, rowT F]
def stateL (R F : List Int) : PyData := .list [rowL R, rowL F]
theorem stateT_state (R F : List Int) : StateD (stateT R F) R F := ⟨_, _, .t _, rowT_row R, rowT_row F⟩
theorem stateL_state (R F : List Int) : StateD (stateL R F) R F := ⟨_, _, .l _, rowL_row R, rowL_row F⟩
theorem lsD_state (R F : List Int) : lsD (stateT R F) = stateL R F := by simp only [stateT, stateL, lsD, lsDs, lsD_row]
/-- a, b = a list or a tuple of two -/
def gSeq (K : PySem.W.Frag) (n : Nat) (t : TGs) : TG := fun v σ H Q => ∃ a xs, v = .ref a ∧ Sq K H a xs ∧ xs.length = n ∧ t xs σ H Q
theorem pg_seq {X : Cx} {es : List Expr} {k : Nat} {pos : Pos} {t : TGs} {n : Nat} (hc : X.calm = true) (h : PGs X es t)
    (hn : (assignEach es X.env).length = n := by rfl) (hst : (assignEach es X.env).findIdx? (·.1) = none := by rfl) : PG X (.Tuple es k pos) (gSeq X.K n t) := by
  refine ⟨fun pins s σ H v u Q I r hw => ?_⟩
  obtain ⟨a, xs, e1, hq, hl, hw⟩ := hw
  rcases hq with hq | hq
  · exact (pg_unl hc h hn hst).run pins s σ H v u Q I r ⟨a, xs, e1, hq, hl, hw⟩
  · exact (pg_tup hc h hn hst).run pins s σ H v u Q I r ⟨a, xs, e1, hq, hl, hw⟩
theorem state_at {K : PySem.W.Frag} {H : Hp} {v : V} {d : PyData} {R F : List Int} (h : Dp K H v d) (s : StateD d R F) : ∃ a r f sd fd, v = .ref a ∧ Sq K H a [r, f] ∧ Dp K H r sd ∧ RowD sd R ∧ Dp K H f fd ∧ RowD fd F := by
  obtain ⟨sd, fd, hs, h1, h2⟩ := s
  obtain ⟨a, xs, rfl, hq, ha⟩ := dp_seq h hs
  cases ha with
  | cons p1 ha =>
    cases ha with
    | cons p2 ha =>
      cases ha
      exact ⟨a, _, _, sd, fd, rfl, hq, p1, h1, p2, h2⟩
theorem state_tup {K : PySem.W.Frag} {H : Hp} {v : V} {R F : List Int} (h : Dp K H v (stateT R F)) : ∃ a ra fa, v = .ref a ∧ SqT K H a [.ref ra, .ref fa] ∧ SqT K H ra (R.map V.int) ∧ SqT K H fa (F.map V.int) := by
  cases h with
  | tup h1 h2 =>
    cases h2 with
    | cons p1 h2 =>
      cases h2 with
      | cons p2 h2 =>
        cases h2
        cases p1 with
        | tup g1 g2 =>
          cases p2 with
          | tup k1 k2 =>
            rw [dps_ints_inv g2] at g1
            rw [dps_ints_inv k2] at k1
            exact ⟨_, _, _, rfl, h1, g1, k1⟩
def endR (l f : Int) : Int := if f = 1 then l else 1
def isBl (B : List (List Int)) (R F : List Int) (c : Nat) : Bool := decide (R[c]?.getD 0 = endR ((lenAt B R c).getD 0) (F[c]?.getD 0))
def castL (cs : List Nat) : List Int := cs.map fun c : Nat => (c : Int)
def blockedN (B : List (List Int)) (R F : List Int) (n : Nat) : List Nat := (List.range n).filter (isBl B R F)
def freeN (B : List (List Int)) (R F : List Int) (n : Nat) : List Nat := (List.range n).filter fun c => !isBl B R F c
def moverO (B : List (List Int)) (R F : List Int) : Option Nat := (freeN B R F B.length).getLast?
def movV : Option Nat → V
  | none => .non
  | some c => .int c
def movD : Option Nat → PyData
  | none => .none
  | some c => .int c
theorem mov_dp {K : PySem.W.Frag} {H : Hp} (o : Option Nat) : Dp K H (movV o) (movD o) := by
  cases o with
  | none => exact .non
  | some c => exact .int c
theorem blockedN_succ (B : List (List Int)) (R F : List Int) (n : Nat) : blockedN B R F (n + 1) = blockedN B R F n ++ (if isBl B R F n = true then [n] else []) := by
  unfold blockedN
  rw [List.range_succ, List.filter_append, List.filter_cons, List.filter_nil]
theorem freeN_succ (B : List (List Int)) (R F : List Int) (n : Nat) : freeN B R F (n + 1) = freeN B R F n ++ (if isBl B R F n = true then [] else [n]) := by
  unfold freeN
  rw [List.range_succ, List.filter_append, List.filter_cons, List.filter_nil]
  cases isBl B R F n <;> rfl
theorem blockedN_len (B : List (List Int)) (R F : List Int) (n : Nat) : (blockedN B R F n).length ≤ n := by
  have := List.length_filter_le (isBl B R F) (List.range n)
  rw [List.length_range] at this; exact this
theorem freeN_len (B : List (List Int)) (R F : List Int) (n : Nat) : (freeN B R F n).length ≤ n := by
  have := List.length_filter_le (fun c => !isBl B R F c) (List.range n)
  rw [List.length_range] at this; exact this
theorem mem_blockedN {B : List (List Int)} {R F : List Int} {n c : Nat} : c ∈ blockedN B R F n ↔ c < n ∧ isBl B R F c = true := by
  unfold blockedN; rw [List.mem_filter, List.mem_range]
theorem mem_freeN {B : List (List Int)} {R F : List Int} {n c : Nat} : c ∈ freeN B R F n ↔ c < n ∧ isBl B R F c = false := by
  unfold freeN; rw [List.mem_filter, List.mem_range]; simp
theorem castL_len (cs : List Nat) : (castL cs).length = cs.length := by unfold castL; rw [List.length_map]
theorem castL_app (cs ds : List Nat) : castL (cs ++ ds) = castL cs ++ castL ds := by unfold castL; rw [List.map_append]
theorem inV_cast (cs : List Nat) (c : Nat) : inV (.int c) ((castL cs).map V.int) = decide (c ∈ cs) := by
  unfold inV castL
  rw [List.map_map, Bool.eq_iff_iff, List.any_eq_true, decide_eq_true_iff]
  constructor
  · rintro ⟨x, hx, e⟩
    obtain ⟨d, hd, rfl⟩ := List.mem_map.mp hx
    have e' : ((d : Int) == (c : Int)) = true := e
    have : d = c := by have := beq_iff_eq.mp e'; omega
    exact this ▸ hd
  · intro h
    exact ⟨.int c, List.mem_map.mpr ⟨c, h, rfl⟩, by show ((c : Int) == (c : Int)) = true; exact beq_self_eq_true _⟩
theorem flat_cast (cs : List Nat) : ((castL cs).map V.int).all flatV = true := by
  rw [List.all_eq_true]
  intro x hx
  obtain ⟨i, _, rfl⟩ := List.mem_map.mp hx
  rfl
theorem in_blocked {B : List (List Int)} {R F : List Int} {n c : Nat} (h : c < n) : decide (c ∈ blockedN B R F n) = isBl B R F c := by
  rw [Bool.eq_iff_iff, decide_eq_true_iff, mem_blockedN]
  exact ⟨fun z => z.2, fun z => ⟨h, z⟩⟩
/-- faces -/
def FacesOk (F : List Int) : Prop := ∀ f ∈ F, f = 1 ∨ f = -1
/-- one beat -/
def goB (B : List (List Int)) (F : List Int) : Nat → List Int → List Int
  | 0, R => R
  | n + 1, R => goB B F n (R ++ [endR ((lenAt B R R.length).getD 0) (F[R.length]?.getD 0)])
def beatO (B : List (List Int)) (R F : List Int) : Option Nat → List Int × List Int
  | none => (R, F.map fun f => -f)
  | some g => (goB B F (B.length - (g + 1)) (R.take g ++ [R[g]?.getD 0 + F[g]?.getD 0]), F.take (g + 1) ++ (F.drop (g + 1)).map fun f => -f)
def beatM (B : List (List Int)) (S : List Int × List Int) : List Int × List Int := beatO B S.1 S.2 (moverO B S.1 S.2)
theorem sz_state {R F : List Int} (h1 : R.length ≤ 1000) (h2 : F.length ≤ 1000) : Sz (stateT R F) :=
  ⟨by simp only [PyData.depth, PyData.depthAll, stateT, depth_row]; omega, by simp only [PyData.bulk, PyData.bulkAll, stateT, bulk_row]; omega⟩
theorem sml_faces {F : List Int} (h : FacesOk F) : Sml (rowT F) := sml_row fun x hx => by
  rcases h x hx with rfl | rfl <;> decide
theorem sml_state {B : List (List Int)} {hi : Int} {R F : List Int} (G : GoodB B hi) (h : hi ≤ 1000) (S : Stands B R) (hF : FacesOk F) : Sml (stateT R F) := sml_tup fun d hd => by
  rcases List.mem_cons.mp hd with rfl | hd
  · exact sml_stand G h S
  · obtain rfl : d = rowT F := by simpa using hd
    exact sml_faces hF
theorem fit_pair {B : List (List Int)} {hi : Nat} {R F : List Int} (G : GoodB B hi) (h1 : 1 ≤ hi) (h2 : hi ≤ 100) (h3 : B.length ≤ 100) (S : Stands B R) (hF : FacesOk F) (hl : F.length = B.length) : Fit (.list [bookT B, stateT R F]) := by
  have e := S.len
  refine fit_of (sml_list fun d hd => ?_) ⟨?_, ?_⟩
  · rcases List.mem_cons.mp hd with rfl | hd
    · exact sml_book G (by omega)
    · obtain rfl : d = stateT R F := by simpa using hd
      exact sml_state G (by omega) S hF
  · have := depth_book B
    simp only [PyData.depth, PyData.depthAll, stateT, depth_row]; omega
  · have := bulk_book G h1 h2 h3
    simp only [PyData.bulk, PyData.bulkAll, stateT, bulk_row]; omega
theorem sz_list2 {x y : PyData} (h1 : x.depth ≤ 8) (h2 : y.depth ≤ 8) (h3 : x.bulk ≤ 100000) (h4 : y.bulk ≤ 100000) : Sz (.list [x, y]) :=
  ⟨by simp only [PyData.depth, PyData.depthAll]; omega, by simp only [PyData.bulk, PyData.bulkAll]; omega⟩
theorem sz_list3 {x y z : PyData} (h1 : x.depth ≤ 8) (h2 : y.depth ≤ 8) (g : z.depth ≤ 8) (h3 : x.bulk ≤ 100000) (h4 : y.bulk ≤ 100000) (g2 : z.bulk ≤ 100000) : Sz (.list [x, y, z]) :=
  ⟨by simp only [PyData.depth, PyData.depthAll]; omega, by simp only [PyData.bulk, PyData.bulkAll]; omega⟩
theorem mov_sz (o : Option Nat) : (movD o).depth ≤ 8 ∧ (movD o).bulk ≤ 100000 := by cases o <;> simp [movD, PyData.depth, PyData.bulk]
end Af
/-! ### beats: the mathematics -/
namespace Af
open PySem PySem.Spec PyProof.Rows L2
theorem goB_len (B : List (List Int)) (F : List Int) : ∀ (n : Nat) (R : List Int), (goB B F n R).length = R.length + n
  | 0, R => rfl
  | n + 1, R => by
    show (goB B F n _).length = _
    rw [goB_len B F n, List.length_append, List.length_singleton]; omega
theorem goB_snoc (B : List (List Int)) (F : List Int) : ∀ (n : Nat) (R : List Int), goB B F (n + 1) R = goB B F n R ++ [endR ((lenAt B (goB B F n R) (goB B F n R).length).getD 0) (F[(goB B F n R).length]?.getD 0)]
  | 0, R => rfl
  | n + 1, R => goB_snoc B F n (R ++ [endR ((lenAt B R R.length).getD 0) (F[R.length]?.getD 0)])
theorem goB_pre (B : List (List Int)) (F : List Int) : ∀ (n : Nat) (R : List Int) (i : Nat), i < R.length → (goB B F n R)[i]? = R[i]?
  | 0, R, i, _ => rfl
  | n + 1, R, i, h => by
    show (goB B F n _)[i]? = _
    rw [goB_pre B F n _ i (by rw [List.length_append]; omega), List.getElem?_append_left h]
theorem goB_get (B : List (List Int)) (F : List Int) : ∀ (n : Nat) (R : List Int) (i : Nat), R.length ≤ i → i < R.length + n → (goB B F n R)[i]? = some (endR ((lenAt B (goB B F n R) i).getD 0) (F[i]?.getD 0))
  | 0, R, i, h1, h2 => by omega
  | n + 1, R, i, h1, h2 => by
    rw [goB_snoc]
    have hl := goB_len B F n R
    by_cases h : i < R.length + n
    · rw [List.getElem?_append_left (by omega), goB_get B F n R i h1 h]
      rw [lenAt_pre (R := goB B F n R ++ _) (S := goB B F n R) fun j hj => List.getElem?_append_left (by omega)]
    · have e : i = (goB B F n R).length := by omega
      rw [lenAt_pre (R := goB B F n R ++ _) (S := goB B F n R) fun j hj => List.getElem?_append_left (by omega)]
      rw [e, List.getElem?_append_right (Nat.le_refl _), Nat.sub_self]; rfl
theorem endR_mem {n f : Int} (h : 1 ≤ n) : 1 ≤ endR n f ∧ endR n f ≤ n := by unfold endR; split <;> omega
theorem goB_stands {B : List (List Int)} {hi : Int} {F : List Int} (G : GoodB B hi) : ∀ (n : Nat) (R : List Int), R.length + n ≤ B.length → StandsTo B R R.length → StandsTo B (goB B F n R) (R.length + n)
  | 0, R, _, h => h
  | n + 1, R, hl, h => by
    obtain ⟨m, e, m1, m2⟩ := len_ex G (by omega) h
    have q := stands_snoc (x := endR m (F[R.length]?.getD 0)) h e (endR_mem m1).1 (endR_mem m1).2
    have e2 : goB B F (n + 1) R = goB B F n (R ++ [endR m (F[R.length]?.getD 0)]) := by
      show goB B F n (R ++ [endR ((lenAt B R R.length).getD 0) (F[R.length]?.getD 0)]) = _
      rw [e]; rfl
    have z := goB_stands (F := F) G n (R ++ [endR m (F[R.length]?.getD 0)]) (by rw [List.length_append, List.length_singleton]; omega) (by rw [List.length_append, List.length_singleton]; exact q)
    rw [e2]
    rw [List.length_append, List.length_singleton] at z
    rw [show R.length + (n + 1) = R.length + 1 + n by omega]; exact z
/-! who goes -/
def movN (B : List (List Int)) (R F : List Int) (n : Nat) : Option Nat := (freeN B R F n).getLast?
theorem movN_succ (B : List (List Int)) (R F : List Int) (n : Nat) : movN B R F (n + 1) = if isBl B R F n = true then movN B R F n else some n := by
  unfold movN
  rw [freeN_succ]
  split
  · rw [List.append_nil]
  · rw [List.getLast?_append]; rfl
theorem movN_none {B : List (List Int)} {R F : List Int} : ∀ {n : Nat}, movN B R F n = none → ∀ c, c < n → isBl B R F c = true
  | 0, _, c, h => absurd h (Nat.not_lt_zero c)
  | n + 1, e, c, h => by
    rw [movN_succ] at e
    by_cases hb : isBl B R F n = true
    · rw [if_pos hb] at e
      by_cases hc : c = n
      · rw [hc]; exact hb
      · exact movN_none e c (by omega)
    · rw [if_neg hb] at e; cases e
theorem movN_some {B : List (List Int)} {R F : List Int} : ∀ {n g : Nat}, movN B R F n = some g → g < n ∧ isBl B R F g = false ∧ ∀ c, g < c → c < n → isBl B R F c = true
  | 0, g, e => by cases e
  | n + 1, g, e => by
    rw [movN_succ] at e
    by_cases hb : isBl B R F n = true
    · rw [if_pos hb] at e
      obtain ⟨h1, h2, h3⟩ := movN_some e
      refine ⟨by omega, h2, fun c c1 c2 => ?_⟩
      by_cases hc : c = n
      · rw [hc]; exact hb
      · exact h3 c c1 (by omega)
    · rw [if_neg hb] at e
      cases e
      exact ⟨by omega, by simpa using hb, fun c c1 c2 => by omega⟩
theorem movN_all {B : List (List Int)} {R F : List Int} : ∀ {n : Nat}, (∀ c, c < n → isBl B R F c = true) → movN B R F n = none
  | 0, _ => rfl
  | n + 1, h => by
    rw [movN_succ, if_pos (h n (by omega))]
    exact movN_all fun c hc => h c (by omega)
theorem movN_is {B : List (List Int)} {R F : List Int} {g : Nat} : ∀ {n : Nat}, g < n → isBl B R F g = false → (∀ c, g < c → c < n → isBl B R F c = true) → movN B R F n = some g
  | 0, h, _, _ => absurd h (Nat.not_lt_zero g)
  | n + 1, h1, h2, h3 => by
    rw [movN_succ]
    by_cases hg : g = n
    · subst hg; rw [if_neg (by rw [h2]; exact Bool.false_ne_true)]
    · rw [if_pos (h3 n (by omega) (by omega))]
      exact movN_is (by omega) h2 fun c c1 c2 => h3 c c1 (by omega)
theorem isBl_iff {B : List (List Int)} {R F : List Int} {c : Nat} {n r f : Int} (e1 : lenAt B R c = some n) (e2 : R[c]? = some r) (e3 : F[c]? = some f) : (isBl B R F c = true) ↔ r = endR n f := by
  unfold isBl
  rw [e1, e2, e3, decide_eq_true_iff]; rfl
/-! one beat -/
def negL (F : List Int) : List Int := F.map fun f => -f
theorem negL_len (F : List Int) : (negL F).length = F.length := by unfold negL; rw [List.length_map]
theorem negL_ok {F : List Int} (h : FacesOk F) : FacesOk (negL F) := fun x hx => by
  obtain ⟨f, hf, rfl⟩ := List.mem_map.mp hx
  rcases h f hf with rfl | rfl
  · exact .inr rfl
  · exact .inl rfl
theorem negL_neg (F : List Int) : negL (negL F) = F := by
  unfold negL
  rw [List.map_map]
  have : ((fun f : Int => -f) ∘ fun f : Int => -f) = id := by funext x; simp
  rw [this, List.map_id]
theorem negL_get (F : List Int) (c : Nat) : (negL F)[c]? = (F[c]?).map fun f => -f := by unfold negL; rw [List.getElem?_map]
/-- a good state -/
structure Ok (B : List (List Int)) (S : List Int × List Int) : Prop where
  st : Stands B S.1
  fl : S.2.length = B.length
  fo : FacesOk S.2
def negS (S : List Int × List Int) : List Int × List Int := (S.1, negL S.2)
theorem negS_neg (S : List Int × List Int) : negS (negS S) = S := by unfold negS; rw [negL_neg]
theorem Ok.neg {B : List (List Int)} {S : List Int × List Int} (h : Ok B S) : Ok B (negS S) := ⟨h.st, by show (negL S.2).length = _; rw [negL_len]; exact h.fl, negL_ok h.fo⟩
theorem mover_new {B : List (List Int)} {hi : Int} {R F : List Int} {g : Nat} (G : GoodB B hi) (h : Ok B (R, F)) (hg : moverO B R F = some g) :
    ∃ n r f, g < B.length ∧ lenAt B R g = some n ∧ R[g]? = some r ∧ F[g]? = some f ∧ 1 ≤ r ∧ r ≤ n ∧ r ≠ endR n f ∧ (f = 1 ∨ f = -1) ∧ 1 ≤ r + f ∧ r + f ≤ n := by
  obtain ⟨h1, h2, h3⟩ := movN_some (n := B.length) hg
  obtain ⟨n, r, e1, e2, r1, r2⟩ := h.st.all g h1
  have hgF : g < F.length := by have := h.fl; simp only at this; omega
  have e3 : F[g]? = some F[g] := List.getElem?_eq_getElem hgF
  have hf := h.fo F[g] (List.getElem_mem hgF)
  have hne : r ≠ endR n F[g] := fun e => by
    have z := (isBl_iff (F := F) e1 e2 e3).mpr e
    rw [h2] at z; cases z
  refine ⟨n, r, F[g], h1, e1, e2, e3, r1, r2, hne, hf, ?_, ?_⟩ <;> unfold endR at hne <;> rcases hf with hf | hf <;> rw [hf] at hne ⊢ <;> simp at hne <;> omega
theorem take_stands {B : List (List Int)} {R : List Int} {g : Nat} {n v : Int} (S : Stands B R) (hg : g < B.length) (e : lenAt B R g = some n) (h1 : 1 ≤ v) (h2 : v ≤ n) : StandsTo B (R.take g ++ [v]) (g + 1) ∧ (R.take g ++ [v]).length = g + 1 := by
  have hl : (R.take g).length = g := by rw [List.length_take, S.len]; omega
  have hpre : ∀ i, i < g → (R.take g)[i]? = R[i]? := fun i hi => by rw [List.getElem?_take_of_lt hi]
  have hs : StandsTo B (R.take g) (R.take g).length := fun c hc => by
    rw [hl] at hc
    obtain ⟨m, r, e1, e2, e3⟩ := S.all c (by omega)
    exact ⟨m, r, by rw [lenAt_pre fun i hi => hpre i (by omega)]; exact e1, by rw [hpre c hc]; exact e2, e3⟩
  have z := stands_snoc (x := v) hs (by rw [hl, lenAt_pre hpre]; exact e) h1 h2
  rw [hl] at z
  exact ⟨z, by rw [List.length_append, hl]; rfl⟩
theorem beat_ok {B : List (List Int)} {hi : Int} {S : List Int × List Int} (G : GoodB B hi) (h : Ok B S) : Ok B (beatM B S) := by
  obtain ⟨R, F⟩ := S
  unfold beatM
  cases hm : moverO B R F with
  | none => exact ⟨h.st, by show (F.map _).length = _; rw [List.length_map]; exact h.fl, negL_ok h.fo⟩
  | some g =>
    obtain ⟨n, r, f, hg, e1, e2, e3, r1, r2, hne, hf, v1, v2⟩ := mover_new G h hm
    obtain ⟨s1, s2⟩ := take_stands (v := r + f) h.st hg e1 v1 v2
    have hfl : F.length = B.length := h.fl
    have z := goB_stands (F := F) G (B.length - (g + 1)) (R.take g ++ [r + f]) (by rw [s2]; omega) (by rw [s2]; exact s1)
    have zl := goB_len B F (B.length - (g + 1)) (R.take g ++ [r + f])
    rw [s2] at z zl
    have eb : (beatO B R F (some g)).1 = goB B F (B.length - (g + 1)) (R.take g ++ [r + f]) := by
      show goB B F _ (R.take g ++ [R[g]?.getD 0 + F[g]?.getD 0]) = _
      rw [e2, e3]; rfl
    refine ⟨⟨?_, ?_⟩, ?_, fun x hx => ?_⟩
    · show (beatO B R F (some g)).1.length = _
      rw [eb, zl]; omega
    · show StandsTo B (beatO B R F (some g)).1 _
      rw [eb]
      rw [show g + 1 + (B.length - (g + 1)) = B.length by omega] at z; exact z
    · show (F.take (g + 1) ++ (F.drop (g + 1)).map fun f => -f).length = _
      rw [List.length_append, List.length_map, List.length_take, List.length_drop]; omega
    · rcases List.mem_append.mp (show x ∈ F.take (g + 1) ++ (F.drop (g + 1)).map fun f => -f from hx) with hx | hx
      · exact h.fo x (List.mem_of_mem_take hx)
      · exact negL_ok (F := F.drop (g + 1)) (fun y hy => h.fo y (List.mem_of_mem_drop hy)) x hx
theorem goB_back {B : List (List Int)} {R F : List Int} : ∀ (n k : Nat), k + n ≤ R.length → (∀ c, k ≤ c → c < k + n → R[c]? = some (endR ((lenAt B R c).getD 0) (F[c]?.getD 0))) → goB B F n (R.take k) = R.take (k + n)
  | 0, k, _, _ => rfl
  | n + 1, k, hl, h => by
    have hk : (R.take k).length = k := by rw [List.length_take]; omega
    have e : endR ((lenAt B (R.take k) (R.take k).length).getD 0) (F[(R.take k).length]?.getD 0) = endR ((lenAt B R k).getD 0) (F[k]?.getD 0) := by
      rw [hk, lenAt_pre fun i hi => List.getElem?_take_of_lt hi]
    show goB B F n (R.take k ++ [_]) = _
    rw [e]
    have e2 := h k (Nat.le_refl _) (by omega)
    have e3 : R.take k ++ [endR ((lenAt B R k).getD 0) (F[k]?.getD 0)] = R.take (k + 1) := by
      rw [List.take_add_one, e2]; rfl
    rw [e3, goB_back n (k + 1) (by omega) fun c c1 c2 => h c (by omega) (by omega)]
    rw [show k + 1 + n = k + (n + 1) by omega]
theorem beat_rev {B : List (List Int)} {hi : Int} {S : List Int × List Int} (G : GoodB B hi) (h : Ok B S) : beatM B (negS (beatM B S)) = negS S := by
  obtain ⟨R, F⟩ := S
  have hfl : F.length = B.length := h.fl
  have hRl : R.length = B.length := h.st.len
  cases hm : moverO B R F with
  | none =>
    have e : beatM B (R, F) = (R, negL F) := by unfold beatM; rw [show moverO B (R, F).1 (R, F).2 = none from hm]; rfl
    rw [e, show negS (R, negL F) = (R, F) from by unfold negS; rw [negL_neg], e]; rfl
  | some g =>
    obtain ⟨n, r, f, hg, e1, e2, e3, r1, r2, hne, hf, v1, v2⟩ := mover_new G h hm
    obtain ⟨_, _, hbl⟩ := movN_some (n := B.length) hm
    obtain ⟨s1, s2⟩ := take_stands (v := r + f) h.st hg e1 v1 v2
    let R' := goB B F (B.length - (g + 1)) (R.take g ++ [r + f])
    let F' := F.take (g + 1) ++ (F.drop (g + 1)).map fun f => -f
    have eT : beatM B (R, F) = (R', F') := by
      unfold beatM
      rw [show moverO B (R, F).1 (R, F).2 = some g from hm]
      show (goB B F _ (R.take g ++ [R[g]?.getD 0 + F[g]?.getD 0]), _) = _
      rw [e2, e3]; rfl
    have hR'l : R'.length = B.length := by
      have := goB_len B F (B.length - (g + 1)) (R.take g ++ [r + f])
      rw [s2] at this
      show (goB _ _ _ _).length = _
      omega
    have preR : ∀ i, i < g → R'[i]? = R[i]? := fun i hi => by
      show (goB _ _ _ _)[i]? = _
      rw [goB_pre B F _ _ i (by rw [s2]; omega), List.getElem?_append_left (by rw [List.length_take]; omega), List.getElem?_take_of_lt hi]
    have atR : R'[g]? = some (r + f) := by
      show (goB _ _ _ _)[g]? = _
      rw [goB_pre B F _ _ g (by rw [s2]; omega), List.getElem?_append_right (by rw [List.length_take]; omega), List.length_take]
      rw [show g - min g R.length = 0 by omega]; rfl
    have lenG : lenAt B R' g = some n := by rw [lenAt_pre preR]; exact e1
    have postR : ∀ c, g < c → c < B.length → R'[c]? = some (endR ((lenAt B R' c).getD 0) (F[c]?.getD 0)) := fun c c1 c2 =>
      goB_get B F _ _ c (by rw [s2]; omega) (by rw [s2]; omega)
    have NFpre : ∀ c, c ≤ g → (negL F')[c]? = (F[c]?).map fun f => -f := fun c hc => by
      rw [negL_get]
      show ((F.take (g + 1) ++ _)[c]?).map _ = _
      rw [List.getElem?_append_left (by rw [List.length_take]; omega), List.getElem?_take_of_lt (by omega)]
    have NFpost : ∀ c, g < c → (negL F')[c]? = F[c]? := fun c hc => by
      rw [negL_get]
      show ((F.take (g + 1) ++ (F.drop (g + 1)).map fun f => -f)[c]?).map _ = _
      by_cases hcl : c < F.length
      · rw [List.getElem?_append_right (by rw [List.length_take]; omega), List.length_take, List.getElem?_map, List.getElem?_drop]
        rw [show g + 1 + (c - min (g + 1) F.length) = c by omega, List.getElem?_eq_getElem hcl]
        simp
      · rw [List.getElem?_eq_none (by rw [List.length_append, List.length_map, List.length_take, List.length_drop]; omega), List.getElem?_eq_none (by omega)]; rfl
    have hm2 : moverO B R' (negL F') = some g := by
      refine movN_is (n := B.length) hg ?_ fun c c1 c2 => ?_
      · have z := isBl_iff (F := negL F') lenG atR (by rw [NFpre g (Nat.le_refl _), e3]; rfl)
        cases hb : isBl B R' (negL F') g with
        | false => rfl
        | true =>
          have z2 := z.mp hb
          unfold endR at z2 hne
          rcases hf with hf | hf <;> rw [hf] at z2 hne <;> simp at z2 hne <;> omega
      · unfold isBl
        rw [postR c c1 c2, NFpost c c1]
        exact decide_eq_true rfl
    have back : goB B (negL F') (B.length - (g + 1)) (R.take (g + 1)) = R := by
      rw [goB_back (B.length - (g + 1)) (g + 1) (by omega) fun c c1 c2 => ?_]
      · rw [show g + 1 + (B.length - (g + 1)) = R.length by omega, List.take_length]
      · have hb := hbl c (by omega) (by omega)
        obtain ⟨n2, r3, g1, g2, _, _⟩ := h.st.all c (by omega)
        have g3 : F[c]? = some F[c] := List.getElem?_eq_getElem (by omega)
        have z := (isBl_iff (F := F) g1 g2 g3).mp hb
        have g1' : lenAt B R c = some n2 := g1
        have g2' : R[c]? = some r3 := g2
        rw [NFpost c (by omega), g1', g2', g3, z]; rfl
    rw [eT]
    unfold beatM
    show beatO B R' (negL F') (moverO B R' (negL F')) = _
    rw [hm2]
    show (goB B (negL F') (B.length - (g + 1)) (R'.take g ++ [R'[g]?.getD 0 + (negL F')[g]?.getD 0]), (negL F').take (g + 1) ++ ((negL F').drop (g + 1)).map fun f => -f) = (R, negL F)
    have t1 : R'.take g ++ [R'[g]?.getD 0 + (negL F')[g]?.getD 0] = R.take (g + 1) := by
      rw [atR, NFpre g (Nat.le_refl _), e3, List.take_add_one, e2]
      have t0 : R'.take g = R.take g := by
        apply List.ext_getElem?
        intro i
        by_cases hi : i < g
        · rw [List.getElem?_take_of_lt hi, List.getElem?_take_of_lt hi, preR i hi]
        · rw [List.getElem?_eq_none (by rw [List.length_take]; omega), List.getElem?_eq_none (by rw [List.length_take]; omega)]
      rw [t0]
      show R.take g ++ [(r + f) + (-f)] = R.take g ++ [r]
      rw [show r + f + -f = r by omega]
    rw [t1, back]
    congr 1
    apply List.ext_getElem?
    intro i
    have hNl : (negL F').length = B.length := by
      rw [negL_len]
      show (F.take (g + 1) ++ (F.drop (g + 1)).map fun f => -f).length = _
      rw [List.length_append, List.length_map, List.length_take, List.length_drop]; omega
    by_cases hi : i ≤ g
    · rw [List.getElem?_append_left (by rw [List.length_take]; omega), List.getElem?_take_of_lt (by omega), NFpre i hi, negL_get]
    · rw [List.getElem?_append_right (by rw [List.length_take]; omega), List.length_take, List.getElem?_map, List.getElem?_drop]
      rw [show g + 1 + (i - min (g + 1) (negL F').length) = i by omega, NFpost i (by omega), negL_get F i]
/-! beats along -/
def alongL (B : List (List Int)) : Nat → List Int × List Int → List (List Int × List Int)
  | 0, S => [S]
  | n + 1, S => alongL B n S ++ [beatM B ((alongL B n S).getLast?.getD S)]
def itB (B : List (List Int)) : Nat → List Int × List Int → List Int × List Int
  | 0, S => S
  | n + 1, S => beatM B (itB B n S)
theorem alongL_len (B : List (List Int)) : ∀ (n : Nat) (S : List Int × List Int), (alongL B n S).length = n + 1
  | 0, _ => rfl
  | n + 1, S => by
    show (alongL B n S ++ [_]).length = _
    rw [List.length_append, alongL_len B n S]; rfl
theorem alongL_last (B : List (List Int)) : ∀ (n : Nat) (S : List Int × List Int), (alongL B n S).getLast? = some (itB B n S)
  | 0, _ => rfl
  | n + 1, S => by
    show (alongL B n S ++ [_]).getLast? = _
    rw [List.getLast?_append, alongL_last B n S]; rfl
theorem alongL_succ (B : List (List Int)) (n : Nat) (S : List Int × List Int) : alongL B (n + 1) S = alongL B n S ++ [beatM B (itB B n S)] := by
  show alongL B n S ++ [beatM B ((alongL B n S).getLast?.getD S)] = _
  rw [alongL_last]; rfl
theorem itB_ok {B : List (List Int)} {hi : Int} (G : GoodB B hi) : ∀ (n : Nat) {S : List Int × List Int}, Ok B S → Ok B (itB B n S)
  | 0, _, h => h
  | n + 1, _, h => beat_ok G (itB_ok G n h)
def stD (S : List Int × List Int) : PyData := stateT S.1 S.2
end Af
namespace Af
open PySem PySem.Spec PyProof.Rows L2
theorem st_sz {B : List (List Int)} {S : List Int × List Int} (h : Ok B S) (hl : B.length ≤ 1000) : (stD S).depth ≤ 8 ∧ (stD S).bulk ≤ 100000 := by
  have h1 := h.st.len
  have h2 := h.fl
  refine ⟨?_, ?_⟩
  · simp only [stD, stateT, PyData.depth, PyData.depthAll, depth_row]; omega
  · simp only [stD, stateT, PyData.bulk, PyData.bulkAll, bulk_row]; omega
theorem st_zz {B : List (List Int)} {S : List Int × List Int} (h : Ok B S) (hl : B.length ≤ 1000) : Sz (stD S) := by
  have := st_sz h hl
  exact ⟨by omega, by omega⟩
theorem st_three {B : List (List Int)} {S1 S2 S3 : List Int × List Int} (h1 : Ok B S1) (h2 : Ok B S2) (h3 : Ok B S3) (hl : B.length ≤ 1000) : Sz (.list [stD S1, stD S2, stD S3]) :=
  sz_list3 (st_sz h1 hl).1 (st_sz h2 hl).1 (st_sz h3 hl).1 (st_sz h1 hl).2 (st_sz h2 hl).2 (st_sz h3 hl).2
theorem st_two {B : List (List Int)} {S1 S2 : List Int × List Int} (h1 : Ok B S1) (h2 : Ok B S2) (hl : B.length ≤ 1000) : Sz (.list [stD S1, stD S2]) :=
  sz_list2 (st_sz h1 hl).1 (st_sz h2 hl).1 (st_sz h1 hl).2 (st_sz h2 hl).2
theorem eqv_ints : ∀ ns : List Int, PyData.eqvAll (ns.map PyData.int) (ns.map PyData.int) = true
  | [] => by simp [PyData.eqvAll]
  | n :: ns => by simp [PyData.eqvAll, PyData.eqv, eqv_ints ns]
theorem eqv_state (R F : List Int) : PyData.eqv (stateT R F) (stateT R F) = true := by
  simp [stateT, rowT, PyData.eqv, PyData.eqvAll, eqv_ints]
theorem shaped_state (R F : List Int) : SeqAt.shaped (stateT R F) = true := by
  have h1 : (stateT R F).canLay0 = true := by
    have a : ∀ ns : List Int, PyData.canLayAll0 (ns.map PyData.int) = true := fun ns => by
      induction ns with
      | nil => simp [PyData.canLayAll0]
      | cons n ns ih => simp [PyData.canLayAll0, PyData.canLay0, ih]
    simp [stateT, rowT, PyData.canLay0, PyData.canLayAll0, a]
  have h2 : (stateT R F).depth ≤ 64 := by simp only [stateT, PyData.depth, PyData.depthAll, depth_row]; omega
  show ((stateT R F).canLay0 && decide ((stateT R F).depth ≤ 64)) = true
  rw [h1, decide_eq_true h2]; rfl
end Af
namespace Af
open PySem PySem.Spec PyProof.Rows L2
def topS (i : Nat) : Stmt := PySem.Challenge.pw_aboutface_k04_beat_by_beat.main.body.getD i (.Pass ⟨0, 0, 0, 0⟩)
abbrev sLengthOf : Stmt := topS 1
theorem scLengthOf : FnScope ["book", "rungs", "climber"] ["book", "rungs", "climber"] (defScope sLengthOf) := ⟨rfl, rfl, rfl, by decide +kernel, rfl, by decide +kernel, by decide +kernel⟩
abbrev sLengths : Stmt := topS 2
theorem scLengths : FnScope ["book", "standing", "climber"] ["book", "standing"] (defScope sLengths) := ⟨rfl, rfl, rfl, by decide +kernel, rfl, by decide +kernel, by decide +kernel⟩
abbrev sEndRung : Stmt := topS 4
theorem scEndRung : FnScope ["length", "face"] ["length", "face"] (defScope sEndRung) := ⟨rfl, rfl, rfl, by decide +kernel, rfl, by decide +kernel, by decide +kernel⟩
abbrev sBlocked : Stmt := topS 5
theorem scBlocked : FnScope ["book", "state", "standing", "faces", "ladders", "climber"] ["book", "state"] (defScope sBlocked) := ⟨rfl, rfl, rfl, by decide +kernel, rfl, by decide +kernel, by decide +kernel⟩
abbrev sMover : Stmt := topS 6
theorem scMover : FnScope ["book", "state", "stuck", "free", "climber"] ["book", "state"] (defScope sMover) := ⟨rfl, rfl, rfl, by decide +kernel, rfl, by decide +kernel, by decide +kernel⟩
abbrev sTurned : Stmt := topS 7
theorem scTurned : FnScope ["state", "standing", "faces", "face"] ["state"] (defScope sTurned) := ⟨rfl, rfl, rfl, by decide +kernel, rfl, by decide +kernel, by decide +kernel⟩
abbrev sBeat : Stmt := topS 8
theorem scBeat : FnScope ["book", "state", "goer", "standing", "faces", "rungs", "climber", "kept", "negated", "face"] ["book", "state"] (defScope sBeat) := ⟨rfl, rfl, rfl, by decide +kernel, rfl, by decide +kernel, by decide +kernel⟩
abbrev sBeatsAlong : Stmt := topS 9
theorem scBeatsAlong : FnScope ["book", "state", "many", "standing", "faces", "states", "number"] ["book", "state", "many"] (defScope sBeatsAlong) := ⟨rfl, rfl, rfl, by decide +kernel, rfl, by decide +kernel, by decide +kernel⟩
abbrev sLawBox : Stmt := topS 11
theorem scLawBox : FnScope ["_law_script", "_law_k", "_law_cell"] ["_law_script", "_law_k"] (defScope sLawBox) := ⟨rfl, rfl, rfl, by decide +kernel, rfl, by decide +kernel, by decide +kernel⟩
abbrev sLawTake : Stmt := topS 12
theorem scLawTake : FnScope ["_law_box_here", "_law_span", "_law_found", "_law_once"] ["_law_box_here", "_law_span"] (defScope sLawTake) := ⟨rfl, rfl, rfl, by decide +kernel, rfl, by decide +kernel, by decide +kernel⟩
abbrev sLawCells : Stmt := topS 13
theorem scLawCells : FnScope ["_law_script", "_law_most", "_law_cells_here", "_law_k", "_law_cell"] ["_law_script", "_law_most"] (defScope sLawCells) := ⟨rfl, rfl, rfl, by decide +kernel, rfl, by decide +kernel, by decide +kernel⟩
abbrev sLawSame : Stmt := topS 14
theorem scLawSame : FnScope ["_law_found", "_law_due", "_law_mine", "_law_its"] ["_law_found", "_law_due"] (defScope sLawSame) := ⟨rfl, rfl, rfl, by decide +kernel, rfl, by decide +kernel, by decide +kernel⟩
abbrev sLawLists : Stmt := topS 15
theorem scLawLists : FnScope ["_law_matter", "_law_bit"] ["_law_matter"] (defScope sLawLists) := ⟨rfl, rfl, rfl, by decide +kernel, rfl, by decide +kernel, by decide +kernel⟩
abbrev sLawLadder : Stmt := topS 16
theorem scLawLadder : FnScope ["_law_shelf", "_law_rungs", "_law_who"] ["_law_shelf", "_law_rungs", "_law_who"] (defScope sLawLadder) := ⟨rfl, rfl, rfl, by decide +kernel, rfl, by decide +kernel, by decide +kernel⟩
abbrev sLawRandomBook : Stmt := topS 17
theorem scLawRandomBook : FnScope ["_law_box_here", "_law_most", "_law_high", "_law_found", "_law_k", "_law_top", "_law_rung"] ["_law_box_here", "_law_most", "_law_high"] (defScope sLawRandomBook) := ⟨rfl, rfl, rfl, by decide +kernel, rfl, by decide +kernel, by decide +kernel⟩
abbrev sLawRandomStanding : Stmt := topS 18
theorem scLawRandomStanding : FnScope ["_law_box_here", "_law_shelf", "_law_found", "_law_who"] ["_law_box_here", "_law_shelf"] (defScope sLawRandomStanding) := ⟨rfl, rfl, rfl, by decide +kernel, rfl, by decide +kernel, by decide +kernel⟩
abbrev sLawRandomFaces : Stmt := topS 19
theorem scLawRandomFaces : FnScope ["_law_box_here", "_law_count", "_law_who"] ["_law_box_here", "_law_count"] (defScope sLawRandomFaces) := ⟨rfl, rfl, rfl, by decide +kernel, rfl, by decide +kernel, by decide +kernel⟩
abbrev sLawRandomState : Stmt := topS 20
theorem scLawRandomState : FnScope ["_law_box_here", "_law_shelf"] ["_law_box_here", "_law_shelf"] (defScope sLawRandomState) := ⟨rfl, rfl, rfl, by decide +kernel, rfl, by decide +kernel, by decide +kernel⟩
abbrev sLawBeaten : Stmt := topS 21
theorem scLawBeaten : FnScope ["_law_shelf", "_law_spot", "_law_rungs", "_law_looks", "_law_goer", "_law_who"] ["_law_shelf", "_law_spot"] (defScope sLawBeaten) := ⟨rfl, rfl, rfl, by decide +kernel, rfl, by decide +kernel, by decide +kernel⟩
abbrev sLawAbout : Stmt := topS 22
theorem scLawAbout : FnScope ["_law_spot", "_law_look"] ["_law_spot"] (defScope sLawAbout) := ⟨rfl, rfl, rfl, by decide +kernel, rfl, by decide +kernel, by decide +kernel⟩
abbrev sLawBegin : Stmt := topS 23
theorem scLawBegin : FnScope ["_law_shelf", "_law_marks", "_law_found", "_law_k", "_law_mark"] ["_law_shelf", "_law_marks"] (defScope sLawBegin) := ⟨rfl, rfl, rfl, by decide +kernel, rfl, by decide +kernel, by decide +kernel⟩
abbrev sLawRight : Stmt := topS 24
theorem scLawRight : FnScope ["_law_box_here", "_law_shelf", "_law_spot", "_law_far", "_law_along", "_law_turn", "_law_kept", "_law_due", "_law_told", "_law_heard"] ["_law_box_here"] (defScope sLawRight) := ⟨rfl, rfl, rfl, by decide +kernel, rfl, by decide +kernel, by decide +kernel⟩
abbrev sLaw : Stmt := topS 25
theorem scLaw : FnScope ["_law_script", "_law_cells_here", "_law_k", "_law_box_here", "_law_turn"] ["_law_script"] (defScope sLaw) := ⟨rfl, rfl, rfl, by decide +kernel, rfl, by decide +kernel, by decide +kernel⟩
end Af
namespace Af
open PySem PySem.Spec PyProof.Rows L2
section
variable {P : Program} {w : World} {K : PySem.W.Frag} {mg : Str → Option Value} {base : Heap}
/-! length_of -/
def spLengthOf (K : PySem.W.Frag) : Sp := fun vs H Q _ => ∃ (b r : V) (c : Nat) (bd rd : PyData) (B : List (List Int)) (R : List Int) (n : Int), vs = [b, r, .int c] ∧ Dp K H b bd ∧ BookD bd B ∧ Dp K H r rd ∧ RowD rd R ∧ lenAt B R c = some n ∧ Q (.int n) H
theorem ok_length_of {f : Addr} {fd : FuncData} {k : Nat} (F : Fun K "length_of" "length_of" sLengthOf f fd) : FnOk P w K mg base CX0 (k + 1) f fd ["book", "rungs", "climber"] (spLengthOf K) := by
  refine F.ok scLengthOf (fun vs H Q E h => ?_) (fun cdv A outer s H vs Q E hr h => ?_)
  · obtain ⟨_, _, _, _, _, _, _, _, rfl, _⟩ := h; rfl
  obtain ⟨b, r, c, bd, rd, B, R, n, rfl, hb, hB, hr', hR, hl, q⟩ := h
  refine ⟨_, pss_cons (ps_if (pt_cmpR op_eq (pv 2) pe_int (nomark _)) (pss_one (ps_ret (pe_ix ix_seq (pe_ix ix_seq (pv 0) pe_int (fun _ _ => rfl)) pe_int (fun _ _ => rfl)))) pss_nil)
    (pss_one (ps_ret (pe_ix ix_seq (pe_ix ix_seq (pv 0) (pv 2) (fun _ _ => rfl)) (pe_op op_sub (pe_ix ix_seq (pv 1) (pe_op op_sub (pv 2) pe_int) (fun _ _ => rfl)) pe_int) (fun _ _ => rfl)))), ?_⟩
  refine ⟨_, rfl, rfl, _, rfl, ?_⟩
  refine ite2 (fun e => ?_) (fun e => ?_)
  · have e0 : c = 0 := by have := V.int.inj (of_decide_eq_true e); omega
    subst e0
    obtain ⟨row, e1, e2⟩ := lenAt_zero hl
    obtain ⟨a, xs, ra, rfl, h1, h2, h3⟩ := book_row hb hB e1
    exact ⟨_, rfl, ix_of h1 (atI_nat (j := 0) h2) (ix_of h3 (atI_nat (j := 0) (by rw [List.getElem?_map, e2]; rfl)) q)⟩
  · cases c with
    | zero => exact absurd (decide_eq_true rfl) e
    | succ c =>
      obtain ⟨row, r1, e1, e2, e3, e4⟩ := lenAt_succ hl
      obtain ⟨a, xs, ra, rfl, h1, h2, h3⟩ := book_row hb hB e1
      obtain ⟨sa, rfl, h4⟩ := row_at hr' hR
      have z1 : ((c + 1 : Nat) : Int) - 1 = (c : Nat) := by omega
      have z2 : r1 - 1 = (((r1 - 1).toNat : Nat) : Int) := by omega
      refine ⟨_, rfl, _, rfl, ix_of h1 (atI_nat (j := c + 1) h2) ?_⟩
      refine ⟨_, rfl, _, rfl, _, _, rfl, rfl, ?_⟩
      show rIx K (V.ref sa) (V.int (((c + 1 : Nat) : Int) - 1)) H _
      rw [z1]
      refine ix_of h4 (atI_nat (j := c) (by rw [List.getElem?_map, e2]; rfl)) ⟨_, _, rfl, rfl, ?_⟩
      show rIx K (V.ref ra) (V.int (r1 - 1)) H _
      rw [z2]
      exact ix_of h3 (atI_nat (by rw [List.getElem?_map, e4]; rfl)) q
/-! _law_ladder -/
theorem ok_ladder {f : Addr} {fd : FuncData} {k : Nat} (F : Fun K "_law_ladder" "_law_ladder" sLawLadder f fd) : FnOk P w K mg base CX0 (k + 1) f fd ["_law_shelf", "_law_rungs", "_law_who"] (spLengthOf K) := by
  refine F.ok scLawLadder (fun vs H Q E h => ?_) (fun cdv A outer s H vs Q E hr h => ?_)
  · obtain ⟨_, _, _, _, _, _, _, _, rfl, _⟩ := h; rfl
  obtain ⟨b, r, c, bd, rd, B, R, n, rfl, hb, hB, hr', hR, hl, q⟩ := h
  refine ⟨_, pss_one (ps_ret (pe_ifExp (pt_cmpR op_eq (pv 2) pe_int (nomark _)) (pe_ix ix_seq (pe_ix ix_seq (pv 0) pe_int (fun _ _ => rfl)) pe_int (fun _ _ => rfl))
    (pe_ix ix_seq (pe_ix ix_seq (pv 0) (pv 2) (fun _ _ => rfl)) (pe_op op_sub (pe_ix ix_seq (pv 1) (pe_op op_sub (pv 2) pe_int) (fun _ _ => rfl)) pe_int) (fun _ _ => rfl)))), ?_⟩
  refine ⟨_, rfl, rfl, _, rfl, ?_⟩
  refine ite2 (fun e => ?_) (fun e => ?_)
  · have e0 : c = 0 := by have := V.int.inj (of_decide_eq_true e); omega
    subst e0
    obtain ⟨row, e1, e2⟩ := lenAt_zero hl
    obtain ⟨a, xs, ra, rfl, h1, h2, h3⟩ := book_row hb hB e1
    exact ⟨_, rfl, ix_of h1 (atI_nat (j := 0) h2) (ix_of h3 (atI_nat (j := 0) (by rw [List.getElem?_map, e2]; rfl)) q)⟩
  · cases c with
    | zero => exact absurd (decide_eq_true rfl) e
    | succ c =>
      obtain ⟨row, r1, e1, e2, e3, e4⟩ := lenAt_succ hl
      obtain ⟨a, xs, ra, rfl, h1, h2, h3⟩ := book_row hb hB e1
      obtain ⟨sa, rfl, h4⟩ := row_at hr' hR
      have z1 : ((c + 1 : Nat) : Int) - 1 = (c : Nat) := by omega
      have z2 : r1 - 1 = (((r1 - 1).toNat : Nat) : Int) := by omega
      refine ⟨_, rfl, _, rfl, ix_of h1 (atI_nat (j := c + 1) h2) ?_⟩
      refine ⟨_, rfl, _, rfl, _, _, rfl, rfl, ?_⟩
      show rIx K (V.ref sa) (V.int (((c + 1 : Nat) : Int) - 1)) H _
      rw [z1]
      refine ix_of h4 (atI_nat (j := c) (by rw [List.getElem?_map, e2]; rfl)) ⟨_, _, rfl, rfl, ?_⟩
      show rIx K (V.ref ra) (V.int (r1 - 1)) H _
      rw [z2]
      exact ix_of h3 (atI_nat (by rw [List.getElem?_map, e4]; rfl)) q
end
end Af
namespace Af
open PySem PySem.Spec PyProof.Rows L2
section
variable {P : Program} {w : World} {K : PySem.W.Frag} {mg : Str → Option Value} {base : Heap}
/-! _law_take: some number below the span -/
def spTake : Sp := fun vs H Q _ => ∃ (bx : Addr) (span : Int) (m : Nat), vs = [.ref bx, .int span] ∧ Box H bx m ∧ m ≤ 1000000000 ∧ 1 ≤ span ∧ span ≤ 10000000 ∧
  ∀ (r : Int) (H' : Hp), 0 ≤ r → r < span → Box H' bx (m + 1) → hid H' bx = hid H bx → Q (.int r) H'
theorem ok_take {f : Addr} {fd : FuncData} {k : Nat} (F : Fun K "_law_take" "_law_take" sLawTake f fd) : FnOk P w K mg base CX0 (k + 1) f fd ["_law_box_here", "_law_span"] spTake := by
  refine F.ok scLawTake (fun vs H Q E h => ?_) (fun cdv A outer s H vs Q E hr h => ?_)
  · obtain ⟨_, _, _, rfl, _⟩ := h; rfl
  obtain ⟨bx, span, m, rfl, hB, hm, s1, s2, q⟩ := h
  refine ⟨_, pss_cons (ps_if (pt_cmpR op_gt (pe_ix ix_list (pv 0) pe_int (fun _ _ => rfl)) pe_int (nomark _))
      (pss_cons (ps_set (i := 2) scLawTake.nd rfl (.inl rfl) (pe_op op_mod (pe_ix ix_list (pv 0) pe_int (fun _ _ => rfl)) (pv 1)))
      (pss_cons (ps_asg (pe_op op_fdiv (pe_ix ix_list (pv 0) pe_int (fun _ _ => rfl)) (pv 1)) (pg_sub (pv 0) pe_int set_list))
      (pss_one (ps_ret (pv 2))))) pss_nil)
    (pss_cons (ps_if (pt_cmpR op_gt (pv 1) (pe_op op_pow pe_int pe_int) (nomark _)) pss_never pss_nil)
    (pss_cons (ps_asg (pe_op op_add (pe_ix ix_list (pv 0) pe_int (fun _ _ => rfl)) pe_int) (pg_sub (pv 0) pe_int set_list))
    (pss_cons (ps_set (i := 3) scLawTake.nd rfl (.inl rfl) (pe_op op_mod (pe_op op_pow (pe_op op_add (pe_ix ix_list (pv 0) pe_int (fun _ _ => rfl)) (pe_op op_mul pe_int (pe_ix ix_list (pv 0) pe_int (fun _ _ => rfl)))) pe_int) pe_int))
    (pss_one (ps_ret (pe_op op_mod (pe_op op_fdiv (pe_op op_mod (pe_op op_add (pe_op op_mul (pv 3) (pe_op op_add (pe_op op_mod (pv 3) pe_int) pe_int)) (pe_op op_mul (pe_ix ix_list (pv 0) pe_int (fun _ _ => rfl)) pe_int)) pe_int) pe_int) (pv 1))))))), ?_⟩
  obtain ⟨a, b, c, hb, a0, b0, b1, c0, c1⟩ := hB
  have hL : SqL K H bx [.int a, .int b, .int c] := SqL.of hb
  refine ⟨_, rfl, bx, _, 0, _, rfl, rfl, hL, atI_nat (j := 0) rfl, _, _, rfl, rfl, _, rfl, ?_⟩
  refine ite2 (fun e => ?_) (fun e => ?_)
  · refine ⟨_, rfl, bx, _, 0, _, rfl, rfl, hL, atI_nat (j := 0) rfl, _, rfl, _, _, rfl, rfl, (show (0 : Int) < span by omega), ?_⟩
    refine ⟨_, rfl, bx, _, 0, _, rfl, rfl, hL, atI_nat (j := 0) rfl, _, rfl, _, _, rfl, rfl, ⟨(show (0 : Int) < span by omega), (show span < 1073741824 by omega)⟩, ?_⟩
    refine ⟨_, rfl, bx, _, 0, 0, rfl, rfl, hb, rfl, ?_⟩
    refine ⟨_, rfl, q (a % span) _ (Int.emod_nonneg _ (by omega)) (Int.emod_lt_of_pos _ (by omega)) ?_ hid_upd⟩
    exact ⟨a / span, b, c, upd_same, Int.ediv_nonneg a0 (by omega), b0, b1, c0, by omega⟩
  · refine ⟨_, rfl, _, _, rfl, rfl, ⟨by decide, by decide, by decide⟩, _, _, rfl, rfl, _, rfl, ?_⟩
    refine ite2 (fun e2 => ?_) (fun _ => ?_)
    · have z : (10 : Int) ^ (7 : Int).toNat < span := of_decide_eq_true e2
      have z2 : (10 : Int) ^ (7 : Int).toNat = 10000000 := by decide
      omega
    · refine ⟨_, rfl, bx, _, 2, _, rfl, rfl, hL, atI_nat (j := 2) rfl, _, _, rfl, rfl, ?_⟩
      refine ⟨_, rfl, bx, _, 2, 2, rfl, rfl, hb, rfl, ?_⟩
      show _
      have hb2 : (upd H bx (.lst [.int a, .int b, .int (c + 1)])) bx = some (.lst [.int a, .int b, .int (c + 1)]) := upd_same
      have hL2 : SqL K (upd H bx (.lst [.int a, .int b, .int (c + 1)])) bx [.int a, .int b, .int (c + 1)] := SqL.of hb2
      refine ⟨_, rfl, bx, _, 1, _, rfl, rfl, hL2, atI_nat (j := 1) rfl, _, rfl, bx, _, 2, _, rfl, rfl, hL2, atI_nat (j := 2) rfl, _, _, rfl, rfl, .inl ⟨by decide, by decide⟩, _, _, rfl, rfl, _, _, rfl, rfl, ⟨by decide, by decide, ?_⟩, _, _, rfl, rfl, (show (0 : Int) < 2147483647 by decide), ?_⟩
      · show (b + 39373 * (c + 1)).natAbs < 2 ^ 64
        have : b < 4611686018427387904 := b1
        have e64 : (2 : Nat) ^ 64 = 18446744073709551616 := by decide
        omega
      · generalize ho : (b + 39373 * (c + 1)) ^ (5 : Int).toNat % 2147483647 = once
        have o1 : 0 ≤ once := by rw [← ho]; exact Int.emod_nonneg _ (by decide)
        have o2 : once < 2147483647 := by rw [← ho]; exact Int.emod_lt_of_pos _ (by decide)
        refine ⟨_, rfl, _, rfl, _, _, rfl, rfl, (show (0 : Int) < 40009 by decide), _, _, rfl, rfl, _, _, rfl, rfl, .inl ⟨by omega, by omega⟩, _, rfl, bx, _, 2, _, rfl, rfl, hL2, atI_nat (j := 2) rfl, _, _, rfl, rfl, .inr ⟨by decide, by decide⟩, _, _, rfl, rfl, _, _, rfl, rfl, (show (0 : Int) < 2147483629 by decide), _, _, rfl, rfl, ⟨by decide, by decide⟩, _, rfl, _, _, rfl, rfl, (show (0 : Int) < span by omega), ?_⟩
        exact q _ _ (Int.emod_nonneg _ (by omega)) (Int.emod_lt_of_pos _ (by omega)) ⟨a, b, c + 1, upd_same, a0, b0, b1, by omega, by omega⟩ hid_upd
end
end Af
namespace Af
open PySem PySem.Spec PyProof.Rows L2
section
variable {P : Program} {w : World} {K : PySem.W.Frag} {mg : Str → Option Value} {base : Heap}
/-! _law_box -/
theorem b01 (b : Bool) : -(2 ^ 64) < (if b = true then (1 : Int) else 0) ∧ (if b = true then (1 : Int) else 0) < 2 ^ 64 := by cases b <;> exact ⟨by decide, by decide⟩
theorem b01n (b : Bool) : 0 ≤ (if b = true then (1 : Int) else 0) := by cases b <;> decide
def spBox (K : PySem.W.Frag) : Sp := fun vs H Q _ => ∃ (a : Addr) (ns : List Int) (k : Nat), vs = [.ref a, .int k] ∧ SqL K H a (ns.map V.int) ∧ k ≤ 1000 ∧
  ∀ (p : Addr) (H' : Hp), H p = none → Same H (hid H' p) → Box H' p 0 → Q (.ref p) H'
theorem ok_box {f : Addr} {fd : FuncData} {k : Nat} (T : Bl mg) (F : Fun K "_law_box" "_law_box" sLawBox f fd) : FnOk P w K mg base CX0 (k + 1) f fd ["_law_script", "_law_k"] (spBox K) := by
  refine F.ok scLawBox (fun vs H Q E h => ?_) (fun cdv A outer s H vs Q E hr h => ?_)
  · obtain ⟨_, _, _, rfl, _⟩ := h; rfl
  obtain ⟨a, ns, k, rfl, hS, hk, q⟩ := h
  refine ⟨_, C8.pss_cut (ps_set (i := 2) scLawBox.nd rfl (.inl rfl) (pe_ifExp (pt_cmpR op_lt (pv 1) (pe_callB call_len_seq rfl T.len bLen (pa_cons (pv 0) pa_nil)) (nomark _)) (pe_ix ix_list (pv 0) (pv 1) (fun _ _ => rfl)) pe_int))
    (pss_one (ps_ret (pe_lst (pa_cons (pe_op op_mul (pe_callB call_abs rfl T.abs bAbs (pa_cons (pv 2) pa_nil)) (pe_callTy call_int1 rfl T.int bInt (pa_cons (pe_cmpR op_ge (pe_callB call_abs rfl T.abs bAbs (pa_cons (pv 2) pa_nil)) (pe_op op_pow pe_int pe_int) (nomark _)) pa_nil)))
      (pa_cons (pe_op op_add (pe_op op_add (pe_op op_mod (pv 2) pe_int) (pe_op op_mul pe_int (pv 1))) pe_int) (pa_cons pe_int pa_nil)))))), ?_⟩
  refine ⟨fun σ H' => ∃ c : Int, σ = [some (.ref a), some (.int k), some (.int c)] ∧ H' = H, ?_, ?_⟩
  · refine ⟨_, rfl, _, rfl, a, _, rfl, .inl hS, _, _, rfl, rfl, _, rfl, ?_⟩
    refine ite2 (fun e => ?_) (fun e => ?_)
    · have hlt : k < ns.length := by
        have z : (k : Int) < (((ns.map V.int).length : Nat) : Int) := of_decide_eq_true e
        rw [List.length_map] at z; omega
      exact ⟨_, rfl, _, rfl, a, _, _, _, rfl, rfl, hS, atI_nat (by rw [List.getElem?_map, List.getElem?_eq_getElem hlt]; rfl), _, rfl, rfl⟩
    · exact ⟨_, rfl, rfl⟩
  · rintro σ H' ⟨c, rfl, rfl⟩
    have hi : ∀ x : Int, 0 ≤ (if x < 0 then -x else x) := fun x => by split <;> omega
    refine ⟨_, rfl, _, rfl, _, rfl, _, rfl, _, _, rfl, rfl, ⟨by decide, by decide, by decide⟩, _, _, rfl, rfl, .inr ⟨_, rfl, _, _, rfl, rfl, .inr ?_, ?_⟩⟩
    · exact b01 _
    · refine ⟨_, rfl, _, _, rfl, rfl, (show (0 : Int) < 2305843009213693951 by decide), _, rfl, _, _, rfl, rfl, .inl ⟨by decide, by decide⟩, _, _, rfl, rfl, _, _, rfl, rfl, (by show 3 ≤ sizeLine; decide), fun p hp => ?_⟩
      have m1 : 0 ≤ c % 2305843009213693951 := Int.emod_nonneg _ (by decide)
      have m2 : c % 2305843009213693951 < 2305843009213693951 := Int.emod_lt_of_pos _ (by decide)
      refine q p _ hp (fun b o e => ?_) ⟨_, _, _, upd_same, ?_, ?_, ?_, by decide, by decide⟩
      · have nb := ne_of_none e hp
        rw [hid_ne nb, upd_ne nb]; exact e
      · exact Int.mul_nonneg (hi c) (b01n _)
      · omega
      · have e62 : (2 : Int) ^ 62 = 4611686018427387904 := by decide
        rw [e62]; omega
end
end Af
namespace Af
open PySem PySem.Spec PyProof.Rows L2
section
variable {P : Program} {w : World} {K : PySem.W.Frag} {mg : Str → Option Value} {base : Heap}
/-! _law_cells -/
theorem cut_ints (ns : List Int) (lo hi : Option Int) : cutV (ns.map V.int) lo hi = ((ns.drop (HT.sIx ns.length 0 lo)).take (HT.sIx ns.length ns.length hi - HT.sIx ns.length 0 lo)).map V.int := by
  unfold cutV
  rw [List.length_map, List.map_take, List.map_drop]
theorem ixN_nat {n j : Nat} (h : j < n) : ixN n (j : Int) = some j := by
  unfold ixN
  rw [if_pos (by omega), if_pos (by omega), Int.toNat_natCast]
theorem shaped_flat {d : PyData} (h1 : d.canLay0 = true) (h2 : d.depth ≤ 64) : SeqAt.shaped d = true := by
  show (d.canLay0 && decide (d.depth ≤ 64)) = true
  rw [h1, decide_eq_true h2]; rfl
theorem lay_ints : ∀ ns : List Int, PyData.canLayAll0 (ns.map PyData.int) = true
  | [] => by simp [PyData.canLayAll0]
  | n :: ns => by simp [PyData.canLayAll0, PyData.canLay0, lay_ints ns]
theorem shaped_ints (ns : List Int) : SeqAt.shaped (.list (ns.map PyData.int)) = true :=
  shaped_flat (by simp only [PyData.canLay0]; exact lay_ints ns) (by simp only [PyData.depth]; rw [depth_ints]; decide)
theorem eqv_ints_nil (ns : List Int) : PyData.eqv (.list (ns.map PyData.int)) (.list []) = ns.isEmpty := by
  cases ns <;> simp [PyData.eqv, PyData.eqvAll]
theorem dp_lst_ints {K : PySem.W.Frag} {H : Hp} {p : Addr} {ns : List Int} (h : H p = some (.lst (ns.map V.int))) : Dp K H (.ref p) (.list (ns.map PyData.int)) := .lst (SqL.of h) (dps_ints ns)
def spCells (K : PySem.W.Frag) : Sp := fun vs H Q _ => ∃ (a : Addr) (ns : List Int) (most : Nat), vs = [.ref a, .int most] ∧ SqL K H a (ns.map V.int) ∧ ns.length ≤ 63 ∧ 1 ≤ most ∧ most ≤ 10 ∧
  ∀ (p : Addr) (H' : Hp) (cs : List Int), H p = none → Same H H' → H' p = some (.lst (cs.map V.int)) → cs.length ≤ most → 1 ≤ cs.length → Q (.ref p) H'
theorem ok_cells {f : Addr} {fd : FuncData} {k : Nat} (T : Bl mg) (F : Fun K "_law_cells" "_law_cells" sLawCells f fd) : FnOk P w K mg base CX0 (k + 1) f fd ["_law_script", "_law_most"] (spCells K) := by
  refine F.ok scLawCells (fun vs H Q E h => ?_) (fun cdv A outer s H vs Q E hr h => ?_)
  · obtain ⟨_, _, _, rfl, _⟩ := h; rfl
  obtain ⟨a, ns, most, rfl, hS, h63, m1, m2, q⟩ := h
  have hu := hr.units
  refine ⟨_, pss_cons (ps_set (i := 2) scLawCells.nd rfl (.inl rfl) (pe_callTy call_list_of rfl T.list bList (pa_cons (pe_slice sl_list (pv 0) po_none (po_some (pv 1))) pa_nil)))
    (pss_cons (ps_for PassesOwn.never rfl (pi_enum rfl T.enum (pa_cons (pe_slice sl_list (pv 0) (po_some (pv 1)) (po_some pe_int)) pa_nil))
        (pg_tup rfl (pgs_cons (pg_name (i := 3) scLawCells.nd rfl (.inl rfl)) (pgs_cons (pg_name (i := 4) scLawCells.nd rfl (.inl rfl)) pgs_nil)))
        (pss_one (ps_asg (pe_op op_add (pe_ix ix_list (pv 2) (pe_op op_mod (pv 3) (pv 1)) (fun _ _ => rfl)) (pe_op op_mul (pv 4) (pe_op op_add (pv 3) pe_int))) (pg_sub (pv 2) (pe_op op_mod (pv 3) (pv 1)) set_list))))
    (pss_one (ps_ret (pe_ifExp (pt_cmpR (op_neD hu) (pv 2) (pe_lst pa_nil) (nomark _)) (pv 2) (pe_lst (pa_cons pe_int pa_nil)))))), ?_⟩
  -- list(script[:most])
  refine ⟨_, rfl, _, rfl, _, rfl, a, _, rfl, hS, fun c nc => ?_⟩
  rw [cut_ints, HT.sIx_nat, HT.sIx_none, List.drop_zero, Nat.sub_zero]
  refine ⟨c, _, rfl, .inl (SqL.of upd_same), fun p np => ?_⟩
  have s1 := same_new (o := .lst ((ns.take (min most ns.length)).map V.int)) nc
  have s2 := same_new (o := .lst ((ns.take (min most ns.length)).map V.int)) np
  have np0 : H p = none := s1.free np
  have hp : (upd (upd H c (.lst ((ns.take (min most ns.length)).map V.int))) p (.lst ((ns.take (min most ns.length)).map V.int))) p = some (.lst ((ns.take (min most ns.length)).map V.int)) := upd_same
  have s12 := s1.trans s2
  generalize upd (upd H c (.lst ((ns.take (min most ns.length)).map V.int))) p (.lst ((ns.take (min most ns.length)).map V.int)) = H1 at hp s12
  -- script[most:63]
  refine ⟨_, rfl, _, rfl, _, rfl, 63, rfl, a, _, rfl, s12.seq hS, fun e ne => ?_⟩
  rw [cut_ints, HT.sIx_nat, show HT.sIx ns.length ns.length (some (63 : Int)) = min 63 ns.length from HT.sIx_nat ns.length ns.length 63]
  generalize hsl : (ns.drop (min most ns.length)).take (min 63 ns.length - min most ns.length) = sl
  refine ⟨e, _, rfl, SqL.of upd_same, ?_⟩
  have nep : e ≠ p := fun z => by rw [z, hp] at ne; cases ne
  have s3 := same_new (o := .lst (sl.map V.int)) ne
  refine for_it (walk_enum (xs := sl.map V.int)) (fun i σ H3 => ∃ (y3 y4 : Option V) (cs : List Int), σ = [some (.ref a), some (.int most), some (.ref p), y3, y4] ∧ cs.length = min most ns.length ∧ H3 p = some (.lst (cs.map V.int)) ∧ Same H H3 ∧ H3 e = some (.lst (sl.map V.int)))
    ⟨none, none, _, rfl, by rw [List.length_take]; omega, (s3 _ _ hp), s12.trans s3, upd_same⟩ (fun i σ H3 _ ⟨_, _, _, _, _, _, _, he⟩ => SqL.of he) (fun i x σ H3 H4 hi hP hy => ?_) (fun σ H3 hP => ?_)
  · obtain ⟨y3, y4, cs, rfl, hc, hp3, sm, he⟩ := hP
    obtain ⟨Tt, x1, x2, rfl, nT, rfl, e1, e2⟩ := hy
    have e1' : x1 = .int (i : Nat) := (Option.some.inj e1).symm
    subst e1'
    obtain ⟨v, e3, rfl⟩ : ∃ v, sl[i]? = some v ∧ V.int v = x2 := by
      have e2' : (sl.map V.int)[i]? = some x2 := e2
      rw [List.getElem?_map] at e2'
      cases z : sl[i]? with
      | none => rw [z] at e2'; cases e2'
      | some v => rw [z] at e2'; exact ⟨v, rfl, Option.some.inj e2'⟩
    have hlen : most < ns.length := by
      have z : i < sl.length := (List.getElem?_eq_some_iff.mp e3).1
      rw [← hsl, List.length_take, List.length_drop] at z
      omega
    have hcl : cs.length = most := by omega
    have hT := same_new (o := .tup [.int (i : Nat), .int v]) nT
    have hpT : (upd H3 Tt (.tup [.int (i : Nat), .int v])) p = some (.lst (cs.map V.int)) := hT _ _ hp3
    have ej : ((i : Nat) : Int) % (most : Int) = ((i % most : Nat) : Int) := rfl
    have jl : i % most < cs.length := by rw [hcl]; exact Nat.mod_lt _ (by omega)
    refine ⟨Tt, _, rfl, .inl (.inl upd_same), rfl, _, _, rfl, _, _, rfl, rfl, ?_⟩
    refine ⟨_, rfl, _, rfl, _, rfl, _, _, rfl, rfl, (show (0 : Int) < most by omega), ?_⟩
    refine ⟨p, _, ((i % most : Nat) : Int), _, rfl, rfl, SqL.of hpT, atI_nat (j := i % most) (by rw [List.getElem?_map, List.getElem?_eq_getElem jl]; rfl), ?_⟩
    refine ⟨_, rfl, _, rfl, _, _, rfl, rfl, _, _, rfl, rfl, .inr ⟨by omega, ?_⟩, _, _, rfl, rfl, ?_⟩
    · have z : i < sl.length := (List.getElem?_eq_some_iff.mp e3).1
      rw [← hsl, List.length_take, List.length_drop] at z
      have : ((i : Nat) : Int) + 2 < 18446744073709551616 := by omega
      exact this
    refine ⟨_, rfl, _, rfl, _, rfl, _, _, rfl, rfl, (show (0 : Int) < most by omega), ?_⟩
    refine ⟨p, _, ((i % most : Nat) : Int), i % most, rfl, rfl, hpT, ixN_nat (by rw [List.length_map]; exact jl), ?_⟩
    refine ⟨_, _, cs.set (i % most) (cs[i % most] + v * ((i : Nat) + 2)), rfl, by rw [List.length_set]; exact hc, ?_, fun b o eb => ?_, ?_⟩
    · rw [upd_same, List.map_set]
    · rw [upd_ne (ne_of_none eb np0)]; exact hT _ _ (sm _ _ eb)
    · rw [upd_ne nep]; exact hT _ _ he
  · obtain ⟨y3, y4, cs, rfl, hc, hp3, sm, he⟩ := hP
    refine ⟨_, rfl, by show 0 ≤ sizeLine; decide, fun z nz => ?_⟩
    have sz := same_new (o := .lst []) nz
    refine ⟨_, _, dp_lst_ints (sz _ _ hp3), .lst (SqL.of upd_same) .nil, shaped_ints cs, shaped_ints [], _, rfl, ?_⟩
    rw [eqv_ints_nil]
    refine ite2 (fun e0 => ?_) (fun e0 => ?_)
    · have h1 : 1 ≤ cs.length := by cases cs with | nil => cases e0 | cons _ _ => simp
      exact ⟨_, rfl, q p _ cs np0 (sm.trans sz) (sz _ _ hp3) (by omega) h1⟩
    · refine ⟨by show 1 ≤ sizeLine; decide, fun r nr => ?_⟩
      have sr := same_new (o := .lst [.int 0]) nr
      exact q r _ [0] (sm.free (sz.free nr)) (sm.trans (sz.trans sr)) upd_same (by simpa using m1) (by simp)
end
end Af
namespace Af
open PySem PySem.Spec PyProof.Rows L2
section
variable {P : Program} {w : World} {K : PySem.W.Frag} {mg : Str → Option Value} {base : Heap}
theorem yesT {σ : L2.St} {H : Hp} {A B : Hp → Prop} (h : A H) : tYes σ H (fun b H3 => if b = true then A H3 else B H3) := by
  show (if true = true then A H else B H)
  exact iteT h
/-! zip of two tuples, walked -/
theorem walk_zipT {K : PySem.W.Frag} {a b : Addr} {xs ys : List V} {n : Nat} (hn : n = min xs.length ys.length) : Walk (RZ.ItzT K a b) n (fun H => SqT K H a xs ∧ SqT K H b ys) (YPair (fun i => xs[i]?) (fun i => ys[i]?)) := by
  subst hn
  refine ⟨fun i _ hi q => ?_, fun _ q => ⟨xs, ys, q.1, q.2, by omega⟩, fun i H v H' _ q y => ?_⟩
  · exact ⟨xs, ys, xs[i]'(by omega), ys[i]'(by omega), q.1, q.2, List.getElem?_eq_getElem (by omega), List.getElem?_eq_getElem (by omega)⟩
  · obtain ⟨T, x, z, h1, h2, h3, h4, h5⟩ := y
    exact ⟨T, x, z, h1, h2, h3, h4 xs q.1, h5 ys q.2⟩
theorem qT {Q : VK} {H : Hp} {b : Bool} (e : b = true) (h : Q (.bl true) H) : Q (.bl b) H := by rw [e]; exact h
/-! _law_same of one datum, twice -/
def spSame (K : PySem.W.Frag) (n : Nat) : Sp := fun vs H Q _ => ∃ (x y : V) (d : PyData), vs = [x, y] ∧ Dp K H x d ∧ Dp K H y d ∧ d.depth < n ∧ d.bulk ≤ 1000000 ∧ ∀ H', Same H H' → Q (.bl true) H'
theorem ok_same1 {f : Addr} {fd : FuncData} {n : Nat} (T : Bl mg) (D : Df K mg "_law_same" sLawSame ["_law_found", "_law_due"] f fd) (G : FnOk P w K mg base CX0 n f fd ["_law_found", "_law_due"] (spSame K n)) :
    FnOk P w K mg base CX0 (n + 1) f fd ["_law_found", "_law_due"] (spSame K (n + 1)) := by
  refine D.F.ok scLawSame (fun vs H Q E h => ?_) (fun cdv A outer s H vs Q E hr h => ?_)
  · obtain ⟨_, _, _, rfl, _⟩ := h; rfl
  obtain ⟨x, y, d, rfl, hx, hy, hd, hb, q⟩ := h
  have nd := scLawSame.nd
  refine ⟨_, pss_cons (ps_if (pt_val (pe_callB call_isD2 rfl T.isi bIsi (pa_cons (pv 1) (pa_cons (pe_tup (pa_cons (pe_bltn (v := .ty "list") rfl T.list bList rfl) (pa_cons (pe_bltn (v := .ty "tuple") rfl T.tuple bTuple rfl) pa_nil))) pa_nil))))
      (pss_cons (ps_if (PW.pt (pw_or (pt_cmpR op_ne (pe_callB call_isD rfl T.isi bIsi (pa_cons (pv 0) (pa_cons (pe_bltn (v := .ty "list") rfl T.list bList rfl) pa_nil))) (pe_callB call_isD rfl T.isi bIsi (pa_cons (pv 1) (pa_cons (pe_bltn (v := .ty "list") rfl T.list bList rfl) pa_nil))) (nomark _))
          (pw_or1 (pt_cmpR op_ne (pe_callB call_isD rfl T.isi bIsi (pa_cons (pv 0) (pa_cons (pe_bltn (v := .ty "tuple") rfl T.tuple bTuple rfl) pa_nil))) (pe_callB call_isD rfl T.isi bIsi (pa_cons (pv 1) (pa_cons (pe_bltn (v := .ty "tuple") rfl T.tuple bTuple rfl) pa_nil))) (nomark _)))))
          pss_never pss_nil)
      (pss_one (ps_ret (pe_and (pe_cmpR op_eq (pe_callB call_len_seq rfl T.len bLen (pa_cons (pv 0) pa_nil)) (pe_callB call_len_seq rfl T.len bLen (pa_cons (pv 1) pa_nil)) (nomark _))
        (pe_one (pe_callB (cr_all rfl) rfl T.all bAll (pa_cons
          (pe_lc (own := [("_law_mine", 2), ("_law_its", 3)]) (g := gTup K 2 (gCons (gName 2) (gCons (gName 3) gNil))) (tt := tYes) rfl nd (RZ.pi_zipA rfl T.zip (pa_cons (pv 0) (pa_cons (pv 1) pa_nil)))
            (blkOk_by (N := ["_law_found", "_law_due", "_law_mine", "_law_its"]) (sc := defScope sLawSame) (by decide +kernel))
            (fun _ _ _ _ _ => pg_tup rfl (pgs_cons (pg_name (i := 2) nd rfl (.inl rfl)) (pgs_cons (pg_name (i := 3) nd rfl (.inl rfl)) pgs_nil)))
            (fun _ _ _ _ _ => pts_nil)
            (fun _ _ _ _ _ => pe_do D G hr rfl (pa_cons (pv 2) (pa_cons (pv 3) pa_nil)))) pa_nil))))))) pss_nil)
    (pss_cons (ps_if (PW.pt (pw_or (pt_cmp (pc_isN (pv 1))) (pw_or1 (pt_val (pe_callB call_isD2 rfl T.isi bIsi (pa_cons (pv 1) (pa_cons (pe_tup (pa_cons (pe_bltn (v := .ty "str") rfl T.str bStr rfl) (pa_cons (pe_bltn (v := .ty "bool") rfl T.bool bBool rfl) pa_nil))) pa_nil)))))))
      (pss_one (ps_ret (pe_and (pe_cmpR op_eq (pv 0) (pv 1) (nomark _)) (pe_and (pe_cmpR op_eq (pe_callB call_isD rfl T.isi bIsi (pa_cons (pv 0) (pa_cons (pe_bltn (v := .ty "bool") rfl T.bool bBool rfl) pa_nil))) (pe_callB call_isD rfl T.isi bIsi (pa_cons (pv 1) (pa_cons (pe_bltn (v := .ty "bool") rfl T.bool bBool rfl) pa_nil))) (nomark _))
        (pe_one (pe_cmpR op_eq (pe_cmp (pc_isN (pv 0))) (pe_cmp (pc_isN (pv 1))) (nomark _))))))) pss_nil)
    (pss_one (ps_ret (pe_and (pe_callB call_isD rfl T.isi bIsi (pa_cons (pv 0) (pa_cons (pe_bltn (v := .ty "int") rfl T.int bInt rfl) pa_nil)))
      (pe_and (pe_not (pe_callB call_isD rfl T.isi bIsi (pa_cons (pv 0) (pa_cons (pe_bltn (v := .ty "bool") rfl T.bool bBool rfl) pa_nil)))) (pe_one (pe_cmpR op_eq (pv 0) (pv 1) (nomark _)))))))), ?_⟩
  refine ⟨_, rfl, by show 2 ≤ sizeLine; decide, fun tp ntp => ?_⟩
  have s1 := same_new (o := .tup [.ty "list", .ty "tuple"]) ntp
  refine ⟨_, tp, "list", "tuple", d, rfl, upd_same, by decide, by decide, dp_up hy s1, _, rfl, ?_⟩
  generalize hH1 : upd H tp (.tup [.ty "list", .ty "tuple"]) = H1
  rw [hH1] at s1
  have hx1 := dp_up hx s1
  have hy1 := dp_up hy s1
  cases d with
  | list ds =>
    obtain ⟨a, xs, rfl, ha, hxa⟩ : ∃ a xs, x = .ref a ∧ SqL K H1 a xs ∧ DpAll K H1 xs ds := by cases hx1 with | lst h1 h2 => exact ⟨_, _, rfl, h1, h2⟩
    obtain ⟨b, ys, rfl, hb', hya⟩ : ∃ b ys, y = .ref b ∧ SqL K H1 b ys ∧ DpAll K H1 ys ds := by cases hy1 with | lst h1 h2 => exact ⟨_, _, rfl, h1, h2⟩
    have lx := dps_len hxa
    have ly := dps_len hya
    simp only [PyData.depth] at hd
    simp only [PyData.bulk] at hb
    refine ite2 (fun _ => ?_) (fun e => (e rfl).elim)
    refine ⟨_, rfl, _, "list", _, rfl, by decide, hx1, _, rfl, _, "list", _, rfl, by decide, hy1, rfl, _, rfl, iteNS rfl ?_⟩
    refine ⟨_, rfl, _, "tuple", _, rfl, by decide, hx1, _, rfl, _, "tuple", _, rfl, by decide, hy1, rfl, _, rfl, iteNS rfl ?_⟩
    refine ⟨_, rfl, a, xs, rfl, .inl ha, _, rfl, b, ys, rfl, .inl hb', rfl, _, rfl, ite2 (fun _ => ?_) (fun e => (e (decide_eq_true (by rw [lx, ly]))).elim)⟩
    refine ⟨_, rfl, _, rfl, a, b, xs, ys, rfl, .inl ⟨ha, hb', fun Dd nD => ?_⟩⟩
    have sD := same_new (o := .lst []) nD
    refine lc_it (walk_zip (xs := xs) (ys := ys) rfl) (fun i H3 => H3 Dd = some (.lst (List.replicate i (.bl true))) ∧ Same H1 H3) ⟨upd_same, sD⟩ (fun i H3 _ hP => ⟨hP.2.seq ha, hP.2.seq hb'⟩) (fun i v H3 H4 hi hP hy => ?_) (fun H3 hP => ?_)
    · obtain ⟨Tt, x1, x2, rfl, nT, rfl, e1, e2⟩ := hy
      obtain ⟨hD, sm⟩ := hP
      have hi2 : i < ds.length := by omega
      have sT := same_new (o := .tup [x1, x2]) nT
      obtain ⟨d1, g1, p1⟩ := dps_get' hxa (show xs[i]? = some x1 from e1)
      obtain ⟨d2, g2, p2⟩ := dps_get' hya (show ys[i]? = some x2 from e2)
      obtain rfl : d1 = d2 := Option.some.inj (g1.symm.trans g2)
      have hm : d1 ∈ ds := List.mem_of_getElem? g1
      have hdep := depth_mem hm
      have hbul := bulk_mem hm
      refine ⟨Tt, _, rfl, .inl (.inl upd_same), rfl, _, _, rfl, _, _, rfl, rfl, rfl, yesT ?_⟩
      refine ⟨_, rfl, _, rfl, x1, x2, d1, rfl, dp_up p1 (sm.trans sT), dp_up p2 (sm.trans sT), by omega, by omega, fun H5 s5 => ?_⟩
      refine ⟨_, s5 _ _ (sT _ _ hD), ?_, ?_, fun c o ec => ?_⟩
      · rw [List.length_replicate]
        have := bulk_len ds
        have := sizeLine_eq
        omega
      · rw [upd_same, List.replicate_succ']
      · rw [upd_ne (ne_of_none ec nD)]; exact s5 _ _ (sT _ _ (sm _ _ ec))
    · obtain ⟨hD, sm⟩ := hP
      refine ⟨Dd, List.replicate (min xs.length ys.length) true, rfl, SqL.of (by rw [List.map_replicate]; exact hD), ?_⟩
      rw [show (List.replicate (min xs.length ys.length) true).all id = true from by rw [List.all_eq_true]; intro z hz; rw [(List.mem_replicate.mp hz).2]; rfl]
      exact q _ (s1.trans sm)
  | tuple ds =>
    obtain ⟨a, xs, rfl, ha, hxa⟩ : ∃ a xs, x = .ref a ∧ SqT K H1 a xs ∧ DpAll K H1 xs ds := by cases hx1 with | tup h1 h2 => exact ⟨_, _, rfl, h1, h2⟩
    obtain ⟨b, ys, rfl, hb', hya⟩ : ∃ b ys, y = .ref b ∧ SqT K H1 b ys ∧ DpAll K H1 ys ds := by cases hy1 with | tup h1 h2 => exact ⟨_, _, rfl, h1, h2⟩
    have lx := dps_len hxa
    have ly := dps_len hya
    simp only [PyData.depth] at hd
    simp only [PyData.bulk] at hb
    refine ite2 (fun _ => ?_) (fun e => (e rfl).elim)
    refine ⟨_, rfl, _, "list", _, rfl, by decide, hx1, _, rfl, _, "list", _, rfl, by decide, hy1, rfl, _, rfl, iteNS rfl ?_⟩
    refine ⟨_, rfl, _, "tuple", _, rfl, by decide, hx1, _, rfl, _, "tuple", _, rfl, by decide, hy1, rfl, _, rfl, iteNS rfl ?_⟩
    refine ⟨_, rfl, a, xs, rfl, .inr ha, _, rfl, b, ys, rfl, .inr hb', rfl, _, rfl, ite2 (fun _ => ?_) (fun e => (e (decide_eq_true (by rw [lx, ly]))).elim)⟩
    refine ⟨_, rfl, _, rfl, a, b, xs, ys, rfl, .inr ⟨ha, hb', fun Dd nD => ?_⟩⟩
    have sD := same_new (o := .lst []) nD
    refine lc_it (walk_zipT (xs := xs) (ys := ys) rfl) (fun i H3 => H3 Dd = some (.lst (List.replicate i (.bl true))) ∧ Same H1 H3) ⟨upd_same, sD⟩ (fun i H3 _ hP => ⟨sqt_mono hP.2 ha, sqt_mono hP.2 hb'⟩) (fun i v H3 H4 hi hP hy => ?_) (fun H3 hP => ?_)
    · obtain ⟨Tt, x1, x2, rfl, nT, rfl, e1, e2⟩ := hy
      obtain ⟨hD, sm⟩ := hP
      have hi2 : i < ds.length := by omega
      have sT := same_new (o := .tup [x1, x2]) nT
      obtain ⟨d1, g1, p1⟩ := dps_get' hxa (show xs[i]? = some x1 from e1)
      obtain ⟨d2, g2, p2⟩ := dps_get' hya (show ys[i]? = some x2 from e2)
      obtain rfl : d1 = d2 := Option.some.inj (g1.symm.trans g2)
      have hm : d1 ∈ ds := List.mem_of_getElem? g1
      have hdep := depth_mem hm
      have hbul := bulk_mem hm
      refine ⟨Tt, _, rfl, .inl (.inl upd_same), rfl, _, _, rfl, _, _, rfl, rfl, rfl, yesT ?_⟩
      refine ⟨_, rfl, _, rfl, x1, x2, d1, rfl, dp_up p1 (sm.trans sT), dp_up p2 (sm.trans sT), by omega, by omega, fun H5 s5 => ?_⟩
      refine ⟨_, s5 _ _ (sT _ _ hD), ?_, ?_, fun c o ec => ?_⟩
      · rw [List.length_replicate]
        have := bulk_len ds
        have := sizeLine_eq
        omega
      · rw [upd_same, List.replicate_succ']
      · rw [upd_ne (ne_of_none ec nD)]; exact s5 _ _ (sT _ _ (sm _ _ ec))
    · obtain ⟨hD, sm⟩ := hP
      refine ⟨Dd, List.replicate (min xs.length ys.length) true, rfl, SqL.of (by rw [List.map_replicate]; exact hD), ?_⟩
      rw [show (List.replicate (min xs.length ys.length) true).all id = true from by rw [List.all_eq_true]; intro z hz; rw [(List.mem_replicate.mp hz).2]; rfl]
      exact q _ (s1.trans sm)
  | none =>
    cases hx1; cases hy1
    refine ite2 (fun e => nomatch e) (fun _ => ?_)
    refine ⟨_, rfl, _, rfl, ite2 (fun _ => ?_) (fun e => (e rfl).elim)⟩
    refine iteT ?_
    refine ⟨_, rfl, _, rfl, rfl, _, rfl, ite2 (fun _ => ?_) (fun e => (e (decide_eq_true rfl)).elim)⟩
    refine ⟨_, rfl, _, "bool", _, rfl, by decide, .non, _, rfl, _, "bool", _, rfl, by decide, .non, rfl, _, rfl, ite2 (fun _ => ?_) (fun e => (e (decide_eq_true rfl)).elim)⟩
    refine ⟨_, rfl, _, rfl, rfl, ?_⟩
    exact qT (decide_eq_true rfl) (q _ s1)
  | bool z =>
    cases hx1; cases hy1
    refine ite2 (fun e => nomatch e) (fun _ => ?_)
    refine ⟨_, rfl, _, rfl, ite2 (fun e => nomatch e) (fun _ => ?_)⟩
    refine ⟨_, rfl, by show 2 ≤ sizeLine; decide, fun t2 nt2 => ?_⟩
    have s2 := same_new (o := .tup [.ty "str", .ty "bool"]) nt2
    refine ⟨_, t2, "str", "bool", _, rfl, upd_same, by decide, by decide, .bl z, _, rfl, ?_⟩
    refine ite2 (fun _ => ?_) (fun e => (e rfl).elim)
    refine ⟨_, rfl, _, rfl, rfl, _, rfl, ite2 (fun _ => ?_) (fun e => (e (decide_eq_true rfl)).elim)⟩
    refine ⟨_, rfl, _, "bool", _, rfl, by decide, .bl z, _, rfl, _, "bool", _, rfl, by decide, .bl z, rfl, _, rfl, ite2 (fun _ => ?_) (fun e => (e (decide_eq_true rfl)).elim)⟩
    refine ⟨_, rfl, _, rfl, rfl, ?_⟩
    exact qT (decide_eq_true rfl) (q _ (s1.trans s2))
  | str z =>
    cases hx1; cases hy1
    refine ite2 (fun e => nomatch e) (fun _ => ?_)
    refine ⟨_, rfl, _, rfl, ite2 (fun e => nomatch e) (fun _ => ?_)⟩
    refine ⟨_, rfl, by show 2 ≤ sizeLine; decide, fun t2 nt2 => ?_⟩
    have s2 := same_new (o := .tup [.ty "str", .ty "bool"]) nt2
    refine ⟨_, t2, "str", "bool", _, rfl, upd_same, by decide, by decide, .str z, _, rfl, ?_⟩
    refine ite2 (fun _ => ?_) (fun e => (e rfl).elim)
    refine ⟨_, rfl, _, rfl, rfl, _, rfl, ite2 (fun _ => ?_) (fun e => (e (decide_eq_true rfl)).elim)⟩
    refine ⟨_, rfl, _, "bool", _, rfl, by decide, .str z, _, rfl, _, "bool", _, rfl, by decide, .str z, rfl, _, rfl, ite2 (fun _ => ?_) (fun e => (e (decide_eq_true rfl)).elim)⟩
    refine ⟨_, rfl, _, rfl, rfl, ?_⟩
    exact qT (decide_eq_true rfl) (q _ (s1.trans s2))
  | int z =>
    cases hx1; cases hy1
    refine ite2 (fun e => nomatch e) (fun _ => ?_)
    refine ⟨_, rfl, _, rfl, ite2 (fun e => nomatch e) (fun _ => ?_)⟩
    refine ⟨_, rfl, by show 2 ≤ sizeLine; decide, fun t2 nt2 => ?_⟩
    have s2 := same_new (o := .tup [.ty "str", .ty "bool"]) nt2
    refine ⟨_, t2, "str", "bool", _, rfl, upd_same, by decide, by decide, .int z, _, rfl, ?_⟩
    refine ite2 (fun e => nomatch e) (fun _ => ?_)
    refine ⟨_, rfl, _, "int", _, rfl, by decide, .int z, _, rfl, ite2 (fun _ => ?_) (fun e => (e rfl).elim)⟩
    refine ⟨_, rfl, _, "bool", _, rfl, by decide, .int z, _, rfl, _, rfl, ite2 (fun _ => ?_) (fun e => (e rfl).elim)⟩
    refine ⟨_, rfl, _, rfl, rfl, ?_⟩
    exact qT (decide_eq_true rfl) (q _ (s1.trans s2))
  | dict kvs => cases hx1
theorem ok_same {f : Addr} {fd : FuncData} (T : Bl mg) (D : Df K mg "_law_same" sLawSame ["_law_found", "_law_due"] f fd) : ∀ n : Nat, FnOk P w K mg base CX0 n f fd ["_law_found", "_law_due"] (spSame K n)
  | 0 => ⟨fun vs H Q E h => by obtain ⟨_, _, _, _, _, _, z, _⟩ := h; omega, fun A fr s H ar us vs Q E _ _ _ _ h => by obtain ⟨_, _, _, _, _, _, z, _⟩ := h; omega⟩
  | n + 1 => ok_same1 T D (ok_same T D n)
end
end Af
namespace Af
open PySem PySem.Spec PyProof.Rows L2
section
variable {P : Program} {w : World} {K : PySem.W.Frag} {mg : Str → Option Value} {base : Heap}
/-! _law_lists -/
def spLists (K : PySem.W.Frag) (n : Nat) : Sp := fun vs H Q _ => ∃ (x : V) (d : PyData), vs = [x] ∧ Dp K H x d ∧ d.depth < n ∧ d.bulk ≤ 1000000 ∧ ∀ (r : V) (H' : Hp), Same H H' → NewD K H H' r (lsD d) → Q r H'
theorem ok_lists1 {f : Addr} {fd : FuncData} {n : Nat} (T : Bl mg) (D : Df K mg "_law_lists" sLawLists ["_law_matter"] f fd) (G : FnOk P w K mg base CX0 n f fd ["_law_matter"] (spLists K n)) :
    FnOk P w K mg base CX0 (n + 1) f fd ["_law_matter"] (spLists K (n + 1)) := by
  refine D.F.ok scLawLists (fun vs H Q E h => ?_) (fun cdv A outer s H vs Q E hr h => ?_)
  · obtain ⟨_, _, rfl, _⟩ := h; rfl
  obtain ⟨x, d, rfl, hx, hd, hb, q⟩ := h
  have nd := scLawLists.nd
  refine ⟨_, pss_one (ps_ret (pe_ifExp (pt_val (pe_callB call_isD2 rfl T.isi bIsi (pa_cons (pv 0) (pa_cons (pe_tup (pa_cons (pe_bltn (v := .ty "list") rfl T.list bList rfl) (pa_cons (pe_bltn (v := .ty "tuple") rfl T.tuple bTuple rfl) pa_nil))) pa_nil))))
    (pe_lc (own := [("_law_bit", 1)]) (g := gName 1) (tt := tYes) rfl nd (pi_seq (pv 0)) (blkOk_by (N := ["_law_matter", "_law_bit"]) (sc := defScope sLawLists) (by decide +kernel))
      (fun _ _ _ _ _ => pg_name (i := 1) nd rfl (.inl rfl)) (fun _ _ _ _ _ => pts_nil) (fun _ _ _ _ _ => pe_do D G hr rfl (pa_cons (pv 1) pa_nil)))
    (pv 0))), ?_⟩
  refine ⟨_, rfl, by show 2 ≤ sizeLine; decide, fun tp ntp => ?_⟩
  have s1 := same_new (o := .tup [.ty "list", .ty "tuple"]) ntp
  refine ⟨_, tp, "list", "tuple", d, rfl, upd_same, by decide, by decide, dp_up hx s1, _, rfl, ?_⟩
  generalize hH1 : upd H tp (.tup [.ty "list", .ty "tuple"]) = H1
  rw [hH1] at s1
  have hx1 := dp_up hx s1
  have seq : ∀ ds, SeqD d ds → lsD d = .list (lsDs ds) → tLc (iSeq K (tVar 0)) (gName 1) tYes (tCall (spLists K n) [] E0 (tCons (tVar 1) tNil)) [1] [some x, none] H1 Q := by
    intro ds hs el
    obtain ⟨a, xs, rfl, ha, hxa⟩ := dp_seq hx1 hs
    obtain ⟨bb, hbb⟩ := ha.kind
    have lx := dps_len hxa
    have dd : PyData.depthAll ds < n ∧ PyData.bulkAll ds ≤ 1000000 := by
      cases hs <;> simp only [PyData.depth, PyData.bulk] at hd hb <;> exact ⟨by omega, hb⟩
    refine ⟨_, rfl, a, xs, bb, rfl, hbb, fun J wJ => fun Dd nD => ?_⟩
    have sD := same_new (o := .lst []) nD
    have nDH : H Dd = none := s1.free nD
    refine lc_it wJ (fun i H3 => ∃ vs, H3 Dd = some (.lst vs) ∧ DpAll K (hid (fresh H H3) Dd) vs ((lsDs ds).take i) ∧ Same H1 H3) ⟨[], upd_same, by rw [List.take_zero]; exact .nil, sD⟩ (fun i H3 _ hP => ?_) (fun i v H3 H4 hi hP hy => ?_) (fun H3 hP => ?_)
    · obtain ⟨_, _, _, sm⟩ := hP
      exact hbb.up sm
    · obtain ⟨rfl, e1⟩ := hy
      obtain ⟨vs, hD, hN, sm⟩ := hP
      obtain ⟨d1, g1, p1⟩ := dps_get' hxa e1
      have hm : d1 ∈ ds := List.mem_of_getElem? g1
      have h1 := depth_mem hm
      have h2 := bulk_mem hm
      have h3 := bulk_len ds
      have h4 := dps_len hN
      refine ⟨rfl, yesT ?_⟩
      refine ⟨_, rfl, v, d1, rfl, dp_up p1 sm, by omega, by omega, fun r H5 s5 hr5 => ?_⟩
      have s35 : Same H1 H5 := sm.trans s5
      have sU : Same H1 (upd H5 Dd (.lst (vs ++ [r]))) := fun c o ec => by
        rw [upd_ne (ne_of_none ec nD)]; exact s35 _ _ ec
      refine ⟨_, s5 _ _ hD, ?_, vs ++ [r], upd_same, ?_, sU⟩
      · rw [h4, List.length_take]
        have := sizeLine_eq
        omega
      · rw [lsDs_take ds i d1 g1]
        exact acc_step hN (by rw [hD]; exact fun z => nomatch z) (s1.trans sm) s5 hr5
    · obtain ⟨vs, hD, hN, sm⟩ := hP
      rw [lx, ← lsDs_len ds, List.take_length] at hN
      exact q _ _ (s1.trans sm) (by rw [el]; exact new_lst nDH hD (acc_done hN))
  cases d with
  | list ds => exact ite2 (fun _ => seq ds (.l ds) (by simp only [lsD])) (fun e => (e rfl).elim)
  | tuple ds => exact ite2 (fun _ => seq ds (.t ds) (by simp only [lsD])) (fun e => (e rfl).elim)
  | none => cases hx; exact ite2 (fun e => nomatch e) (fun _ => ⟨_, rfl, q _ _ s1 .non⟩)
  | bool b => cases hx; exact ite2 (fun e => nomatch e) (fun _ => ⟨_, rfl, q _ _ s1 (.bl b)⟩)
  | str z => cases hx; exact ite2 (fun e => nomatch e) (fun _ => ⟨_, rfl, q _ _ s1 (.str z)⟩)
  | int i => cases hx; exact ite2 (fun e => nomatch e) (fun _ => ⟨_, rfl, q _ _ s1 (.int i)⟩)
  | dict kvs => cases hx
theorem ok_lists {f : Addr} {fd : FuncData} (T : Bl mg) (D : Df K mg "_law_lists" sLawLists ["_law_matter"] f fd) : ∀ n : Nat, FnOk P w K mg base CX0 n f fd ["_law_matter"] (spLists K n)
  | 0 => ⟨fun vs H Q E h => by obtain ⟨_, _, _, _, z, _⟩ := h; omega, fun A fr s H ar us vs Q E _ _ _ _ h => by obtain ⟨_, _, _, _, z, _⟩ := h; omega⟩
  | n + 1 => ok_lists1 T D (ok_lists T D n)
end
end Af
namespace Af
open PySem PySem.Spec PyProof.Rows L2
section
variable {P : Program} {w : World} {K : PySem.W.Frag} {mg : Str → Option Value} {base : Heap}
/-! lengths -/
def spLengths (K : PySem.W.Frag) : Sp := fun vs H Q _ => ∃ (b r : V) (bd rd : PyData) (B : List (List Int)) (R L : List Int), vs = [b, r] ∧ Dp K H b bd ∧ BookD bd B ∧ Dp K H r rd ∧ RowD rd R ∧ B.length ≤ 1000 ∧ L.length = B.length ∧
  (∀ c n, L[c]? = some n → lenAt B R c = some n) ∧ ∀ (p : Addr) (H' : Hp), H p = none → Same H H' → H' p = some (.tup (L.map V.int)) → Q (.ref p) H'
theorem ok_lengths {f fL : Addr} {fd fdL : FuncData} {k : Nat} (T : Bl mg) (F : Fun K "lengths" "lengths" sLengths f fd) (DL : Df K mg "length_of" sLengthOf ["book", "rungs", "climber"] fL fdL)
    (GL : FnOk P w K mg base CX0 k fL fdL ["book", "rungs", "climber"] (spLengthOf K)) : FnOk P w K mg base CX0 (k + 1) f fd ["book", "standing"] (spLengths K) := by
  refine F.ok scLengths (fun vs H Q E h => ?_) (fun cdv A outer s H vs Q E hr h => ?_)
  · obtain ⟨_, _, _, _, _, _, _, rfl, _⟩ := h; rfl
  obtain ⟨b, r, bd, rd, B, R, L, rfl, hb, hB, hr', hR, hlen, hL, hl, q⟩ := h
  have nd := scLengths.nd
  refine ⟨_, pss_one (ps_ret (pe_callTy call_tuple_of rfl T.tuple bTuple (pa_cons
    (pe_lc (own := [("climber", 2)]) (g := gName 2) (tt := tYes) rfl nd (pi_range1 rfl T.range (pa_cons (pe_callB call_len_seq rfl T.len bLen (pa_cons (pv 0) pa_nil)) pa_nil))
      (blkOk_by (N := ["book", "standing", "climber"]) (sc := defScope sLengths) (by decide +kernel))
      (fun _ _ _ _ _ => pg_name (i := 2) nd rfl (.inl rfl)) (fun _ _ _ _ _ => pts_nil) (fun _ _ _ _ _ => pe_do DL GL hr rfl (pa_cons (pv 0) (pa_cons (pv 1) (pa_cons (pv 2) pa_nil))))) pa_nil))), ?_⟩
  obtain ⟨a, xs, rfl, ha, hxl⟩ := book_len hb hB
  refine ⟨_, rfl, a, xs, rfl, ha, _, rfl, by omega, by omega, fun D nD => ?_⟩
  have sD := same_new (o := .lst []) nD
  have en : ((xs.length : Nat) : Int).toNat = B.length := by omega
  rw [en]
  refine lc_range (lo := 0) (n := B.length) (fun i H3 => H3 D = some (.lst ((L.take i).map V.int)) ∧ Same H H3) ⟨upd_same, sD⟩ (fun i H3 hi hP => ?_) (fun H3 hP => ?_)
  · obtain ⟨hD, sm⟩ := hP
    have hiL : i < L.length := by omega
    have e1 : L[i]? = some L[i] := List.getElem?_eq_getElem hiL
    refine ⟨rfl, yesT ?_⟩
    refine ⟨_, rfl, _, rfl, _, rfl, _, _, i, bd, rd, B, R, _, ?_, dp_up hb sm, hB, dp_up hr' sm, hR, hl i _ e1, ?_⟩
    · show [V.ref a, r, V.int (0 + (i : Int))] = _
      rw [Int.zero_add]
    · refine ⟨_, hD, ?_, ?_, fun c o ec => ?_⟩
      · rw [List.length_map, List.length_take]
        exact small1000 (by omega)
      · rw [upd_same, List.take_add_one, e1, List.map_append]; rfl
      · rw [upd_ne (ne_of_none ec nD)]; exact sm _ _ ec
  · obtain ⟨hD, sm⟩ := hP
    rw [← hL, List.take_length] at hD
    refine ⟨D, _, rfl, .inl ⟨SqL.of hD, fun p np => ?_⟩⟩
    exact q p _ (sm.free np) (sm.trans (same_new np)) upd_same
end
end Af
namespace Af
open PySem PySem.Spec PyProof.Rows L2
section
variable {P : Program} {w : World} {K : PySem.W.Frag} {mg : Str → Option Value} {base : Heap}
/-! end_rung -/
def spEnd : Sp := fun vs H Q _ => ∃ l f : Int, vs = [.int l, .int f] ∧ Q (.int (endR l f)) H
theorem ok_end {f : Addr} {fd : FuncData} {k : Nat} (F : Fun K "end_rung" "end_rung" sEndRung f fd) : FnOk P w K mg base CX0 (k + 1) f fd ["length", "face"] spEnd := by
  refine F.ok scEndRung (fun vs H Q E h => ?_) (fun cdv A outer s H vs Q E hr h => ?_)
  · obtain ⟨_, _, rfl, _⟩ := h; rfl
  obtain ⟨l, fc, rfl, q⟩ := h
  refine ⟨_, pss_one (ps_ret (pe_ifExp (pt_cmpR op_eq (pv 1) pe_int (nomark _)) (pv 0) pe_int)), ?_⟩
  refine ⟨_, rfl, rfl, _, rfl, ?_⟩
  refine ite2 (fun e => ?_) (fun e => ?_)
  · have e1 : fc = 1 := V.int.inj (of_decide_eq_true e)
    refine ⟨_, rfl, ?_⟩
    unfold endR at q
    rw [if_pos e1] at q; exact q
  · have e1 : ¬ fc = 1 := fun z => e (decide_eq_true (by rw [z]))
    unfold endR at q
    rw [if_neg e1] at q; exact q
/-! blocked -/
def spBlocked (K : PySem.W.Frag) : Sp := fun vs H Q _ => ∃ (b st : V) (bd sd : PyData) (B : List (List Int)) (R F : List Int), vs = [b, st] ∧ Dp K H b bd ∧ BookD bd B ∧ Dp K H st sd ∧ StateD sd R F ∧ B.length ≤ 1000 ∧ Stands B R ∧ F.length = B.length ∧
  ∀ (p : Addr) (H' : Hp), H p = none → Same H H' → H' p = some (.lst ((castL (blockedN B R F B.length)).map V.int)) → Q (.ref p) H'
theorem lens_of {B : List (List Int)} {R : List Int} (S : Stands B R) : ∀ c n, (lensL B R)[c]? = some n → lenAt B R c = some n := fun c n e => by
  have hc : c < B.length := by rw [← lensL_len B R]; exact (List.getElem?_eq_some_iff.mp e).1
  rw [lensL_get hc] at e
  rw [stand_len S hc]; exact e
theorem ok_blocked {f fL fE : Addr} {fd fdL fdE : FuncData} {k : Nat} (T : Bl mg) (F : Fun K "blocked" "blocked" sBlocked f fd)
    (DL : Df K mg "lengths" sLengths ["book", "standing"] fL fdL) (GL : FnOk P w K mg base CX0 k fL fdL ["book", "standing"] (spLengths K))
    (DE : Df K mg "end_rung" sEndRung ["length", "face"] fE fdE) (GE : FnOk P w K mg base CX0 k fE fdE ["length", "face"] spEnd) :
    FnOk P w K mg base CX0 (k + 1) f fd ["book", "state"] (spBlocked K) := by
  refine F.ok scBlocked (fun vs H Q E h => ?_) (fun cdv A outer s H vs Q E hr h => ?_)
  · obtain ⟨_, _, _, _, _, _, _, rfl, _⟩ := h; rfl
  obtain ⟨b, st, bd, sd, B, R, Fc, rfl, hb, hB, hst, hSt, hlen, hS, hF, q⟩ := h
  have nd := scBlocked.nd
  refine ⟨_, pss_cons (ps_asg (pv 1) (pg_seq rfl (pgs_cons (pg_name (i := 2) nd rfl (.inr rfl)) (pgs_cons (pg_name (i := 3) nd rfl (.inr rfl)) pgs_nil))))
    (pss_cons (ps_set (i := 4) nd rfl (.inr rfl) (pe_do DL GL hr rfl (pa_cons (pv 0) (pa_cons (pv 2) pa_nil))))
    (pss_one (ps_ret (pe_lc (own := [("climber", 5)]) (g := gName 5)
      (tt := tTest (tOp rEq (tOp (rIx K) (tVar 2) (tVar 5)) (tCall spEnd [] E0 (tCons (tOp (rIx K) (tVar 4) (tVar 5)) (tCons (tOp (rIx K) (tVar 3) (tVar 5)) tNil))))) rfl nd
      (pi_range1 rfl T.range (pa_cons (pe_callB call_len_seq rfl T.len bLen (pa_cons (pv 0) pa_nil)) pa_nil))
      (blkOk_by (N := ["book", "state", "standing", "faces", "ladders", "climber"]) (sc := defScope sBlocked) (by decide +kernel))
      (fun _ _ _ _ _ => pg_name (i := 5) nd rfl (.inl rfl))
      (fun _ _ _ _ _ => pts_one (pt_cmpR op_eq (pe_ix ix_seq (pv 2) (pv 5) (fun _ _ => rfl)) (pe_do DE GE hr rfl (pa_cons (pe_ix ix_seq (pv 4) (pv 5) (fun _ _ => rfl)) (pa_cons (pe_ix ix_seq (pv 3) (pv 5) (fun _ _ => rfl)) pa_nil))) (nomark _)))
      (fun _ _ _ _ _ => pv 5))))), ?_⟩
  obtain ⟨a, r, fc, rd, fcd, rfl, hq, hr', hR, hf', hFd⟩ := state_at hst hSt
  refine ⟨_, rfl, a, _, rfl, hq, rfl, _, _, rfl, _, _, rfl, rfl, ?_⟩
  refine ⟨_, rfl, _, rfl, _, _, bd, rd, B, R, lensL B R, rfl, hb, hB, hr', hR, hlen, lensL_len B R, lens_of hS, fun lp H1 nlp s1 elp => ?_⟩
  obtain ⟨ba, xs, rfl, hba, hxl⟩ := book_len (dp_up hb s1) hB
  refine ⟨_, rfl, ba, xs, rfl, hba, _, rfl, by omega, by omega, fun D nD => ?_⟩
  have sD := same_new (o := .lst []) nD
  have en : ((xs.length : Nat) : Int).toNat = B.length := by omega
  rw [en]
  obtain ⟨ra, rfl, hra⟩ := row_at hr' hR
  obtain ⟨fa, rfl, hfa⟩ := row_at hf' hFd
  refine lc_range (lo := 0) (n := B.length) (fun i H3 => H3 D = some (.lst ((castL (blockedN B R Fc i)).map V.int)) ∧ Same H1 H3) ⟨upd_same, sD⟩ (fun i H3 hi hP => ?_) (fun H3 hP => ?_)
  · obtain ⟨hD, sm⟩ := hP
    obtain ⟨n, rr, e1, e2, _, _⟩ := hS.all i hi
    have hiF : i < Fc.length := by omega
    have e3 : Fc[i]? = some Fc[i] := List.getElem?_eq_getElem hiF
    have hL : (lensL B R)[i]? = some n := by rw [lensL_get hi, e1]; rfl
    have ei : (0 : Int) + (i : Int) = (i : Nat) := Int.zero_add _
    refine ⟨rfl, ?_⟩
    rw [ei]
    refine ⟨_, rfl, _, rfl, ix_of (sq_mono (s1.trans sm) hra) (atI_nat (j := i) (by rw [List.getElem?_map, e2]; rfl)) ?_⟩
    refine ⟨_, rfl, _, rfl, ix_of (xs := (lensL B R).map V.int) (.inr (.inl (.inl (sm _ _ elp)))) (atI_nat (j := i) (by rw [List.getElem?_map, hL]; rfl)) ?_⟩
    refine ⟨_, rfl, _, rfl, ix_of (sq_mono (s1.trans sm) hfa) (atI_nat (j := i) (by rw [List.getElem?_map, e3]; rfl)) ?_⟩
    refine ⟨_, _, rfl, rfl, _, rfl, ?_⟩
    have eb : isBl B R Fc i = decide (V.int rr = V.int (endR n Fc[i])) := by
      unfold isBl
      rw [e2, e1, e3, Bool.eq_iff_iff, decide_eq_true_iff, decide_eq_true_iff]
      show rr = endR n Fc[i] ↔ _
      exact ⟨fun z => by rw [z], fun z => V.int.inj z⟩
    rw [← eb]
    refine ite2 (fun c => ?_) (fun c => ?_)
    · refine ⟨_, rfl, _, hD, ?_, ?_, fun c o ec => ?_⟩
      · rw [List.length_map, castL_len]
        exact small1000 (by have := blockedN_len B R Fc i; omega)
      · rw [upd_same, blockedN_succ, if_pos c, castL_app, List.map_append]; rfl
      · rw [upd_ne (ne_of_none ec nD)]; exact sm _ _ ec
    · refine ⟨?_, sm⟩
      rw [hD, blockedN_succ, if_neg c, List.append_nil]
  · obtain ⟨hD, sm⟩ := hP
    exact q D H3 (s1.free nD) (s1.trans sm) hD
/-! mover -/
def spMover (K : PySem.W.Frag) : Sp := fun vs H Q _ => ∃ (b st : V) (bd sd : PyData) (B : List (List Int)) (R F : List Int), vs = [b, st] ∧ Dp K H b bd ∧ BookD bd B ∧ Dp K H st sd ∧ StateD sd R F ∧ B.length ≤ 1000 ∧ Stands B R ∧ F.length = B.length ∧
  ∀ H', Same H H' → Q (movV (moverO B R F)) H'
theorem ok_mover {f fB : Addr} {fd fdB : FuncData} {k : Nat} (T : Bl mg) (F : Fun K "mover" "mover" sMover f fd)
    (DB : Df K mg "blocked" sBlocked ["book", "state"] fB fdB) (GB : FnOk P w K mg base CX0 k fB fdB ["book", "state"] (spBlocked K)) :
    FnOk P w K mg base CX0 (k + 1) f fd ["book", "state"] (spMover K) := by
  refine F.ok scMover (fun vs H Q E h => ?_) (fun cdv A outer s H vs Q E hr h => ?_)
  · obtain ⟨_, _, _, _, _, _, _, rfl, _⟩ := h; rfl
  obtain ⟨b, st, bd, sd, B, R, Fc, rfl, hb, hB, hst, hSt, hlen, hS, hF, q⟩ := h
  have nd := scMover.nd
  refine ⟨_, pss_cons (ps_set (i := 2) nd rfl (.inr rfl) (pe_do DB GB hr rfl (pa_cons (pv 0) (pa_cons (pv 1) pa_nil))))
    (pss_cons (ps_setLc (i := 3) (own := [("climber", 4)]) (g := gName 4) (tt := tTest (tOp (rIn K true) (tVar 4) (tVar 2))) rfl nd rfl rfl (sw_true rfl rfl rfl (by decide +kernel))
      (pi_range1 rfl T.range (pa_cons (pe_callB call_len_seq rfl T.len bLen (pa_cons (pv 0) pa_nil)) pa_nil))
      (blkOk_by (N := ["book", "state", "stuck", "free", "climber"]) (sc := defScope sMover) (by decide +kernel))
      (fun _ _ _ _ _ => pg_name (i := 4) nd rfl (.inl rfl))
      (fun _ _ _ _ _ => pts_one (pt_cmpR op_notIn_seq (pv 4) (pv 2) rfl))
      (fun _ _ _ _ _ => pv 4))
    (pss_one (ps_ret (pe_ifExp (pt_cmpR op_gt (pe_callB call_len_seq rfl T.len bLen (pa_cons (pv 3) pa_nil)) pe_int (nomark _)) (pe_ix ix_list (pv 3) (pe_un un_neg pe_int) (fun _ _ => rfl)) pe_non)))), ?_⟩
  refine ⟨_, rfl, _, rfl, b, st, bd, sd, B, R, Fc, rfl, hb, hB, hst, hSt, hlen, hS, hF, fun sp H1 nsp s1 esp => ?_⟩
  obtain ⟨ba, xs, rfl, hba, hxl⟩ := book_len (dp_up hb s1) hB
  refine ⟨_, rfl, ba, xs, rfl, hba, _, rfl, by omega, by omega, fun D nD => ?_⟩
  have sD := same_new (o := .lst []) nD
  have en : ((xs.length : Nat) : Int).toNat = B.length := by omega
  rw [en]
  refine lc_range (lo := 0) (n := B.length) (fun i H3 => H3 D = some (.lst ((castL (freeN B R Fc i)).map V.int)) ∧ Same H1 H3) ⟨upd_same, sD⟩ (fun i H3 hi hP => ?_) (fun H3 hP => ?_)
  · obtain ⟨hD, sm⟩ := hP
    have ei : (0 : Int) + (i : Int) = (i : Nat) := Int.zero_add _
    refine ⟨rfl, ?_⟩
    rw [ei]
    refine ⟨_, rfl, _, rfl, sp, _, rfl, .inl (SqL.of (sm _ _ esp)), rfl, flat_cast _, _, rfl, ?_⟩
    rw [inV_cast, in_blocked hi]
    show if (!isBl B R Fc i) = true then _ else _
    cases hb' : isBl B R Fc i with
    | true =>
      refine iteF ⟨?_, sm⟩
      rw [hD, freeN_succ, if_pos hb', List.append_nil]
    | false =>
      refine iteT ⟨_, rfl, _, hD, ?_, ?_, fun c o ec => ?_⟩
      · rw [List.length_map, castL_len]
        exact small1000 (by have := freeN_len B R Fc i; omega)
      · rw [upd_same, freeN_succ, if_neg (by rw [hb']; exact Bool.false_ne_true), castL_app, List.map_append]; rfl
      · rw [upd_ne (ne_of_none ec nD)]; exact sm _ _ ec
  · obtain ⟨hD, sm⟩ := hP
    refine ⟨_, rfl, D, _, rfl, .inl (SqL.of hD), _, _, rfl, rfl, _, rfl, ?_⟩
    have hmo : moverO B R Fc = (freeN B R Fc B.length).getLast? := rfl
    generalize freeN B R Fc B.length = fr at hD hmo
    rcases List.eq_nil_or_concat fr with rfl | ⟨fr0, l, rfl⟩
    · refine iteF ?_
      have z := q H3 (s1.trans sm)
      rw [hmo] at z; exact z
    · have z := q H3 (s1.trans sm)
      rw [hmo, List.concat_eq_append, List.getLast?_append] at z
      refine ite2 (fun _ => ?_) (fun c => ?_)
      · rw [List.concat_eq_append, castL_app, List.map_append] at hD
        exact ⟨_, rfl, 1, rfl, D, _, -1, _, rfl, rfl, SqL.of hD, atI_last _ _, z⟩
      · exact (c (decide_eq_true (by rw [List.length_map, castL_len, List.concat_eq_append, List.length_append]; simp))).elim
end
end Af
namespace Af
open PySem PySem.Spec PyProof.Rows L2
section
variable {P : Program} {w : World} {K : PySem.W.Frag} {mg : Str → Option Value} {base : Heap}
/-! _law_random_standing -/
def spRStand (K : PySem.W.Frag) : Sp := fun vs H Q _ => ∃ (bx : Addr) (sh : V) (B : List (List Int)) (hi : Int) (m : Nat), vs = [.ref bx, sh] ∧ Box H bx m ∧ m ≤ 500000000 ∧ Dp K (hid H bx) sh (bookT B) ∧ GoodB B hi ∧ hi ≤ 1000 ∧ B.length ≤ 1000 ∧
  ∀ (p : Addr) (H' : Hp) (R : List Int), Stands B R → Box H' bx (m + B.length) → Same (hid H bx) (hid H' bx) → H p = none → H' p = some (.tup (R.map V.int)) → Q (.ref p) H'
theorem ok_rstand {f fT fL : Addr} {fd fdT fdL : FuncData} {k : Nat} (T : Bl mg) (F : Fun K "_law_random_standing" "_law_random_standing" sLawRandomStanding f fd)
    (DT : Df K mg "_law_take" sLawTake ["_law_box_here", "_law_span"] fT fdT) (GT : FnOk P w K mg base CX0 k fT fdT ["_law_box_here", "_law_span"] spTake)
    (DL : Df K mg "_law_ladder" sLawLadder ["_law_shelf", "_law_rungs", "_law_who"] fL fdL) (GL : FnOk P w K mg base CX0 k fL fdL ["_law_shelf", "_law_rungs", "_law_who"] (spLengthOf K)) :
    FnOk P w K mg base CX0 (k + 1) f fd ["_law_box_here", "_law_shelf"] (spRStand K) := by
  refine F.ok scLawRandomStanding (fun vs H Q E h => ?_) (fun cdv A outer s H vs Q E hr h => ?_)
  · obtain ⟨_, _, _, _, _, rfl, _⟩ := h; rfl
  obtain ⟨bx, sh, B, hi, m, rfl, hbox, hm, hsh, hG, hhi, hlen, q⟩ := h
  have nd := scLawRandomStanding.nd
  refine ⟨_, pss_cons (ps_set (i := 2) nd rfl (.inl rfl) (pe_lst pa_nil))
    (pss_cons (ps_for PassesOwn.never rfl (pi_range1 rfl T.range (pa_cons (pe_callB call_len_seq rfl T.len bLen (pa_cons (pv 1) pa_nil)) pa_nil)) (pg_name (i := 3) nd rfl (.inl rfl))
      (pss_one (ps_expr (pe_bm PySem.F.plainAttrs_list PySem.F.slot_list_append PySem.F.type_list_append mt_append (pv 2) (pa_cons (pe_op op_add pe_int (pe_do DT GT hr rfl (pa_cons (pv 0) (pa_cons (pe_do DL GL hr rfl (pa_cons (pv 1) (pa_cons (pv 2) (pa_cons (pv 3) pa_nil)))) pa_nil)))) pa_nil)))))
    (pss_one (ps_ret (pe_callTy call_tuple_of rfl T.tuple bTuple (pa_cons (pv 2) pa_nil))))), ?_⟩
  refine ⟨by show 0 ≤ sizeLine; decide, fun fo nf => ?_⟩
  have s1 := same_new (o := .lst []) nf
  have nfb : fo ≠ bx := hbox.ne nf
  obtain ⟨a, xs, rfl, ha, hxl⟩ := book_len (dp_up hsh (hid_le.trans s1)) (bookT_book B)
  refine ⟨_, rfl, a, xs, rfl, ha, _, rfl, by omega, by omega, ?_⟩
  have en : ((xs.length : Nat) : Int).toNat = B.length := by omega
  rw [en]
  refine for_range (lo := 0) (n := B.length) (fun i σ H3 => ∃ (y3 : Option V) (R : List Int), σ = [some (.ref bx), some (.ref a), some (.ref fo), y3] ∧ R.length = i ∧ StandsTo B R i ∧ H3 fo = some (.lst (R.map V.int)) ∧ Box H3 bx (m + i) ∧ Same (hid H bx) (hid H3 bx))
    ⟨none, [], rfl, rfl, fun c hc => absurd hc (Nat.not_lt_zero c), upd_same, hbox.new nf, hid_mono s1⟩ (fun i σ H3 hi3 hP => ?_) (fun σ H3 hP => ?_)
  · obtain ⟨y3, R, rfl, hRl, hS, hfo, hB3, sm⟩ := hP
    subst hRl
    obtain ⟨n, en1, en2, en3⟩ := len_ex hG hi3 hS
    have hbook : Dp K H3 (.ref a) (bookT B) := dp_up hsh (sm.trans hid_le)
    refine ⟨_, rfl, .inl ⟨rfl, _, SqL.of hfo⟩, ?_⟩
    refine ⟨_, rfl, _, rfl, _, rfl, _, rfl, _, _, R.length, bookT B, rowL R, B, R, n, ?_, hbook, bookT_book B, dp_lst_ints hfo, rowL_row R, en1, ?_⟩
    · show [V.ref a, V.ref fo, V.int (0 + (R.length : Int))] = _
      rw [Int.zero_add]
    refine ⟨bx, n, m + R.length, rfl, hB3, by omega, en2, by omega, fun r H5 r0 r1 hB5 hh5 => ?_⟩
    have hfo5 : H5 fo = some (.lst (R.map V.int)) := by rw [hid_eq hh5 nfb]; exact hfo
    refine ⟨_, _, rfl, rfl, fo, _, _, rfl, rfl, hfo5, ?_, _, R ++ [1 + r], rfl, by simp, stands_snoc hS en1 (by omega) (by omega), ?_, ?_, ?_⟩
    · rw [List.length_map]; exact small1000 (by omega)
    · rw [upd_same, List.map_append]; rfl
    · obtain ⟨x1, x2, x3, g1, g2⟩ := hB5
      exact ⟨x1, x2, x3, by rw [upd_ne nfb.symm]; exact g1, g2⟩
    · intro c o ec
      have nc : c ≠ bx := (hid_some ec).1
      have ncf : c ≠ fo := ne_of_none (hid_some ec).2 nf
      rw [hid_ne nc, upd_ne ncf, hid_eq hh5 nc]
      have := sm _ _ ec
      rwa [hid_ne nc] at this
  · obtain ⟨y3, R, rfl, hRl, hS, hfo, hB3, sm⟩ := hP
    refine ⟨_, rfl, fo, _, rfl, .inl ⟨SqL.of hfo, fun p np => ?_⟩⟩
    have npb : p ≠ bx := hB3.ne np
    have nph : H p = none := by
      cases e : H p with
      | none => rfl
      | some o =>
        have z := sm p o (by rw [hid_ne npb]; exact e)
        rw [hid_ne npb, np] at z; cases z
    exact q p _ R ⟨hRl, hS⟩ (hB3.new np) (sm.trans (hid_mono (same_new np))) nph upd_same
end
end Af
namespace Af
open PySem PySem.Spec PyProof.Rows L2
section
variable {P : Program} {w : World} {K : PySem.W.Frag} {mg : Str → Option Value} {base : Heap}
/-! _law_random_book -/
def spRBook (K : PySem.W.Frag) : Sp := fun vs H Q _ => ∃ (bx : Addr) (most high : Nat) (m : Nat), vs = [.ref bx, .int most, .int high] ∧ Box H bx m ∧ m ≤ 500000000 ∧ 1 ≤ most ∧ most ≤ 100 ∧ 1 ≤ high ∧ high ≤ 100 ∧
  ∀ (p : Addr) (H' : Hp) (B : List (List Int)), GoodB B high → B.length ≤ most → 1 ≤ B.length → Box H' bx (m + 20000) → Same (hid H bx) (hid H' bx) → Dp K (hid H' bx) (.ref p) (bookT B) → Q (.ref p) H'
theorem ok_rbook {f fT : Addr} {fd fdT : FuncData} {k : Nat} (T : Bl mg) (F : Fun K "_law_random_book" "_law_random_book" sLawRandomBook f fd)
    (DT : Df K mg "_law_take" sLawTake ["_law_box_here", "_law_span"] fT fdT) (GT : FnOk P w K mg base CX0 k fT fdT ["_law_box_here", "_law_span"] spTake) :
    FnOk P w K mg base CX0 (k + 1) f fd ["_law_box_here", "_law_most", "_law_high"] (spRBook K) := by
  refine F.ok scLawRandomBook (fun vs H Q E h => ?_) (fun cdv A outer s H vs Q E hr h => ?_)
  · obtain ⟨_, _, _, _, rfl, _⟩ := h; rfl
  obtain ⟨bx, most, high, m, rfl, hbox, hm, m1, m2, h1, h2, q⟩ := h
  have nd := scLawRandomBook.nd
  have hu := hr.units
  refine ⟨_, pss_cons (ps_set (i := 3) nd rfl (.inl rfl) (pe_lst (pa_cons (pe_tup (pa_cons (pe_op op_add pe_int (pe_do DT GT hr rfl (pa_cons (pv 0) (pa_cons (pv 2) pa_nil)))) pa_nil)) pa_nil)))
    (pss_cons (ps_for PassesOwn.never rfl (pi_range1 rfl T.range (pa_cons (pe_do DT GT hr rfl (pa_cons (pv 0) (pa_cons (pv 1) pa_nil))) pa_nil)) (pg_name (i := 4) nd rfl (.inl rfl))
      (pss_cons (ps_set (i := 5) nd rfl (.inr rfl) (pe_op op_add pe_int (pe_do DT GT hr rfl (pa_cons (pv 0) (pa_cons (pv 2) pa_nil)))))
      (pss_one (ps_expr (pe_bm PySem.F.plainAttrs_list PySem.F.slot_list_append PySem.F.type_list_append mt_append (pv 3) (pa_cons (pe_callTy call_tuple_of rfl T.tuple bTuple (pa_cons
        (pe_lc (own := [("_law_rung", 6)]) (g := gName 6) (tt := tYes) rfl nd (pi_range1 rfl T.range (pa_cons (pe_callB (cr_maxT rfl hu) rfl T.max bMax (pa_cons (pe_ix ix_list (pv 3) (pe_un un_neg pe_int) (fun _ _ => rfl)) pa_nil)) pa_nil))
          (blkOk_by (N := ["_law_box_here", "_law_most", "_law_high", "_law_found", "_law_k", "_law_top", "_law_rung"]) (sc := defScope sLawRandomBook) (by decide +kernel))
          (fun _ _ _ _ _ => pg_name (i := 6) nd rfl (.inl rfl)) (fun _ _ _ _ _ => pts_nil) (fun _ _ _ _ _ => pe_op op_add pe_int (pe_do DT GT hr rfl (pa_cons (pv 0) (pa_cons (pv 5) pa_nil))))) pa_nil)) pa_nil))))))
    (pss_one (ps_ret (pe_callTy call_tuple_of rfl T.tuple bTuple (pa_cons (pv 3) pa_nil))))), ?_⟩
  -- found = [(1 + take,)]
  refine ⟨_, rfl, _, rfl, bx, _, m, rfl, hbox, by omega, by omega, by omega, fun r0 Ha r01 r02 hBa hha => ?_⟩
  refine ⟨_, _, rfl, rfl, by show 1 ≤ sizeLine; decide, fun t nt => ?_⟩
  refine ⟨by show 1 ≤ sizeLine; decide, fun fo nf => ?_⟩
  have st := same_new (o := .tup [.int (1 + r0)]) nt
  have sf := same_new (o := .lst [.ref t]) nf
  have ntb : t ≠ bx := hBa.ne nt
  have nfb : fo ≠ bx := (hBa.new nt).ne nf
  have ntf : t ≠ fo := fun e => by rw [← e, upd_same] at nf; cases nf
  have hBb : Box (upd (upd Ha t (.tup [.int (1 + r0)])) fo (.lst [.ref t])) bx (m + 1) := (hBa.new nt).new nf
  -- range(take(box, most))
  refine ⟨_, rfl, _, rfl, bx, _, m + 1, rfl, hBb, by omega, by omega, by omega, fun r1 Hb r11 r12 hBc hhb => ?_⟩
  refine ⟨_, rfl, by omega, by omega, ?_⟩
  have nfH : H fo = none := by
    have z : Ha fo = none := st.free nf
    rw [← hid_eq hha nfb]; exact z
  have hsame0 : Same (hid H bx) (hid Hb bx) := by
    rw [hhb, ← hha]; exact hid_mono (st.trans sf)
  have hfo0 : Hb fo = some (.lst [.ref t]) := by rw [hid_eq hhb nfb, upd_same]
  have ht0 : Hb t = some (.tup [.int (1 + r0)]) := by rw [hid_eq hhb ntb, upd_ne ntf, upd_same]
  refine for_range (lo := 0) (n := r1.toNat) (fun i σ H3 => ∃ (y4 y5 : Option V) (B : List (List Int)) (n : Int) (ns : List Int) (vs : List V), σ = [some (.ref bx), some (.int most), some (.int high), some (.ref fo), y4, y5, none] ∧ B.length = i ∧ GoodB (B ++ [n :: ns]) high ∧
      H3 fo = some (.lst vs) ∧ DpAll K (hid (hid H3 bx) fo) vs ((B ++ [n :: ns]).map rowT) ∧ Box H3 bx (m + 2 + 101 * i) ∧ Same (hid H bx) (hid H3 bx))
    ⟨none, none, [], 1 + r0, [], [.ref t], rfl, rfl, good_one (by omega) (by omega), hfo0, .cons (.tup (.inl (.inl (by rw [hid_ne ntf, hid_ne ntb]; exact ht0))) (.cons (.int _) .nil)) .nil, hBc, hsame0⟩ (fun i σ H3 hi3 hP => ?_) (fun σ H3 hP => ?_)
  · obtain ⟨y4, y5, B, n, ns, vs, rfl, hBl, hG, hfo, hvs, hB3, sm⟩ := hP
    -- top = 1 + take
    refine ⟨_, rfl, _, rfl, bx, _, m + 2 + 101 * i, rfl, hB3, by omega, by omega, by omega, fun r5 H5 r50 r51 hB5 hh5 => ?_⟩
    refine ⟨_, _, rfl, rfl, ?_⟩
    have hfo5 : H5 fo = some (.lst vs) := by rw [hid_eq hh5 nfb]; exact hfo
    have hvs5 : DpAll K (hid (hid H5 bx) fo) vs ((B ++ [n :: ns]).map rowT) := by rw [hh5]; exact hvs
    -- found.append
    refine ⟨_, rfl, .inl ⟨rfl, _, SqL.of hfo5⟩, ?_⟩
    -- max(found[-1])
    obtain ⟨vs0, vl, rfl, hvl⟩ : ∃ vs0 vl, vs = vs0 ++ [vl] ∧ Dp K (hid (hid H5 bx) fo) vl (rowT (n :: ns)) := by
      have hl := dps_len hvs5
      rw [List.length_map, List.length_append] at hl
      have hne : vs ≠ [] := fun z => by rw [z] at hl; simp at hl
      refine ⟨vs.dropLast, vs.getLast hne, (List.dropLast_concat_getLast hne).symm, ?_⟩
      obtain ⟨v, e1, e2⟩ := dps_get (i := B.length) hvs5 (d := rowT (n :: ns)) (by rw [List.getElem?_map]; simp)
      have e3 : vs.getLast hne = v := by
        have : vs[vs.length - 1]? = some (vs.getLast hne) := by rw [← List.getLast?_eq_getElem?]; exact List.getLast?_eq_getLast hne
        rw [show vs.length - 1 = B.length by simp at hl; omega, e1] at this
        exact (Option.some.inj this).symm
      rw [e3]; exact e2
    have hvl5 : Dp K H5 vl (rowT (n :: ns)) := dp_up hvl (hid_le.trans hid_le)
    obtain ⟨la, rfl, hla⟩ : ∃ la, vl = .ref la ∧ SqT K H5 la ((n :: ns).map V.int) := by
      cases hvl5 with
      | tup h g => rw [dps_ints_inv (ns := n :: ns) g] at h; exact ⟨_, rfl, h⟩
    have p1 := hG.pos (n :: ns) (by simp)
    have mx1 := (foldl_max_ge ns n).1
    have mx2 : ns.foldl max n ≤ high := foldl_max_le ns n (p1 n List.mem_cons_self).2 fun x hx => (p1 x (List.mem_cons_of_mem _ hx)).2
    have n1 := (p1 n List.mem_cons_self).1
    refine ⟨_, rfl, 1, rfl, fo, _, -1, _, rfl, rfl, SqL.of hfo5, atI_last _ _, la, n, ns, rfl, hla, _, rfl, by omega, by omega, fun D nD => ?_⟩
    have sD := same_new (o := .lst []) nD
    have nDb : D ≠ bx := hB5.ne nD
    have nDf : D ≠ fo := fun e => by rw [e, hfo5] at nD; cases nD
    have nDH : H D = none := by
      cases e : H D with
      | none => rfl
      | some o =>
        have z := sm D o (by rw [hid_ne nDb]; exact e)
        rw [← hh5, hid_ne nDb, nD] at z; cases z
    refine lc_range (lo := 0) (n := (ns.foldl max n).toNat) (fun j H6 => ∃ row : List Int, row.length = j ∧ (∀ x ∈ row, 1 ≤ x ∧ x ≤ high) ∧ H6 D = some (.lst (row.map V.int)) ∧ Box H6 bx (m + 2 + 101 * i + 1 + j) ∧ hid (hid H6 bx) D = hid (hid H5 bx) D)
      ⟨[], rfl, fun x hx => (by cases hx), upd_same, hB5.new nD, ?_⟩ (fun j H6 hj hP6 => ?_) (fun H6 hP6 => ?_)
    · rw [hid_new nDb, hid_upd]
    · obtain ⟨row, hrl, hrp, hD6, hB6, hh6⟩ := hP6
      refine ⟨rfl, yesT ?_⟩
      refine ⟨_, rfl, _, rfl, bx, _, m + 2 + 101 * i + 1 + j, rfl, hB6, ?_, ?_, ?_, fun r7 H7 r70 r71 hB7 hh7 => ?_⟩
      · have : i < 100 := by omega
        omega
      · omega
      · omega
      refine ⟨_, _, rfl, rfl, row.map V.int, ?_, ?_, row ++ [1 + r7], by simp [hrl], fun x hx => ?_, ?_, ?_, ?_⟩
      · rw [hid_eq hh7 nDb]; exact hD6
      · rw [List.length_map]; exact small1000 (by omega)
      · rcases List.mem_append.mp hx with hx | hx
        · exact hrp x hx
        · obtain rfl : x = 1 + r7 := by simpa using hx
          exact ⟨by omega, by omega⟩
      · rw [upd_same, List.map_append]; rfl
      · obtain ⟨x1, x2, x3, g1, g2⟩ := hB7
        exact ⟨x1, x2, x3, by rw [upd_ne nDb.symm]; exact g1, g2⟩
      · rw [hid_new nDb, hid_upd, hh7, hh6]
    · obtain ⟨row, hrl, hrp, hD6, hB6, hh6⟩ := hP6
      refine ⟨D, _, rfl, .inl ⟨SqL.of hD6, fun l nl => ?_⟩⟩
      have sl := same_new (o := .tup (row.map V.int)) nl
      have nlb : l ≠ bx := hB6.ne nl
      have hfo6 : H6 fo = some (.lst (vs0 ++ [.ref la])) := by
        have := congrFun hh6 fo
        rw [hid_ne nDf.symm, hid_ne nDf.symm, hid_ne nfb, hid_ne nfb] at this
        rw [this]; exact hfo5
      have nlf : l ≠ fo := fun e => by rw [e, hfo6] at nl; cases nl
      have s56 : Same (hid (hid H5 bx) fo) (hid (hid (upd H6 l (.tup (row.map V.int))) bx) fo) := fun c o ec => by
        obtain ⟨c1, ec1⟩ := hid_some ec
        obtain ⟨c2, ec2⟩ := hid_some ec1
        have c3 : c ≠ D := fun e => by rw [e, nD] at ec2; cases ec2
        have c4 := congrFun hh6 c
        rw [hid_ne c3, hid_ne c3, hid_ne c2, hid_ne c2] at c4
        rw [hid_ne c1, hid_ne c2]
        exact sl _ _ (by rw [c4]; exact ec2)
      refine ⟨fo, _, _, rfl, rfl, sl _ _ hfo6, ?_, ?_⟩
      · have hl := dps_len hvs5
        rw [List.length_map, List.length_append (as := B)] at hl
        rw [hl, List.length_singleton]
        exact small1000 (by omega)
      · cases hrow : row with
        | nil => rw [hrow] at hrl; simp at hrl; omega
        | cons x xs =>
          rw [hrow] at hrl hrp s56 sl hD6
          refine ⟨_, _, B ++ [n :: ns], x, xs, vs0 ++ [.ref la] ++ [.ref l], rfl, by rw [List.length_append, hBl]; rfl, good_snoc hG (by rw [hrl]; omega) hrp, upd_same, ?_, ?_, ?_⟩
          · rw [List.map_append, show hid (hid (upd (upd H6 l (.tup ((x :: xs).map V.int))) fo (.lst (vs0 ++ [.ref la] ++ [.ref l]))) bx) fo = hid (hid (upd H6 l (.tup ((x :: xs).map V.int))) bx) fo from by rw [hid_new nfb, hid_upd]]
            refine dps_app (dps_up hvs5 s56) (.cons (.tup (.inl (.inl (by rw [hid_ne nlf, hid_ne nlb, upd_same]))) (dps_ints (x :: xs))) .nil)
          · obtain ⟨x1, x2, x3, g1, g2, g3, g4, g5, g6⟩ := hB6.new (o := .tup ((x :: xs).map V.int)) nl
            exact ⟨x1, x2, x3, by rw [upd_ne nfb.symm]; exact g1, g2, g3, g4, g5, by omega⟩
          · intro c o ec
            have nc : c ≠ bx := (hid_some ec).1
            have ncf : c ≠ fo := ne_of_none (hid_some ec).2 nfH
            have ncD : c ≠ D := ne_of_none (hid_some ec).2 nDH
            have z := sm _ _ ec
            rw [← hh5, hid_ne nc] at z
            have c4 := congrFun hh6 c
            rw [hid_ne ncD, hid_ne ncD, hid_ne nc, hid_ne nc] at c4
            rw [hid_ne nc, upd_ne ncf]
            exact sl _ _ (by rw [c4]; exact z)
  · obtain ⟨y4, y5, B, n, ns, vs, rfl, hBl, hG, hfo, hvs, hB3, sm⟩ := hP
    refine ⟨_, rfl, fo, _, rfl, .inl ⟨SqL.of hfo, fun p np => ?_⟩⟩
    have npb : p ≠ bx := hB3.ne np
    have sp := same_new (o := .tup vs) np
    refine q p _ (B ++ [n :: ns]) hG ?_ ?_ ((hB3.new np).le ?_) (sm.trans (hid_mono sp)) (.tup (.inl (.inl (by rw [hid_ne npb, upd_same]))) (dps_up hvs (hid_le.trans (hid_mono sp))))
    · rw [List.length_append]
      simp only [List.length_cons, List.length_nil]
      omega
    · simp
    · omega
end
end Af
namespace Af
open PySem PySem.Spec PyProof.Rows L2
section
variable {P : Program} {w : World} {K : PySem.W.Frag} {mg : Str → Option Value} {base : Heap}
/-! _law_random_faces -/
def spRFaces : Sp := fun vs H Q _ => ∃ (bx : Addr) (n m : Nat), vs = [.ref bx, .int n] ∧ Box H bx m ∧ m ≤ 500000000 ∧ n ≤ 1000 ∧
  ∀ (p : Addr) (H' : Hp) (F : List Int), F.length = n → FacesOk F → Box H' bx (m + n) → Same (hid H bx) (hid H' bx) → H p = none → H' p = some (.tup (F.map V.int)) → Q (.ref p) H'
theorem ok_rfaces {f fT : Addr} {fd fdT : FuncData} {k : Nat} (T : Bl mg) (F : Fun K "_law_random_faces" "_law_random_faces" sLawRandomFaces f fd)
    (DT : Df K mg "_law_take" sLawTake ["_law_box_here", "_law_span"] fT fdT) (GT : FnOk P w K mg base CX0 k fT fdT ["_law_box_here", "_law_span"] spTake) :
    FnOk P w K mg base CX0 (k + 1) f fd ["_law_box_here", "_law_count"] spRFaces := by
  refine F.ok scLawRandomFaces (fun vs H Q E h => ?_) (fun cdv A outer s H vs Q E hr h => ?_)
  · obtain ⟨_, _, _, rfl, _⟩ := h; rfl
  obtain ⟨bx, n, m, rfl, hbox, hm, hn, q⟩ := h
  have nd := scLawRandomFaces.nd
  refine ⟨_, pss_one (ps_ret (pe_callTy call_tuple_of rfl T.tuple bTuple (pa_cons
    (pe_lc (own := [("_law_who", 2)]) (g := gName 2) (tt := tYes) rfl nd (pi_range1 rfl T.range (pa_cons (pv 1) pa_nil))
      (blkOk_by (N := ["_law_box_here", "_law_count", "_law_who"]) (sc := defScope sLawRandomFaces) (by decide +kernel))
      (fun _ _ _ _ _ => pg_name (i := 2) nd rfl (.inl rfl)) (fun _ _ _ _ _ => pts_nil)
      (fun _ _ _ _ _ => pe_op op_sub pe_int (pe_op op_mul pe_int (pe_do DT GT hr rfl (pa_cons (pv 0) (pa_cons pe_int pa_nil)))))) pa_nil))), ?_⟩
  refine ⟨_, rfl, _, rfl, by omega, by omega, fun D nD => ?_⟩
  have nDb : D ≠ bx := hbox.ne nD
  have en : ((n : Nat) : Int).toNat = n := by omega
  rw [en]
  refine lc_range (lo := 0) (n := n) (fun i H3 => ∃ Fc : List Int, Fc.length = i ∧ FacesOk Fc ∧ H3 D = some (.lst (Fc.map V.int)) ∧ Box H3 bx (m + i) ∧ hid (hid H3 bx) D = hid (hid H bx) D)
    ⟨[], rfl, fun x hx => (by cases hx), upd_same, hbox.new nD, by rw [hid_new nDb, hid_upd]⟩ (fun i H3 hi hP => ?_) (fun H3 hP => ?_)
  · obtain ⟨Fc, hl, hF, hD, hB, hh⟩ := hP
    refine ⟨rfl, yesT ?_⟩
    refine ⟨_, rfl, bx, _, m + i, rfl, hB, by omega, by decide, by decide, fun r H5 r0 r1 hB5 hh5 => ?_⟩
    refine ⟨_, _, rfl, rfl, .inl ⟨by decide, by decide⟩, _, _, rfl, rfl, Fc.map V.int, ?_, ?_, Fc ++ [1 - 2 * r], by simp [hl], fun x hx => ?_, ?_, ?_, ?_⟩
    · rw [hid_eq hh5 nDb]; exact hD
    · rw [List.length_map]; exact small1000 (by omega)
    · rcases List.mem_append.mp hx with hx | hx
      · exact hF x hx
      · obtain rfl : x = 1 - 2 * r := by simpa using hx
        omega
    · rw [upd_same, List.map_append]; rfl
    · obtain ⟨x1, x2, x3, g1, g2⟩ := hB5
      exact ⟨x1, x2, x3, by rw [upd_ne nDb.symm]; exact g1, g2⟩
    · rw [hid_new nDb, hid_upd, hh5, hh]
  · obtain ⟨Fc, hl, hF, hD, hB, hh⟩ := hP
    refine ⟨D, _, rfl, .inl ⟨SqL.of hD, fun p np => ?_⟩⟩
    have s1 : Same (hid H bx) (hid H3 bx) := fun c o ec => by
      have c1 := (hid_some ec).1
      have c3 : c ≠ D := ne_of_none (hid_some ec).2 nD
      have := congrFun hh c
      rw [hid_ne c3, hid_ne c3] at this
      rw [this]; exact ec
    have npb : p ≠ bx := hB.ne np
    have nph : H p = none := by
      cases e : H p with
      | none => rfl
      | some o =>
        have z := s1 p o (by rw [hid_ne npb]; exact e)
        rw [hid_ne npb, np] at z; cases z
    exact q p _ Fc hl hF (hB.new np) (s1.trans (hid_mono (same_new np))) nph upd_same
/-! _law_random_state -/
def spRState (K : PySem.W.Frag) : Sp := fun vs H Q _ => ∃ (bx : Addr) (sh : V) (B : List (List Int)) (hi : Int) (m : Nat), vs = [.ref bx, sh] ∧ Box H bx m ∧ m ≤ 400000000 ∧ Dp K (hid H bx) sh (bookT B) ∧ GoodB B hi ∧ hi ≤ 1000 ∧ B.length ≤ 1000 ∧
  ∀ (p : Addr) (H' : Hp) (R F : List Int), Stands B R → F.length = B.length → FacesOk F → Box H' bx (m + 2 * B.length) → Same (hid H bx) (hid H' bx) → Dp K (hid H' bx) (.ref p) (stateT R F) → Q (.ref p) H'
theorem ok_rstate {f fS fF : Addr} {fd fdS fdF : FuncData} {k : Nat} (T : Bl mg) (F : Fun K "_law_random_state" "_law_random_state" sLawRandomState f fd)
    (DS : Df K mg "_law_random_standing" sLawRandomStanding ["_law_box_here", "_law_shelf"] fS fdS) (GS : FnOk P w K mg base CX0 k fS fdS ["_law_box_here", "_law_shelf"] (spRStand K))
    (DF : Df K mg "_law_random_faces" sLawRandomFaces ["_law_box_here", "_law_count"] fF fdF) (GF : FnOk P w K mg base CX0 k fF fdF ["_law_box_here", "_law_count"] spRFaces) :
    FnOk P w K mg base CX0 (k + 1) f fd ["_law_box_here", "_law_shelf"] (spRState K) := by
  refine F.ok scLawRandomState (fun vs H Q E h => ?_) (fun cdv A outer s H vs Q E hr h => ?_)
  · obtain ⟨_, _, _, _, _, rfl, _⟩ := h; rfl
  obtain ⟨bx, sh, B, hi, m, rfl, hbox, hm, hsh, hG, hhi, hlen, q⟩ := h
  refine ⟨_, pss_one (ps_ret (pe_tup (pa_cons (pe_do DS GS hr rfl (pa_cons (pv 0) (pa_cons (pv 1) pa_nil))) (pa_cons (pe_do DF GF hr rfl (pa_cons (pv 0) (pa_cons (pe_callB call_len_seq rfl T.len bLen (pa_cons (pv 1) pa_nil)) pa_nil))) pa_nil)))), ?_⟩
  refine ⟨_, rfl, _, rfl, bx, sh, B, hi, m, rfl, hbox, by omega, hsh, hG, hhi, hlen, fun sp H1 R hS hB1 s1 nsp esp => ?_⟩
  obtain ⟨a, xs, rfl, ha, hxl⟩ := book_len (dp_up hsh (s1.trans hid_le)) (bookT_book B)
  refine ⟨_, rfl, _, rfl, a, xs, rfl, ha, bx, B.length, m + B.length, ?_, hB1, by omega, hlen, fun fp H2 Fc hFl hF hB2 s2 nfp efp => ?_⟩
  · rw [hxl]; rfl
  refine ⟨by show 2 ≤ sizeLine; decide, fun p np => ?_⟩
  have npb : p ≠ bx := hB2.ne np
  have s3 := same_new (o := .tup [.ref sp, .ref fp]) np
  have nspb : sp ≠ bx := hB1.neT esp
  have nfpb : fp ≠ bx := hB2.neT efp
  have s23 := s2.trans (hid_mono s3)
  refine q p _ R Fc hS hFl hF ((hB2.new np).le (by omega)) (s1.trans s23) (.tup (.inl (.inl (by rw [hid_ne npb, upd_same]))) (.cons (.tup (.inl (.inl (s23 _ _ (by rw [hid_ne nspb]; exact esp)))) (dps_ints R))
    (.cons (.tup (.inl (.inl (hid_mono s3 _ _ (by rw [hid_ne nfpb]; exact efp)))) (dps_ints Fc)) .nil)))
/-! _law_about -/
def spAbout (K : PySem.W.Frag) : Sp := fun vs H Q _ => ∃ (z : Addr) (st : V) (R F : List Int), vs = [st] ∧ H z ≠ none ∧ Dp K (hid H z) st (stateT R F) ∧ F.length ≤ 1000 ∧
  ∀ (p : Addr) (H' : Hp), Same H H' → Dp K (hid H' z) (.ref p) (stateT R (negL F)) → Q (.ref p) H'
theorem ok_about {f : Addr} {fd : FuncData} {k : Nat} (T : Bl mg) (F : Fun K "_law_about" "_law_about" sLawAbout f fd) : FnOk P w K mg base CX0 (k + 1) f fd ["_law_spot"] (spAbout K) := by
  refine F.ok scLawAbout (fun vs H Q E h => ?_) (fun cdv A outer s H vs Q E hr h => ?_)
  · obtain ⟨_, _, _, _, rfl, _⟩ := h; rfl
  obtain ⟨z, st, R, Fc, rfl, hz, hst, hF, q⟩ := h
  have nd := scLawAbout.nd
  refine ⟨_, pss_one (ps_ret (pe_tup (pa_cons (pe_callTy call_tuple_of rfl T.tuple bTuple (pa_cons (pe_ix ix_tup (pv 0) pe_int (fun _ _ => rfl)) pa_nil))
    (pa_cons (pe_callTy call_tuple_of rfl T.tuple bTuple (pa_cons
      (pe_lc (own := [("_law_look", 1)]) (g := gName 1) (tt := tYes) rfl nd (pi_tup (pe_ix ix_tup (pv 0) pe_int (fun _ _ => rfl)))
        (blkOk_by (N := ["_law_spot", "_law_look"]) (sc := defScope sLawAbout) (by decide +kernel))
        (fun _ _ _ _ _ => pg_name (i := 1) nd rfl (.inl rfl)) (fun _ _ _ _ _ => pts_nil) (fun _ _ _ _ _ => pe_op op_sub pe_int (pv 1))) pa_nil)) pa_nil)))), ?_⟩
  obtain ⟨a, rfl, r, fc, hq, hr', hf'⟩ : ∃ a, st = .ref a ∧ ∃ r fc, SqT K (hid H z) a [r, fc] ∧ Dp K (hid H z) r (rowT R) ∧ Dp K (hid H z) fc (rowT Fc) := by
    cases hst with
    | tup h1 h2 =>
      cases h2 with
      | cons p1 h2 =>
        cases h2 with
        | cons p2 h2 => cases h2; exact ⟨_, rfl, _, _, h1, p1, p2⟩
  obtain ⟨ra, rfl, hra⟩ : ∃ ra, r = .ref ra ∧ SqT K (hid H z) ra (R.map V.int) := by
    cases hr' with
    | tup h1 h2 => rw [dps_ints_inv h2] at h1; exact ⟨_, rfl, h1⟩
  obtain ⟨fa, rfl, hfa⟩ : ∃ fa, fc = .ref fa ∧ SqT K (hid H z) fa (Fc.map V.int) := by
    cases hf' with
    | tup h1 h2 => rw [dps_ints_inv h2] at h1; exact ⟨_, rfl, h1⟩
  have hqH := sqt_mono hid_le hq
  refine ⟨_, rfl, a, _, 0, _, rfl, rfl, hqH, atI_nat (j := 0) rfl, ra, _, rfl, .inr ⟨sqt_mono hid_le hra, ?_⟩⟩
  refine ⟨_, rfl, a, _, 1, _, rfl, rfl, hqH, atI_nat (j := 1) rfl, fa, rfl, ⟨_, sqt_mono hid_le hfa⟩, fun D nD => ?_⟩
  have sD := same_new (o := .lst []) nD
  refine lc_tup (xs := Fc.map V.int) (fun i H3 => H3 D = some (.lst ((negL (Fc.take i)).map V.int)) ∧ Same H H3) ⟨upd_same, sD⟩ (fun i H3 _ hP => sqt_mono (hid_le.trans hP.2) hfa) (fun i x H3 hx hP => ?_) (fun H3 hP => ?_)
  · obtain ⟨hD, sm⟩ := hP
    rw [List.getElem?_map] at hx
    cases e : Fc[i]? with
    | none => rw [e] at hx; cases hx
    | some v =>
      rw [e] at hx
      cases hx
      refine ⟨rfl, yesT ?_⟩
      refine ⟨_, rfl, _, _, rfl, rfl, _, hD, ?_, ?_, fun c o ec => ?_⟩
      · rw [List.length_map, negL_len, List.length_take]; exact small1000 (by omega)
      · rw [upd_same, List.take_add_one, e]
        show _ = some (HO.lst ((negL (Fc.take i ++ [v])).map V.int))
        unfold negL
        rw [List.map_append, List.map_append]
        show some (HO.lst (_ ++ [V.int (0 - v)])) = some (HO.lst (_ ++ [V.int (-v)]))
        rw [Int.zero_sub]
      · rw [upd_ne (ne_of_none ec nD)]; exact sm _ _ ec
  · obtain ⟨hD, sm⟩ := hP
    rw [List.length_map, List.take_length] at hD
    refine ⟨D, _, rfl, .inl ⟨SqL.of hD, fun t nt => ?_⟩⟩
    have st' := same_new (o := .tup ((negL Fc).map V.int)) nt
    refine ⟨by show 2 ≤ sizeLine; decide, fun p np => ?_⟩
    have sp := same_new (o := .tup [.ref ra, .ref t]) np
    have s2 := (sm.trans st').trans sp
    have ntz : t ≠ z := fun e => hz (by rw [← e]; exact sm.free nt)
    have npz : p ≠ z := fun e => hz (by rw [← e]; exact (sm.trans st').free np)
    refine q p _ s2 (.tup (.inl (.inl (by rw [hid_ne npz, upd_same]))) (.cons (.tup (sqt_mono (hid_mono s2) hra) (dps_ints R)) (.cons (.tup (.inl (.inl (hid_mono sp _ _ (by rw [hid_ne ntz, upd_same])))) (dps_ints (negL Fc))) .nil)))
end
end Af
namespace Af
open PySem PySem.Spec PyProof.Rows L2
section
variable {P : Program} {w : World} {K : PySem.W.Frag} {mg : Str → Option Value} {base : Heap}
/-! _law_begin -/
def spBegin (K : PySem.W.Frag) : Sp := fun vs H Q _ => ∃ (z : Addr) (sh mk : V) (B : List (List Int)) (hi : Int) (M : List Int), vs = [sh, mk] ∧ H z ≠ none ∧ Dp K (hid H z) sh (bookT B) ∧ GoodB B hi ∧ Dp K (hid H z) mk (rowT M) ∧ M.length + 1 = B.length ∧ B.length ≤ 1000 ∧
  ∀ (p : Addr) (H' : Hp) (R : List Int), Stands B R → Same H H' → Dp K (hid H' z) (.ref p) (stateT R (1 :: M)) → Q (.ref p) H'
theorem ok_begin {f fL : Addr} {fd fdL : FuncData} {k : Nat} (T : Bl mg) (F : Fun K "_law_begin" "_law_begin" sLawBegin f fd)
    (DL : Df K mg "_law_ladder" sLawLadder ["_law_shelf", "_law_rungs", "_law_who"] fL fdL) (GL : FnOk P w K mg base CX0 k fL fdL ["_law_shelf", "_law_rungs", "_law_who"] (spLengthOf K)) :
    FnOk P w K mg base CX0 (k + 1) f fd ["_law_shelf", "_law_marks"] (spBegin K) := by
  refine F.ok scLawBegin (fun vs H Q E h => ?_) (fun cdv A outer s H vs Q E hr h => ?_)
  · obtain ⟨_, _, _, _, _, _, rfl, _⟩ := h; rfl
  obtain ⟨z, sh, mk, B, hi, M, rfl, hz, hsh, hG, hmk, hMl, hlen, q⟩ := h
  have nd := scLawBegin.nd
  refine ⟨_, pss_cons (ps_set (i := 2) nd rfl (.inl rfl) (pe_lst (pa_cons pe_int pa_nil)))
    (pss_cons (ps_for PassesOwn.never rfl (pi_enumT rfl T.enum (pa_cons (pv 1) pa_nil)) (pg_tup rfl (pgs_cons (pg_name (i := 3) nd rfl (.inl rfl)) (pgs_cons (pg_name (i := 4) nd rfl (.inl rfl)) pgs_nil)))
      (pss_one (ps_expr (pe_bm PySem.F.plainAttrs_list PySem.F.slot_list_append PySem.F.type_list_append mt_append (pv 2) (pa_cons (pe_ifExp (pt_cmpR op_eq (pv 4) pe_int (nomark _)) pe_int (pe_do DL GL hr rfl (pa_cons (pv 0) (pa_cons (pv 2) (pa_cons (pe_op op_add (pv 3) pe_int) pa_nil))))) pa_nil)))))
    (pss_one (ps_ret (pe_tup (pa_cons (pe_callTy call_tuple_of rfl T.tuple bTuple (pa_cons (pv 2) pa_nil)) (pa_cons (pe_op op_catA (pe_tup (pa_cons pe_int pa_nil)) (pe_callTy call_tuple_of rfl T.tuple bTuple (pa_cons (pv 1) pa_nil))) pa_nil)))))), ?_⟩
  refine ⟨by show 1 ≤ sizeLine; decide, fun fo nf => ?_⟩
  have s1 := same_new (o := .lst [.int 1]) nf
  obtain ⟨ma, rfl, hma⟩ : ∃ ma, mk = .ref ma ∧ SqT K (hid H z) ma (M.map V.int) := by
    cases hmk with
    | tup h1 h2 => rw [dps_ints_inv h2] at h1; exact ⟨_, rfl, h1⟩
  have hma1 := sqt_mono (hid_le.trans s1) hma
  refine ⟨_, rfl, ma, _, rfl, hma1, ?_⟩
  obtain ⟨n0, l0, l1, l2⟩ := len_ex (R := [1]) hG (show 0 < B.length by omega) (fun c hc => absurd hc (Nat.not_lt_zero c))
  refine for_it (walk_enumT (xs := M.map V.int)) (fun i σ H3 => ∃ (y3 y4 : Option V) (R : List Int), σ = [some sh, some (.ref ma), some (.ref fo), y3, y4] ∧ R.length = i + 1 ∧ StandsTo B R (i + 1) ∧ H3 fo = some (.lst (R.map V.int)) ∧ Same H H3)
    ⟨none, none, [1], rfl, rfl, fun c hc => ?_, upd_same, s1⟩ (fun i σ H3 _ ⟨_, _, _, _, _, _, _, sm⟩ => sqt_mono (hid_le.trans sm) hma) (fun i x σ H3 H4 hi3 hP hy => ?_) (fun σ H3 hP => ?_)
  · obtain rfl : c = 0 := by omega
    exact ⟨n0, 1, l0, rfl, by decide, l1⟩
  · obtain ⟨y3, y4, R, rfl, hRl, hS, hfo, sm⟩ := hP
    obtain ⟨Tt, x1, x2, rfl, nT, rfl, e1, e2⟩ := hy
    have e1' : x1 = .int (i : Nat) := (Option.some.inj e1).symm
    subst e1'
    rw [List.length_map] at hi3
    have e2' : (M.map V.int)[i]? = some x2 := e2
    rw [List.getElem?_map, List.getElem?_eq_getElem hi3] at e2'
    obtain rfl : V.int M[i] = x2 := Option.some.inj e2'
    have sT := same_new (o := .tup [.int (i : Nat), .int M[i]]) nT
    have hfoT := sT _ _ hfo
    have c4 := sm.trans sT
    rw [← hRl] at hS
    obtain ⟨n, g1, g2, g3⟩ := len_ex hG (show R.length < B.length by omega) hS
    refine ⟨Tt, _, rfl, .inl (.inl upd_same), rfl, _, _, rfl, _, _, rfl, rfl, ?_⟩
    refine ⟨_, rfl, .inl ⟨rfl, _, SqL.of hfoT⟩, ?_⟩
    have fin : ∀ v : Int, 1 ≤ v → v ≤ n → ∃ l xs y, V.ref fo = .ref l ∧ [V.int v] = [y] ∧ (upd H3 Tt (.tup [.int (i : Nat), .int M[i]])) l = some (.lst xs) ∧ xs.length < sizeLine ∧
        ∃ (y3 y4 : Option V) (R : List Int), [some sh, some (V.ref ma), some (V.ref fo), some (V.int (i : Nat)), some (V.int M[i])] = [some sh, some (.ref ma), some (.ref fo), y3, y4] ∧ R.length = i + 1 + 1 ∧ StandsTo B R (i + 1 + 1) ∧ (upd (upd H3 Tt (.tup [.int (i : Nat), .int M[i]])) l (.lst (xs ++ [y]))) fo = some (.lst (R.map V.int)) ∧ Same H (upd (upd H3 Tt (.tup [.int (i : Nat), .int M[i]])) l (.lst (xs ++ [y]))) := by
      intro v v1 v2
      refine ⟨fo, _, _, rfl, rfl, hfoT, ?_, _, _, R ++ [v], rfl, by simp [hRl], ?_, ?_, fun c o ec => ?_⟩
      · rw [List.length_map]; exact small1000 (by omega)
      · have := stands_snoc hS g1 v1 v2
        rwa [hRl] at this
      · rw [upd_same, List.map_append]; rfl
      · rw [upd_ne (ne_of_none ec nf)]; exact c4 _ _ ec
    refine ⟨_, rfl, rfl, _, rfl, ite2 (fun _ => ?_) (fun _ => ?_)⟩
    · exact fin 1 (by decide) g2
    · refine ⟨_, rfl, _, rfl, _, rfl, _, _, rfl, rfl, _, _, R.length, bookT B, rowL R, B, R, n, ?_, dp_up hsh (hid_le.trans c4), bookT_book B, dp_lst_ints hfoT, rowL_row R, g1, ?_⟩
      · rw [hRl]; rfl
      · exact fin n g2 (Int.le_refl _)
  · obtain ⟨y3, y4, R, rfl, hRl, hS, hfo, sm⟩ := hP
    rw [List.length_map] at hRl hS
    refine ⟨_, rfl, fo, _, rfl, .inl ⟨SqL.of hfo, fun t nt => ?_⟩⟩
    have st := same_new (o := .tup (R.map V.int)) nt
    have ct := sm.trans st
    have ntz : t ≠ z := fun e => hz (by rw [← e]; exact sm.free nt)
    refine ⟨by show 1 ≤ sizeLine; decide, fun t1 nt1 => ?_⟩
    have st1 := same_new (o := .tup [.int 1]) nt1
    have ct1 := ct.trans st1
    have nt1z : t1 ≠ z := fun e => hz (by rw [← e]; exact ct.free nt1)
    have hma3 := sqt_mono (hid_le.trans ct1) hma
    have cont : ∀ (u : Addr) (Hu : Hp), u ≠ z → Same (upd (upd H3 t (.tup (R.map V.int))) t1 (.tup [.int 1])) Hu → Hu u = some (.tup ((1 :: M).map V.int)) → (([V.ref t, V.ref u] : List V).length ≤ sizeLine ∧ ∀ p, Hu p = none → Q (.ref p) (upd Hu p (.tup [.ref t, .ref u]))) := by
      intro u Hu nu su eu
      refine ⟨by show 2 ≤ sizeLine; decide, fun p np => ?_⟩
      have cp := same_new (o := .tup [.ref t, .ref u]) np
      have cu := ct1.trans su
      have npz : p ≠ z := fun e => hz (by rw [← e]; exact cu.free np)
      refine q p _ R ⟨by omega, by rw [← hMl]; exact hS⟩ (cu.trans cp) (.tup (.inl (.inl (by rw [hid_ne npz, upd_same]))) (.cons (.tup (.inl (.inl ?_)) (dps_ints R)) (.cons (.tup (.inl (.inl ?_)) (dps_ints (1 :: M))) .nil)))
      · rw [hid_ne ntz]; exact cp _ _ (su _ _ (st1 _ _ upd_same))
      · rw [hid_ne nu]; exact cp _ _ eu
    refine ⟨_, rfl, ma, _, rfl, .inr ⟨hma3, t1, ma, [.int 1], _, rfl, rfl, .inl (.inl upd_same), hma3, ?_, (fun e => nomatch e), fun _ e => ?_, fun _ _ u nu => ?_⟩⟩
    · rw [List.length_map]
      exact Nat.le_of_lt (small1000 (by simp; omega))
    · have eM : M = [] := List.map_eq_nil_iff.mp e
      exact cont t1 _ nt1z (Same.refl _) (by rw [upd_same, eM]; rfl)
    · exact cont u _ (fun e => hz (by rw [← e]; exact ct1.free nu)) (same_new nu) upd_same
end
end Af
namespace Af
open PySem PySem.Spec PyProof.Rows L2
section
variable {P : Program} {w : World} {K : PySem.W.Frag} {mg : Str → Option Value} {base : Heap}
/-- a slice of a list or a tuple -/
theorem sl_seq {X : Cx} : SlR X (fun x lo hi H Q => ∃ (a : Addr) (xs : List V), x = .ref a ∧ Sq X.K H a xs ∧ ∀ (p : Addr) (H' : Hp), Same H H' → Sq X.K H' p (cutV xs lo hi) → Q (.ref p) H') := by
  intro pins s σ H x v vl vu lo hi sl Q I rx hs pl pu h
  obtain ⟨a, xs, rfl, hq, q⟩ := h
  rcases hq with hq | hq
  · exact sl_list pins s σ H _ v vl vu lo hi sl Q I rx hs pl pu ⟨a, xs, rfl, hq, fun p np => q p _ (same_new np) (.inl (SqL.of upd_same))⟩
  · refine sl_tupA pins s σ H _ v vl vu lo hi sl Q I rx hs pl pu ⟨a, xs, rfl, hq, fun e => q a H (Same.refl _) (.inr ?_), fun _ p np => q p _ (same_new np) (.inr (.inl (.inl upd_same)))⟩
    have z : cutV xs lo hi = xs := by
      unfold cutV
      rw [e.1, e.2, List.drop_zero, Nat.sub_zero, List.take_length]
    rw [z]; exact hq
/-! turned -/
def spTurned (K : PySem.W.Frag) : Sp := fun vs H Q _ => ∃ (z : Addr) (st : V) (sd : PyData) (R F : List Int), vs = [st] ∧ H z ≠ none ∧ Dp K (hid H z) st sd ∧ StateD sd R F ∧ F.length ≤ 1000 ∧
  ∀ (p : Addr) (H' : Hp), Same H H' → Dp K (hid H' z) (.ref p) (stateT R (negL F)) → Q (.ref p) H'
/-- tuple(x) of a list or tuple of ints -/
theorem tup_of {K : PySem.W.Frag} {H : Hp} {z a : Addr} {ns : List Int} {Q : VK} (hz : H z ≠ none) (h : Sq K (hid H z) a (ns.map V.int)) (q : ∀ (p : Addr) (H' : Hp), Same H H' → Dp K (hid H' z) (.ref p) (rowT ns) → Q (.ref p) H') :
    ∃ (p : Addr) (ys : List V), [V.ref a] = [.ref p] ∧ ((SqL K H p ys ∧ ∀ l, H l = none → Q (.ref l) (upd H l (.tup ys))) ∨ (SqT K H p ys ∧ Q (.ref p) H)) := by
  rcases h with h | h
  · refine ⟨a, _, rfl, .inl ⟨hid_le.seq h, fun l nl => q l _ (same_new nl) (.tup (.inl (.inl ?_)) (dps_ints ns))⟩⟩
    rw [hid_ne (fun e => hz (by rw [← e]; exact nl)), upd_same]
  · exact ⟨a, _, rfl, .inr ⟨sqt_mono hid_le h, q a H (Same.refl _) (.tup h (dps_ints ns))⟩⟩
theorem call_tupZ {X : Cx} : CallR X (.type "tuple") (fun xs H Q => ∃ (z a : Addr) (ns : List Int), xs = [.ref a] ∧ H z ≠ none ∧ Sq X.K (hid H z) a (ns.map V.int) ∧ ∀ (p : Addr) (H' : Hp), Same H H' → Dp X.K (hid H' z) (.ref p) (rowT ns) → Q (.ref p) H') := by
  intro pins s σ H xs us Q I r h
  obtain ⟨z, a, ns, rfl, hz, hq, q⟩ := h
  exact call_tuple_of pins s σ H _ us Q I r (tup_of hz hq q)
theorem ok_turned {f : Addr} {fd : FuncData} {k : Nat} (T : Bl mg) (F : Fun K "turned" "turned" sTurned f fd) : FnOk P w K mg base CX0 (k + 1) f fd ["state"] (spTurned K) := by
  refine F.ok scTurned (fun vs H Q E h => ?_) (fun cdv A outer s H vs Q E hr h => ?_)
  · obtain ⟨_, _, _, _, _, rfl, _⟩ := h; rfl
  obtain ⟨z, st, sd, R, Fc, rfl, hz, hst, hSt, hF, q⟩ := h
  have nd := scTurned.nd
  refine ⟨_, pss_cons (ps_asg (pv 0) (pg_seq rfl (pgs_cons (pg_name (i := 1) nd rfl (.inl rfl)) (pgs_cons (pg_name (i := 2) nd rfl (.inl rfl)) pgs_nil))))
    (pss_one (ps_ret (pe_tup (pa_cons (pe_callTy call_tupZ rfl T.tuple bTuple (pa_cons (pv 1) pa_nil)) (pa_cons (pe_callTy call_tuple_of rfl T.tuple bTuple (pa_cons
      (pe_lc (own := [("face", 3)]) (g := gName 3) (tt := tYes) rfl nd (pi_seq (pv 2)) (blkOk_by (N := ["state", "standing", "faces", "face"]) (sc := defScope sTurned) (by decide +kernel))
        (fun _ _ _ _ _ => pg_name (i := 3) nd rfl (.inl rfl)) (fun _ _ _ _ _ => pts_nil) (fun _ _ _ _ _ => pe_un un_neg (pv 3))) pa_nil)) pa_nil))))), ?_⟩
  obtain ⟨a, r, fc, rd, fcd, rfl, hq, hr', hR, hf', hFd⟩ := state_at hst hSt
  obtain ⟨ra, rfl, hra⟩ := row_at hr' hR
  obtain ⟨fa, rfl, hfa⟩ := row_at hf' hFd
  refine ⟨_, rfl, a, _, rfl, sq_mono hid_le hq, rfl, _, _, rfl, _, _, rfl, rfl, ?_⟩
  refine ⟨_, rfl, z, ra, R, rfl, hz, hra, fun t H1 s1 ht => ?_⟩
  obtain ⟨bb, hbb⟩ := hfa.kind
  have hbb1 := hbb.up (hid_le.trans s1)
  refine ⟨_, rfl, fa, _, bb, rfl, hbb1, fun J wJ => fun D nD => ?_⟩
  have sD := same_new (o := .lst []) nD
  refine lc_it wJ (fun i H3 => H3 D = some (.lst ((negL (Fc.take i)).map V.int)) ∧ Same H1 H3) ⟨upd_same, sD⟩ (fun i H3 _ hP => hbb1.up hP.2) (fun i v H3 H4 hi hP hy => ?_) (fun H3 hP => ?_)
  · obtain ⟨hD, sm⟩ := hP
    obtain ⟨rfl, e1⟩ := hy
    rw [List.getElem?_map] at e1
    cases e : Fc[i]? with
    | none => rw [e] at e1; cases e1
    | some x =>
      rw [e] at e1
      cases e1
      refine ⟨rfl, yesT ?_⟩
      refine ⟨_, rfl, _, rfl, _, hD, ?_, ?_, fun c o ec => ?_⟩
      · rw [List.length_map, negL_len, List.length_take]; exact small1000 (by omega)
      · rw [upd_same, List.take_add_one, e]
        show _ = some (HO.lst ((negL (Fc.take i ++ [x])).map V.int))
        unfold negL
        rw [List.map_append, List.map_append]; rfl
      · rw [upd_ne (ne_of_none ec nD)]; exact sm _ _ ec
  · obtain ⟨hD, sm⟩ := hP
    rw [List.length_map, List.take_length] at hD
    refine ⟨D, _, rfl, .inl ⟨SqL.of hD, fun u nu => ?_⟩⟩
    have su := same_new (o := .tup ((negL Fc).map V.int)) nu
    refine ⟨by show 2 ≤ sizeLine; decide, fun p np => ?_⟩
    have sp := same_new (o := .tup [.ref t, .ref u]) np
    have c1 := s1.trans sm
    have nuz : u ≠ z := fun e => hz (by rw [← e]; exact c1.free nu)
    have npz : p ≠ z := fun e => hz (by rw [← e]; exact (c1.trans su).free np)
    refine q p _ ((c1.trans su).trans sp) (.tup (.inl (.inl (by rw [hid_ne npz, upd_same]))) (.cons (dp_up ht (hid_mono (sm.trans (su.trans sp)))) (.cons (.tup (.inl (.inl (hid_mono sp _ _ (by rw [hid_ne nuz, upd_same])))) (dps_ints (negL Fc))) .nil)))
/-! beat -/
def spBeat (K : PySem.W.Frag) : Sp := fun vs H Q _ => ∃ (z : Addr) (b st : V) (bd sd : PyData) (B : List (List Int)) (hi : Int) (S : List Int × List Int), vs = [b, st] ∧ H z ≠ none ∧ Dp K H b bd ∧ BookD bd B ∧ Dp K (hid H z) st sd ∧ StateD sd S.1 S.2 ∧ B.length ≤ 1000 ∧ GoodB B hi ∧ Ok B S ∧
  ∀ (p : Addr) (H' : Hp), Same H H' → Dp K (hid H' z) (.ref p) (stD (beatM B S)) → Q (.ref p) H'
theorem ok_beat {f fM fT fL fE : Addr} {fd fdM fdT fdL fdE : FuncData} {k : Nat} (T : Bl mg) (F : Fun K "beat" "beat" sBeat f fd)
    (DM : Df K mg "mover" sMover ["book", "state"] fM fdM) (GM : FnOk P w K mg base CX0 k fM fdM ["book", "state"] (spMover K))
    (DT : Df K mg "turned" sTurned ["state"] fT fdT) (GT : FnOk P w K mg base CX0 k fT fdT ["state"] (spTurned K))
    (DL : Df K mg "length_of" sLengthOf ["book", "rungs", "climber"] fL fdL) (GL : FnOk P w K mg base CX0 k fL fdL ["book", "rungs", "climber"] (spLengthOf K))
    (DE : Df K mg "end_rung" sEndRung ["length", "face"] fE fdE) (GE : FnOk P w K mg base CX0 k fE fdE ["length", "face"] spEnd) :
    FnOk P w K mg base CX0 (k + 1) f fd ["book", "state"] (spBeat K) := by
  refine F.ok scBeat (fun vs H Q E h => ?_) (fun cdv A outer s H vs Q E hr h => ?_)
  · obtain ⟨_, _, _, _, _, _, _, _, rfl, _⟩ := h; rfl
  obtain ⟨z, b, st, bd, sd, B, hi, ⟨R, Fc⟩, rfl, hz, hb, hB, hst, hSt, hlen, hG, hOk, q⟩ := h
  have nd := scBeat.nd
  have hS : Stands B R := hOk.st
  have hFl : Fc.length = B.length := hOk.fl
  have hRl : R.length = B.length := hS.len
  refine ⟨_, pss_cons (ps_set (i := 2) nd rfl (.inl rfl) (pe_do DM GM hr rfl (pa_cons (pv 0) (pa_cons (pv 1) pa_nil))))
    (pss_cons (ps_if (pt_cmp (pc_isN (pv 2))) (pss_one (ps_ret (pe_do DT GT hr rfl (pa_cons (pv 1) pa_nil)))) pss_nil)
    (pss_cons (ps_asg (pv 1) (pg_seq rfl (pgs_cons (pg_name (i := 3) nd rfl (.inl rfl)) (pgs_cons (pg_name (i := 4) nd rfl (.inl rfl)) pgs_nil))))
    (pss_cons (ps_set (i := 5) nd rfl (.inl rfl) (pe_callTy call_list_of rfl T.list bList (pa_cons (pe_slice sl_seq (pv 3) po_none (po_some (pv 2))) pa_nil)))
    (pss_cons (ps_expr (pe_bm PySem.F.plainAttrs_list PySem.F.slot_list_append PySem.F.type_list_append mt_append (pv 5) (pa_cons (pe_op op_add (pe_ix ix_seq (pv 3) (pv 2) (fun _ _ => rfl)) (pe_ix ix_seq (pv 4) (pv 2) (fun _ _ => rfl))) pa_nil)))
    (pss_cons (ps_for PassesOwn.never rfl (pi_range2 rfl T.range (pa_cons (pe_op op_add (pv 2) pe_int) (pa_cons (pe_callB call_len_seq rfl T.len bLen (pa_cons (pv 0) pa_nil)) pa_nil))) (pg_name (i := 6) nd rfl (.inl rfl))
      (pss_one (ps_expr (pe_bm PySem.F.plainAttrs_list PySem.F.slot_list_append PySem.F.type_list_append mt_append (pv 5) (pa_cons (pe_do DE GE hr rfl (pa_cons (pe_do DL GL hr rfl (pa_cons (pv 0) (pa_cons (pv 5) (pa_cons (pv 6) pa_nil)))) (pa_cons (pe_ix ix_seq (pv 4) (pv 6) (fun _ _ => rfl)) pa_nil))) pa_nil)))))
    (pss_cons (ps_set (i := 7) nd rfl (.inl rfl) (pe_callTy call_list_of rfl T.list bList (pa_cons (pe_slice sl_seq (pv 4) po_none (po_some (pe_op op_add (pv 2) pe_int))) pa_nil)))
    (pss_cons (ps_setLc (i := 8) (own := [("face", 9)]) (g := gName 9) (tt := tYes) rfl nd rfl rfl (sw_true rfl rfl rfl (by decide +kernel)) (pi_seq (pe_slice sl_seq (pv 4) (po_some (pe_op op_add (pv 2) pe_int)) po_none))
      (blkOk_by (N := ["book", "state", "goer", "standing", "faces", "rungs", "climber", "kept", "negated", "face"]) (sc := defScope sBeat) (by decide +kernel))
      (fun _ _ _ _ _ => pg_name (i := 9) nd rfl (.inl rfl)) (fun _ _ _ _ _ => pts_nil) (fun _ _ _ _ _ => pe_un un_neg (pv 9)))
    (pss_one (ps_ret (pe_tup (pa_cons (pe_callTy call_tupZ rfl T.tuple bTuple (pa_cons (pv 5) pa_nil)) (pa_cons (pe_callTy call_tupZ rfl T.tuple bTuple (pa_cons (pe_op op_cat (pv 7) (pv 8)) pa_nil)) pa_nil)))))))))))), ?_⟩
  refine ⟨_, rfl, _, rfl, b, st, bd, sd, B, R, Fc, rfl, hb, hB, dp_up hst hid_le, hSt, hlen, hS, hFl, fun H1 s1 => ?_⟩
  cases hm : moverO B R Fc with
  | none =>
    refine ⟨_, rfl, _, rfl, iteT ?_⟩
    have hz1 : H1 z ≠ none := fun e => hz (s1.free e)
    refine ⟨_, rfl, z, st, sd, R, Fc, rfl, hz1, dp_up hst (hid_mono s1), hSt, by omega, fun p H2 s2 hp => ?_⟩
    refine q p H2 (s1.trans s2) ?_
    have e : beatM B (R, Fc) = (R, negL Fc) := by unfold beatM; rw [show moverO B (R, Fc).1 (R, Fc).2 = none from hm]; rfl
    rw [e]; exact hp
  | some g =>
    obtain ⟨n, r, fg, hg, e1, e2, e3, r1, r2, hne, hf, v1, v2⟩ := mover_new hG hOk hm
    obtain ⟨t1, t2⟩ := take_stands (v := r + fg) hS hg e1 v1 v2
    refine ⟨_, rfl, _, rfl, iteF ?_⟩
    obtain ⟨a, rv, fv, rd, fcd, rfl, hq, hr', hR, hf', hFd⟩ := state_at hst hSt
    obtain ⟨ra, rfl, hra⟩ := row_at hr' hR
    obtain ⟨fa, rfl, hfa⟩ := row_at hf' hFd
    refine ⟨_, rfl, a, _, rfl, sq_mono (hid_le.trans s1) hq, rfl, _, _, rfl, _, _, rfl, rfl, ?_⟩
    -- rungs = list(standing[:goer])
    refine ⟨_, rfl, _, rfl, _, rfl, ra, _, rfl, sq_mono (hid_le.trans s1) hra, fun c1 H2 s2 hc1 => ?_⟩
    rw [cut_ints, HT.sIx_nat, HT.sIx_none, List.drop_zero, Nat.sub_zero, show min g R.length = g by omega] at hc1
    have q2 := s1.trans s2
    refine ⟨c1, _, rfl, hc1, fun ru nru => ?_⟩
    have s3 := same_new (o := .lst ((R.take g).map V.int)) nru
    have q3 := q2.trans s3
    have nruH : H ru = none := q2.free nru
    have nruz : ru ≠ z := fun e => hz (by rw [← e]; exact nruH)
    -- rungs.append
    refine ⟨_, rfl, .inl ⟨rfl, _, SqL.of upd_same⟩, _, rfl, _, rfl, ix_of (sq_mono (hid_le.trans q3) hra) (atI_nat (j := g) (by rw [List.getElem?_map, e2]; rfl)) ?_⟩
    refine ⟨_, rfl, _, rfl, ix_of (sq_mono (hid_le.trans q3) hfa) (atI_nat (j := g) (by rw [List.getElem?_map, e3]; rfl)) ?_⟩
    refine ⟨_, _, rfl, rfl, ru, _, _, rfl, rfl, upd_same, ?_, ?_⟩
    · rw [List.length_map, List.length_take]; exact small1000 (by omega)
    have q4 : Same H (upd (upd H2 ru (.lst ((R.take g).map V.int))) ru (.lst ((R.take g).map V.int ++ [V.int (r + fg)]))) := fun c o ec => by
      rw [upd_ne (ne_of_none ec nruH)]; exact q3 _ _ ec
    have e4 : (upd (upd H2 ru (.lst ((R.take g).map V.int))) ru (.lst ((R.take g).map V.int ++ [V.int (r + fg)]))) ru = some (.lst ((R.take g ++ [r + fg]).map V.int)) := by rw [upd_same, List.map_append]; rfl
    generalize upd (upd H2 ru (.lst ((R.take g).map V.int))) ru (.lst ((R.take g).map V.int ++ [V.int (r + fg)])) = H4 at q4 e4
    -- the younger ones
    obtain ⟨ba, xs, rfl, hba, hxl⟩ := book_len (dp_up hb q4) hB
    refine ⟨_, rfl, _, _, rfl, rfl, _, rfl, ba, xs, rfl, hba, _, _, rfl, ⟨by omega, by omega, by omega, by omega⟩, ?_⟩
    have en : (((xs.length : Nat) : Int) - (((g : Nat) : Int) + 1)).toNat = B.length - (g + 1) := by omega
    rw [en]
    refine for_range (lo := (g : Int) + 1) (n := B.length - (g + 1)) (fun j σ H5 => ∃ y6 : Option V, σ = [some (.ref ba), some (.ref a), some (.int (g : Nat)), some (.ref ra), some (.ref fa), some (.ref ru), y6, none, none, none] ∧ H5 ru = some (.lst ((goB B Fc j (R.take g ++ [r + fg])).map V.int)) ∧ Same H H5)
      ⟨none, rfl, e4, q4⟩ (fun j σ H5 hj hP => ?_) (fun σ H5 hP => ?_)
    · obtain ⟨y6, rfl, hru, sm⟩ := hP
      have gl := goB_len B Fc j (R.take g ++ [r + fg])
      rw [t2] at gl
      have gs := goB_stands (F := Fc) hG j (R.take g ++ [r + fg]) (by rw [t2]; omega) (by rw [t2]; exact t1)
      rw [t2] at gs
      obtain ⟨n2, l1, l2, l3⟩ := len_ex hG (show g + 1 + j < B.length by omega) gs
      have hF2 : Fc[g + 1 + j]? = some Fc[g + 1 + j] := List.getElem?_eq_getElem (by omega)
      have ej : ((g : Nat) : Int) + 1 + (j : Nat) = ((g + 1 + j : Nat) : Int) := by omega
      have step : goB B Fc (j + 1) (R.take g ++ [r + fg]) = goB B Fc j (R.take g ++ [r + fg]) ++ [endR n2 Fc[g + 1 + j]] := by
        rw [goB_snoc, gl, l1, hF2]; rfl
      refine ⟨_, rfl, .inl ⟨rfl, _, SqL.of hru⟩, ?_⟩
      refine ⟨_, rfl, _, rfl, _, rfl, _, _, g + 1 + j, bd, rowL (goB B Fc j (R.take g ++ [r + fg])), B, _, n2, ?_, dp_up hb sm, hB, dp_lst_ints hru, rowL_row _, l1, ?_⟩
      · show [V.ref ba, V.ref ru, V.int ((g : Int) + 1 + (j : Int))] = _
        rw [ej]
      refine ⟨_, rfl, _, rfl, ix_of (sq_mono (hid_le.trans sm) hfa) (v := V.int Fc[g + 1 + j]) ?_ ?_⟩
      · rw [ej]; exact atI_nat (by rw [List.getElem?_map, hF2]; rfl)
      refine ⟨_, _, rfl, ru, _, _, rfl, rfl, hru, ?_, _, rfl, ?_, fun c o ec => ?_⟩
      · rw [List.length_map]; exact small1000 (by omega)
      · rw [upd_same, step, List.map_append]; rfl
      · rw [upd_ne (ne_of_none ec nruH)]; exact sm _ _ ec
    obtain ⟨y6, rfl, hru5, q5⟩ := hP
    generalize hR2 : goB B Fc (B.length - (g + 1)) (R.take g ++ [r + fg]) = R2 at hru5
    -- kept
    have eg : ((g : Nat) : Int) + 1 = ((g + 1 : Nat) : Int) := by omega
    refine ⟨_, rfl, _, rfl, _, _, rfl, rfl, _, rfl, fa, _, rfl, sq_mono (hid_le.trans q5) hfa, fun c2 H6 s6 hc2 => ?_⟩
    rw [cut_ints, show HT.sIx Fc.length Fc.length (some (((g : Nat) : Int) + 1)) = min (g + 1) Fc.length from by rw [eg]; exact HT.sIx_nat _ _ _, HT.sIx_none, List.drop_zero, Nat.sub_zero, show min (g + 1) Fc.length = g + 1 by omega] at hc2
    have q6 := q5.trans s6
    refine ⟨c2, _, rfl, hc2, fun ke nke => ?_⟩
    have s7 := same_new (o := .lst ((Fc.take (g + 1)).map V.int)) nke
    have q7 := q6.trans s7
    have eke : (upd H6 ke (.lst ((Fc.take (g + 1)).map V.int))) ke = some (.lst ((Fc.take (g + 1)).map V.int)) := upd_same
    have eru7 := s7 _ _ (s6 _ _ hru5)
    generalize upd H6 ke (.lst ((Fc.take (g + 1)).map V.int)) = H7 at q7 eke eru7
    -- negated
    refine ⟨_, rfl, _, rfl, _, _, rfl, rfl, _, rfl, fa, _, rfl, sq_mono (hid_le.trans q7) hfa, fun c3 H8 s8 hc3 => ?_⟩
    rw [cut_ints, show HT.sIx Fc.length 0 (some (((g : Nat) : Int) + 1)) = min (g + 1) Fc.length from by rw [eg]; exact HT.sIx_nat _ _ _, HT.sIx_none, show min (g + 1) Fc.length = g + 1 by omega, show (Fc.drop (g + 1)).take (Fc.length - (g + 1)) = Fc.drop (g + 1) from List.take_of_length_le (by rw [List.length_drop]; exact Nat.le_refl _)] at hc3
    have q8 := q7.trans s8
    obtain ⟨bb, hbb⟩ := hc3.kind
    refine ⟨c3, (Fc.drop (g + 1)).map V.int, bb, rfl, hbb, fun J wJ => fun D nD => ?_⟩
    have sD := same_new (o := .lst []) nD
    refine lc_it wJ (fun i H9 => H9 D = some (.lst ((negL ((Fc.drop (g + 1)).take i)).map V.int)) ∧ Same H8 H9) ⟨upd_same, sD⟩ (fun i H9 _ hP => hbb.up hP.2) (fun i v H9 H10 hi hP hy => ?_) (fun H9 hP => ?_)
    · obtain ⟨hD, sm⟩ := hP
      obtain ⟨rfl, e1⟩ := hy
      rw [List.getElem?_map] at e1
      cases e : (Fc.drop (g + 1))[i]? with
      | none => rw [e] at e1; cases e1
      | some x =>
        rw [e] at e1
        cases e1
        refine ⟨rfl, yesT ?_⟩
        refine ⟨_, rfl, _, rfl, _, hD, ?_, ?_, fun c o ec => ?_⟩
        · rw [List.length_map, negL_len, List.length_take, List.length_drop]; exact small1000 (by omega)
        · rw [upd_same, List.take_add_one, e]
          show _ = some (HO.lst ((negL ((Fc.drop (g + 1)).take i ++ [x])).map V.int))
          unfold negL
          rw [List.map_append, List.map_append]; rfl
        · rw [upd_ne (ne_of_none ec nD)]; exact sm _ _ ec
    obtain ⟨hD, s9⟩ := hP
    rw [List.length_map, List.take_length] at hD
    have q9 := q8.trans s9
    have eru9 := s9 _ _ (s8 _ _ eru7)
    have eke9 := s9 _ _ (s8 _ _ eke)
    have hz9 : H9 z ≠ none := fun e => hz (q9.free e)
    -- the end
    refine ⟨_, rfl, z, ru, R2, rfl, hz9, .inl (SqL.of (by rw [hid_ne nruz]; exact eru9)), fun t H10 s10 ht => ?_⟩
    have q10 := q9.trans s10
    refine ⟨_, rfl, _, rfl, ke, D, _, _, rfl, rfl, s10 _ _ eke9, s10 _ _ hD, ?_, fun u nu => ?_⟩
    · rw [List.length_map, List.length_map, List.length_take, negL_len, List.length_drop]
      exact Nat.le_of_lt (small1000 (by omega))
    have s11 := same_new (o := .lst ((Fc.take (g + 1)).map V.int ++ (negL (Fc.drop (g + 1))).map V.int)) nu
    have q11 := q10.trans s11
    have nuz : u ≠ z := fun e => hz (by rw [← e]; exact q10.free nu)
    have hz11 := fun e => hz (q11.free (l := z) e)
    refine ⟨z, u, Fc.take (g + 1) ++ negL (Fc.drop (g + 1)), rfl, hz11, .inl (SqL.of (by rw [hid_ne nuz, upd_same, List.map_append])), fun t2 H12 s12 ht2 => ?_⟩
    have q12 := q11.trans s12
    refine ⟨by show 2 ≤ sizeLine; decide, fun p np => ?_⟩
    have sp := same_new (o := .tup [.ref t, .ref t2]) np
    have npz : p ≠ z := fun e => hz (by rw [← e]; exact q12.free np)
    refine q p _ (q12.trans sp) ?_
    have e : beatM B (R, Fc) = (R2, Fc.take (g + 1) ++ negL (Fc.drop (g + 1))) := by
      unfold beatM
      rw [show moverO B (R, Fc).1 (R, Fc).2 = some g from hm]
      show (goB B Fc _ (R.take g ++ [R[g]?.getD 0 + Fc[g]?.getD 0]), _) = _
      rw [e2, e3, ← hR2]; rfl
    rw [e]
    exact .tup (.inl (.inl (by rw [hid_ne npz, upd_same]))) (.cons (dp_up ht (hid_mono ((s11.trans s12).trans sp))) (.cons (dp_up ht2 (hid_mono sp)) .nil))
end
end Af
namespace Af
open PySem PySem.Spec PyProof.Rows L2
section
variable {P : Program} {w : World} {K : PySem.W.Frag} {mg : Str → Option Value} {base : Heap}
/-! beats_along -/
theorem call_tupS {X : Cx} : CallR X (.type "tuple") (fun xs H Q => ∃ (a : Addr) (ns : List Int), xs = [.ref a] ∧ Sq X.K H a (ns.map V.int) ∧ ∀ (p : Addr) (H' : Hp), Same H H' → Dp X.K H' (.ref p) (rowT ns) → Q (.ref p) H') := by
  intro pins s σ H xs us Q I r h
  obtain ⟨a, ns, rfl, hq, q⟩ := h
  refine call_tuple_of pins s σ H _ us Q I r ?_
  rcases hq with h | h
  · exact ⟨a, _, rfl, .inl ⟨h, fun l nl => q l _ (same_new nl) (.tup (.inl (.inl upd_same)) (dps_ints ns))⟩⟩
  · exact ⟨a, _, rfl, .inr ⟨h, q a H (Same.refl _) (.tup h (dps_ints ns))⟩⟩
theorem same_hid {H : Hp} {p : Addr} {o : HO} (hp : H p = none) : Same H (hid (upd H p o) p) := fun c x ec => by
  have n := ne_of_none ec hp
  rw [hid_ne n, upd_ne n]; exact ec
theorem along_at (B : List (List Int)) (n : Nat) (S : List Int × List Int) : (alongL B n S)[n]? = some (itB B n S) := by
  have h := alongL_last B n S
  rw [List.getLast?_eq_getElem?, alongL_len] at h
  exact h
def spAlong (K : PySem.W.Frag) : Sp := fun vs H Q _ => ∃ (b st : V) (bd sd : PyData) (B : List (List Int)) (hi : Int) (S : List Int × List Int) (many : Nat), vs = [b, st, .int many] ∧ Dp K H b bd ∧ BookD bd B ∧ Dp K H st sd ∧ StateD sd S.1 S.2 ∧ B.length ≤ 1000 ∧ GoodB B hi ∧ Ok B S ∧ many ≤ 1000 ∧
  ∀ (p : Addr) (H' : Hp) (vs : List V), H p = none → Same H H' → H' p = some (.lst vs) → DpAll K (hid H' p) vs ((alongL B many S).map stD) → Q (.ref p) H'
theorem ok_along {f fB : Addr} {fd fdB : FuncData} {k : Nat} (T : Bl mg) (F : Fun K "beats_along" "beats_along" sBeatsAlong f fd)
    (DB : Df K mg "beat" sBeat ["book", "state"] fB fdB) (GB : FnOk P w K mg base CX0 k fB fdB ["book", "state"] (spBeat K)) :
    FnOk P w K mg base CX0 (k + 1) f fd ["book", "state", "many"] (spAlong K) := by
  refine F.ok scBeatsAlong (fun vs H Q E h => ?_) (fun cdv A outer s H vs Q E hr h => ?_)
  · obtain ⟨_, _, _, _, _, _, _, _, rfl, _⟩ := h; rfl
  obtain ⟨b, st, bd, sd, B, hi, S, many, rfl, hb, hB, hst, hSt, hlen, hG, hOk, hmany, q⟩ := h
  have nd := scBeatsAlong.nd
  refine ⟨_, pss_cons (ps_asg (pv 1) (pg_seq rfl (pgs_cons (pg_name (i := 3) nd rfl (.inl rfl)) (pgs_cons (pg_name (i := 4) nd rfl (.inl rfl)) pgs_nil))))
    (pss_cons (ps_set (i := 5) nd rfl (.inl rfl) (pe_lst (pa_cons (pe_tup (pa_cons (pe_callTy call_tupS rfl T.tuple bTuple (pa_cons (pv 3) pa_nil)) (pa_cons (pe_callTy call_tupS rfl T.tuple bTuple (pa_cons (pv 4) pa_nil)) pa_nil))) pa_nil)))
    (pss_cons (ps_for PassesOwn.never rfl (pi_range1 rfl T.range (pa_cons (pv 2) pa_nil)) (pg_name (i := 6) nd rfl (.inl rfl))
      (pss_one (ps_expr (pe_bm PySem.F.plainAttrs_list PySem.F.slot_list_append PySem.F.type_list_append mt_append (pv 5) (pa_cons (pe_do DB GB hr rfl (pa_cons (pv 0) (pa_cons (pe_ix ix_list (pv 5) (pv 6) (fun _ _ => rfl)) pa_nil))) pa_nil)))))
    (pss_one (ps_ret (pv 5))))), ?_⟩
  obtain ⟨a, rv, fv, rd, fcd, rfl, hq, hr', hR, hf', hFd⟩ := state_at hst hSt
  obtain ⟨ra, rfl, hra⟩ := row_at hr' hR
  obtain ⟨fa, rfl, hfa⟩ := row_at hf' hFd
  refine ⟨_, rfl, a, _, rfl, hq, rfl, _, _, rfl, _, _, rfl, rfl, ?_⟩
  refine ⟨_, rfl, ra, S.1, rfl, hra, fun t1 H1 s1 h1 => ?_⟩
  refine ⟨_, rfl, fa, S.2, rfl, sq_mono s1 hfa, fun t2 H2 s2 h2 => ?_⟩
  refine ⟨by show 2 ≤ sizeLine; decide, fun t3 n3 => ?_⟩
  have s3 := same_new (o := .tup [.ref t1, .ref t2]) n3
  refine ⟨by show 1 ≤ sizeLine; decide, fun p np => ?_⟩
  have c3 := (s1.trans s2).trans s3
  have npH : H p = none := c3.free np
  have s4 := same_new (o := .lst [.ref t3]) np
  refine ⟨_, rfl, _, rfl, by omega, by omega, ?_⟩
  have en : ((many : Nat) : Int).toNat = many := by omega
  rw [en]
  refine for_range (lo := 0) (n := many) (fun i σ H5 => ∃ (y6 : Option V) (vs : List V), σ = [some b, some (.ref a), some (.int many), some (.ref ra), some (.ref fa), some (.ref p), y6] ∧ H5 p = some (.lst vs) ∧ DpAll K (hid H5 p) vs ((alongL B i S).map stD) ∧ Same H H5)
    ⟨none, [.ref t3], rfl, upd_same, .cons (dp_up (.tup (.inl (.inl upd_same)) (.cons (dp_up h1 (s2.trans s3)) (.cons (dp_up h2 s3) .nil))) (same_hid np)) .nil, c3.trans s4⟩ (fun i σ H5 hi5 hP => ?_) (fun σ H5 hP => ?_)
  · obtain ⟨y6, vs, rfl, hp, hvs, sm⟩ := hP
    have hl := dps_len hvs
    rw [List.length_map, alongL_len] at hl
    obtain ⟨v, ev, dv⟩ := dps_get (i := i) (d := stD (itB B i S)) hvs (by rw [List.getElem?_map, along_at]; rfl)
    refine ⟨_, rfl, .inl ⟨rfl, _, SqL.of hp⟩, ?_⟩
    refine ⟨_, rfl, _, rfl, _, rfl, p, _, _, v, rfl, rfl, SqL.of hp, ?_, ?_⟩
    · rw [Int.zero_add]; exact atI_nat ev
    refine ⟨p, b, v, bd, stD (itB B i S), B, hi, itB B i S, rfl, (by rw [hp]; exact fun z => nomatch z), dp_up hb sm, hB, dv, stateT_state _ _, hlen, hG, itB_ok hG i hOk, fun r H6 s6 hr6 => ?_⟩
    refine ⟨p, _, _, rfl, rfl, s6 _ _ hp, ?_, _, vs ++ [.ref r], rfl, upd_same, ?_, fun c o ec => ?_⟩
    · rw [hl]; exact small1000 (by omega)
    · rw [hid_upd, alongL_succ, List.map_append]
      exact dps_app (dps_up hvs (hid_mono s6)) (.cons hr6 .nil)
    · rw [upd_ne (ne_of_none ec npH)]; exact s6 _ _ (sm _ _ ec)
  · obtain ⟨y6, vs, rfl, hp, hvs, sm⟩ := hP
    exact ⟨_, rfl, q p H5 vs npH sm hp hvs⟩
end
end Af
namespace Af
open PySem PySem.Spec PyProof.Rows L2
section
variable {P : Program} {w : World} {K : PySem.W.Frag} {mg : Str → Option Value} {base : Heap}
/-! _law_beaten -/
def gv : Option Nat → Int
  | none => -1
  | some g => g
theorem set_mid (X Y : List Int) (y v : Int) : (X ++ y :: Y).set X.length v = X ++ v :: Y := by
  rw [List.set_append_right _ _ (Nat.le_refl _), Nat.sub_self]; rfl
theorem get_mid (X Y : List Int) (y : Int) : (X ++ y :: Y)[X.length]? = some y := by
  rw [List.getElem?_append_right (Nat.le_refl _), Nat.sub_self]; rfl
theorem drop_at {R : List Int} {c : Nat} {r : Int} (e : R[c]? = some r) : R.drop c = r :: R.drop (c + 1) := by
  obtain ⟨h, e2⟩ := List.getElem?_eq_some_iff.mp e
  rw [List.drop_eq_getElem_cons h, e2]
theorem negL_take {F : List Int} {j : Nat} {f : Int} (e : F[j]? = some f) : negL (F.take (j + 1)) = negL (F.take j) ++ [0 - f] := by
  rw [List.take_add_one, e, Int.zero_sub]
  unfold negL
  rw [List.map_append]; rfl
def spBeaten (K : PySem.W.Frag) : Sp := fun vs H Q _ => ∃ (sh st : V) (B : List (List Int)) (hi : Int) (S : List Int × List Int), vs = [sh, st] ∧ Dp K H sh (bookT B) ∧ Dp K H st (stD S) ∧ B.length ≤ 1000 ∧ GoodB B hi ∧ Ok B S ∧
  ∀ (p : Addr) (H' : Hp), Same H H' → NewD K H H' (.ref p) (stD (beatM B S)) → Q (.ref p) H'
theorem ok_beaten {f fL : Addr} {fd fdL : FuncData} {k : Nat} (T : Bl mg) (F : Fun K "_law_beaten" "_law_beaten" sLawBeaten f fd)
    (DL : Df K mg "_law_ladder" sLawLadder ["_law_shelf", "_law_rungs", "_law_who"] fL fdL) (GL : FnOk P w K mg base CX0 k fL fdL ["_law_shelf", "_law_rungs", "_law_who"] (spLengthOf K)) :
    FnOk P w K mg base CX0 (k + 1) f fd ["_law_shelf", "_law_spot"] (spBeaten K) := by
  refine F.ok scLawBeaten (fun vs H Q E h => ?_) (fun cdv A outer s H vs Q E hr h => ?_)
  · obtain ⟨_, _, _, _, _, rfl, _⟩ := h; rfl
  obtain ⟨sh, st, B, hi, ⟨R, Fc⟩, rfl, hsh, hst, hlen, hG, hOk, q⟩ := h
  have nd := scLawBeaten.nd
  have hS : Stands B R := hOk.st
  have hFl : Fc.length = B.length := hOk.fl
  have hRl : R.length = B.length := hS.len
  refine ⟨_, pss_cons (ps_par3 (i := 2) (j := 3) (l := 4) (by rfl) nd rfl rfl rfl (by decide) (by decide) (by decide) rfl rfl rfl
      (pa_cons (pe_callTy call_list_of rfl T.list bList (pa_cons (pe_ix ix_tup (pv 1) pe_int (fun _ _ => rfl)) pa_nil)) (pa_cons (pe_callTy call_list_of rfl T.list bList (pa_cons (pe_ix ix_tup (pv 1) pe_int (fun _ _ => rfl)) pa_nil)) (pa_cons (pe_un un_neg pe_int) pa_nil))) (by rfl))
    (pss_cons (ps_for PassesOwn.never rfl (pi_range1 rfl T.range (pa_cons (pe_callB call_len_seq rfl T.len bLen (pa_cons (pv 0) pa_nil)) pa_nil)) (pg_name (i := 5) nd rfl (.inl rfl))
      (pss_one (ps_if (pt_cmpR op_ne (pe_ix ix_list (pv 2) (pv 5) (fun _ _ => rfl)) (pe_ifExp (pt_cmpR op_eq (pe_ix ix_list (pv 3) (pv 5) (fun _ _ => rfl)) pe_int (nomark _)) (pe_do DL GL hr rfl (pa_cons (pv 0) (pa_cons (pv 2) (pa_cons (pv 5) pa_nil)))) pe_int) (nomark _))
        (pss_one (ps_set (i := 4) nd rfl (.inl rfl) (pv 5))) pss_nil)))
    (pss_cons (ps_if (pt_cmpR op_ge (pv 4) pe_int (nomark _)) (pss_one (ps_asg (pe_op op_add (pe_ix ix_list (pv 2) (pv 4) (fun _ _ => rfl)) (pe_ix ix_list (pv 3) (pv 4) (fun _ _ => rfl))) (pg_sub (pv 2) (pv 4) set_list))) pss_nil)
    (pss_cons (ps_for PassesOwn.never rfl (pi_range2 rfl T.range (pa_cons (pe_op op_add (pv 4) pe_int) (pa_cons (pe_callB call_len_seq rfl T.len bLen (pa_cons (pv 0) pa_nil)) pa_nil))) (pg_name (i := 5) nd rfl (.inl rfl))
      (pss_cons (ps_if (PW.pt (pw_and (pt_cmpR op_ge (pv 4) pe_int (nomark _)) (pw_and1 (pt_cmpR op_eq (pe_ix ix_list (pv 3) (pv 5) (fun _ _ => rfl)) pe_int (nomark _)))))
        (pss_one (ps_asg (pe_do DL GL hr rfl (pa_cons (pv 0) (pa_cons (pv 2) (pa_cons (pv 5) pa_nil)))) (pg_sub (pv 2) (pv 5) set_list))) pss_nil)
      (pss_one (ps_asg (pe_op op_sub pe_int (pe_ix ix_list (pv 3) (pv 5) (fun _ _ => rfl))) (pg_sub (pv 3) (pv 5) set_list)))))
    (pss_one (ps_ret (pe_tup (pa_cons (pe_callTy call_tuple_of rfl T.tuple bTuple (pa_cons (pv 2) pa_nil)) (pa_cons (pe_callTy call_tuple_of rfl T.tuple bTuple (pa_cons (pv 3) pa_nil)) pa_nil)))))))), ?_⟩
  obtain ⟨a, ra, fa, rfl, hq, hra, hfa⟩ := state_tup hst
  refine ⟨_, rfl, a, _, 0, _, rfl, rfl, hq, atI_nat (j := 0) rfl, ra, _, rfl, .inr hra, fun ru nru => ?_⟩
  have s1 := same_new (o := .lst (R.map V.int)) nru
  refine ⟨_, rfl, a, _, 1, _, rfl, rfl, sqt_mono s1 hq, atI_nat (j := 1) rfl, fa, _, rfl, .inr (sqt_mono s1 hfa), fun lk nlk => ?_⟩
  have s2 := same_new (o := .lst (Fc.map V.int)) nlk
  have c2 := s1.trans s2
  have nlkH : H lk = none := s1.free nlk
  have nrl : ru ≠ lk := fun e => by rw [← e, upd_same] at nlk; cases nlk
  have eru : (upd (upd H ru (.lst (R.map V.int))) lk (.lst (Fc.map V.int))) ru = some (.lst (R.map V.int)) := s2 _ _ upd_same
  have elk : (upd (upd H ru (.lst (R.map V.int))) lk (.lst (Fc.map V.int))) lk = some (.lst (Fc.map V.int)) := upd_same
  refine ⟨1, rfl, _, _, _, rfl, ?_⟩
  generalize upd (upd H ru (.lst (R.map V.int))) lk (.lst (Fc.map V.int)) = H2 at c2 eru elk
  -- who goes
  obtain ⟨ba, xs, rfl, hba, hxl⟩ := book_len (dp_up hsh c2) (bookT_book B)
  refine ⟨_, rfl, ba, xs, rfl, hba, _, rfl, by omega, by omega, ?_⟩
  have en : ((xs.length : Nat) : Int).toNat = B.length := by omega
  rw [en]
  refine for_range (lo := 0) (n := B.length) (fun j σ H3 => ∃ y5 : Option V, σ = [some (.ref ba), some (.ref a), some (.ref ru), some (.ref lk), some (.int (gv (movN B R Fc j))), y5] ∧ H3 = H2) ⟨none, rfl, rfl⟩ (fun j σ H3 hj hP => ?_) (fun σ H3 hP => ?_)
  · obtain ⟨y5, rfl, rfl⟩ := hP
    obtain ⟨n, rr, e1, e2, _, _⟩ := hS.all j hj
    have e3 : Fc[j]? = some Fc[j] := List.getElem?_eq_getElem (by omega)
    have ei : (0 : Int) + (j : Int) = (j : Nat) := Int.zero_add _
    refine ⟨_, rfl, _, rfl, ru, _, _, V.int rr, rfl, rfl, SqL.of eru, ?_, ?_⟩
    · rw [ei]; exact atI_nat (j := j) (by rw [List.getElem?_map, e2]; rfl)
    refine ⟨_, rfl, _, rfl, lk, _, _, V.int Fc[j], rfl, rfl, SqL.of elk, ?_, ?_⟩
    · rw [ei]; exact atI_nat (j := j) (by rw [List.getElem?_map, e3]; rfl)
    have fin : ∀ v : Int, v = endR n Fc[j] → (if (!decide (V.int rr = V.int v)) = true then ∃ y5 : Option V, [some (V.ref ba), some (V.ref a), some (V.ref ru), some (V.ref lk), some (V.int (0 + (j : Int))), some (V.int (0 + (j : Int)))] = [some (.ref ba), some (.ref a), some (.ref ru), some (.ref lk), some (.int (gv (movN B R Fc (j + 1)))), y5] ∧ H3 = H3
        else ∃ y5 : Option V, [some (V.ref ba), some (V.ref a), some (V.ref ru), some (V.ref lk), some (V.int (gv (movN B R Fc j))), some (V.int (0 + (j : Int)))] = [some (.ref ba), some (.ref a), some (.ref ru), some (.ref lk), some (.int (gv (movN B R Fc (j + 1)))), y5] ∧ H3 = H3) := by
      intro v hv
      have z := isBl_iff (F := Fc) e1 e2 e3
      rw [movN_succ]
      by_cases hb : isBl B R Fc j = true
      · have e : V.int rr = V.int v := by rw [hv, z.mp hb]
        rw [decide_eq_true e, if_pos hb]
        exact iteF ⟨_, rfl, rfl⟩
      · have e : ¬ V.int rr = V.int v := fun e => hb (z.mpr (by rw [← hv]; exact V.int.inj e))
        rw [decide_eq_false e, if_neg hb, ei]
        exact iteT ⟨_, rfl, rfl⟩
    refine ⟨rfl, _, rfl, ite2 (fun c1 => ?_) (fun c1 => ?_)⟩
    · have ef : Fc[j] = 1 := V.int.inj (of_decide_eq_true c1)
      refine ⟨_, rfl, _, rfl, _, rfl, _, _, j, bookT B, rowL R, B, R, n, ?_, dp_up hsh c2, bookT_book B, dp_lst_ints eru, rowL_row R, e1, rfl, _, rfl, ?_⟩
      · show [V.ref ba, V.ref ru, V.int (0 + (j : Int))] = _
        rw [ei]
      have f0 := fin n (by unfold endR; rw [if_pos ef])
      refine ite2 (fun c => ?_) (fun c => ?_)
      · rw [if_pos c] at f0; exact ⟨_, rfl, f0⟩
      · rw [if_neg c] at f0; exact f0
    · have ef : ¬ Fc[j] = 1 := fun z => c1 (decide_eq_true (by rw [z]))
      refine ⟨rfl, _, rfl, ?_⟩
      have f0 := fin 1 (by unfold endR; rw [if_neg ef])
      refine ite2 (fun c => ?_) (fun c => ?_)
      · rw [if_pos c] at f0; exact ⟨_, rfl, f0⟩
      · rw [if_neg c] at f0; exact f0
  obtain ⟨y5, rfl, rfl⟩ := hP
  -- the end of both ways
  have done : ∀ (R2 F2 : List Int) (H5 : Hp), R2.length ≤ 1000 → beatM B (R, Fc) = (R2, F2) → Same H H5 → H5 ru = some (.lst (R2.map V.int)) → H5 lk = some (.lst (F2.map V.int)) → ∀ (y4 y5 : Option V),
      tRet (tTup (tCons (tCB (fun xs H Q => ∃ p ys, xs = [.ref p] ∧ ((SqL K H p ys ∧ ∀ l, H l = none → Q (.ref l) (upd H l (.tup ys))) ∨ (SqT K H p ys ∧ Q (.ref p) H))) (tCons (tVar 2) tNil)) (tCons (tCB (fun xs H Q => ∃ p ys, xs = [.ref p] ∧ ((SqL K H p ys ∧ ∀ l, H l = none → Q (.ref l) (upd H l (.tup ys))) ∨ (SqT K H p ys ∧ Q (.ref p) H))) (tCons (tVar 3) tNil)) tNil)))
        { nx := fun _ H' => Q .non H', rt := Q } [some (.ref ba), some (.ref a), some (.ref ru), some (.ref lk), y4, y5] H5 := by
    intro R2 F2 H5 _ eb sm h1 h2 y4 y5
    refine ⟨_, rfl, ru, _, rfl, .inl ⟨SqL.of h1, fun t nt => ?_⟩⟩
    have st' := same_new (o := .tup (R2.map V.int)) nt
    refine ⟨_, rfl, lk, _, rfl, .inl ⟨SqL.of (st' _ _ h2), fun u nu => ?_⟩⟩
    have su := same_new (o := .tup (F2.map V.int)) nu
    refine ⟨by show 2 ≤ sizeLine; decide, fun p np => ?_⟩
    have sp := same_new (o := .tup [.ref t, .ref u]) np
    have ntH := sm.free nt
    have nuH := (sm.trans st').free nu
    have npH := ((sm.trans st').trans su).free np
    refine q p _ (((sm.trans st').trans su).trans sp) ?_
    rw [eb]
    exact new_tup npH upd_same (.cons (new_tup ntH (sp _ _ (su _ _ upd_same)) (new_ints R2)) (.cons (new_tup nuH (sp _ _ upd_same) (new_ints F2)) .nil))
  cases hm : moverO B R Fc with
  | none =>
    have hm' : movN B R Fc B.length = none := hm
    rw [hm']
    have eb : beatM B (R, Fc) = (R, negL Fc) := by unfold beatM; rw [show moverO B (R, Fc).1 (R, Fc).2 = none from hm]; rfl
    refine ⟨_, rfl, _, _, rfl, rfl, _, rfl, iteF ?_⟩
    refine ⟨_, rfl, _, _, rfl, rfl, _, rfl, ba, xs, rfl, hba, _, _, rfl, ⟨by decide, by decide, by omega, by omega⟩, ?_⟩
    have en2 : (((xs.length : Nat) : Int) - (-1 + 1)).toNat = B.length := by omega
    rw [show gv none + 1 = -1 + 1 from rfl, en2]
    refine for_range (lo := -1 + 1) (n := B.length) (fun j σ H5 => ∃ y5 : Option V, σ = [some (.ref ba), some (.ref a), some (.ref ru), some (.ref lk), some (.int (-1)), y5] ∧ H5 ru = some (.lst (R.map V.int)) ∧ H5 lk = some (.lst ((negL (Fc.take j) ++ Fc.drop j).map V.int)) ∧ Same H H5)
      ⟨_, rfl, eru, elk, c2⟩ (fun j σ H5 hj hP => ?_) (fun σ H5 hP => ?_)
    · obtain ⟨y5, rfl, h1, h2, sm⟩ := hP
      have e3 : Fc[j]? = some Fc[j] := List.getElem?_eq_getElem (by omega)
      have ei : (-1 + 1 : Int) + (j : Int) = (j : Nat) := by omega
      have hX : (negL (Fc.take j)).length = j := by rw [negL_len, List.length_take]; omega
      rw [drop_at e3] at h2
      refine ⟨_, rfl, _, _, rfl, rfl, _, rfl, iteF (iteF ?_)⟩
      refine ⟨_, rfl, _, rfl, lk, _, _, V.int Fc[j], rfl, rfl, SqL.of h2, ?_, ?_⟩
      · rw [ei]
        refine atI_nat (j := j) ?_
        rw [List.getElem?_map]
        have z := get_mid (negL (Fc.take j)) (Fc.drop (j + 1)) Fc[j]
        rw [hX] at z
        rw [z]; rfl
      refine ⟨_, _, rfl, rfl, _, rfl, _, rfl, lk, _, _, j, rfl, rfl, h2, ?_, _, rfl, ?_, ?_, fun c o ec => ?_⟩
      · rw [ei]
        refine ixN_nat ?_
        rw [List.length_map, List.length_append, hX, List.length_cons]; omega
      · rw [upd_ne nrl]; exact h1
      · rw [upd_same, ← List.map_set]
        have z := set_mid (negL (Fc.take j)) (Fc.drop (j + 1)) Fc[j] (0 - Fc[j])
        rw [hX] at z
        rw [z, negL_take e3, List.append_assoc]; rfl
      · rw [upd_ne (ne_of_none ec nlkH)]; exact sm _ _ ec
    · obtain ⟨y5, rfl, h1, h2, sm⟩ := hP
      rw [← hFl, List.take_length, List.drop_length, List.append_nil] at h2
      exact done R (negL Fc) H5 (by omega) eb sm h1 h2 _ _
  | some g =>
    have hm' : movN B R Fc B.length = some g := hm
    rw [hm']
    obtain ⟨n, r, fg, hg, e1, e2, e3, r1, r2, hne, hf, v1, v2⟩ := mover_new hG hOk hm
    obtain ⟨_, _, hbl⟩ := movN_some (n := B.length) hm
    obtain ⟨t1, t2⟩ := take_stands (v := r + fg) hS hg e1 v1 v2
    have eb : beatM B (R, Fc) = (goB B Fc (B.length - (g + 1)) (R.take g ++ [r + fg]), Fc.take (g + 1) ++ negL (Fc.drop (g + 1))) := by
      unfold beatM
      rw [show moverO B (R, Fc).1 (R, Fc).2 = some g from hm]
      show (goB B Fc _ (R.take g ++ [R[g]?.getD 0 + Fc[g]?.getD 0]), _) = _
      rw [e2, e3]; rfl
    have hTl : (R.take g).length = g := by rw [List.length_take]; omega
    refine ⟨_, rfl, _, _, rfl, rfl, _, rfl, ite2 (fun _ => ?_) (fun c => (c (decide_eq_true (show (0 : Int) ≤ (g : Nat) by omega))).elim)⟩
    refine ⟨_, rfl, _, rfl, ru, _, ((g : Nat) : Int), V.int r, rfl, rfl, SqL.of eru, atI_nat (j := g) (by rw [List.getElem?_map, e2]; rfl), _, rfl, _, rfl, lk, _, ((g : Nat) : Int), V.int fg, rfl, rfl, SqL.of elk, atI_nat (j := g) (by rw [List.getElem?_map, e3]; rfl), _, _, rfl, rfl, ?_⟩
    refine ⟨_, rfl, _, rfl, ru, _, ((g : Nat) : Int), g, rfl, rfl, eru, ixN_nat (by rw [List.length_map]; omega), ?_⟩
    have c5 : Same H (upd H3 ru (.lst ((R.map V.int).set g (V.int (r + fg))))) := fun c o ec => by
      rw [upd_ne (ne_of_none ec nru)]; exact c2 _ _ ec
    have eru5 : (upd H3 ru (.lst ((R.map V.int).set g (V.int (r + fg))))) ru = some (.lst ((R.take g ++ [r + fg] ++ R.drop (g + 1)).map V.int)) := by
      rw [upd_same, ← List.map_set]
      have z := set_mid (R.take g) (R.drop (g + 1)) r (r + fg)
      rw [hTl, ← drop_at e2, List.take_append_drop] at z
      rw [z, List.append_assoc]; rfl
    have elk5 : (upd H3 ru (.lst ((R.map V.int).set g (V.int (r + fg))))) lk = some (.lst (Fc.map V.int)) := by rw [upd_ne nrl.symm]; exact elk
    generalize upd H3 ru (.lst ((R.map V.int).set g (V.int (r + fg)))) = H5 at c5 eru5 elk5
    obtain ⟨ba2, xs2, eba, hba2, hxl2⟩ := book_len (dp_up hsh c5) (bookT_book B)
    cases eba
    refine ⟨_, rfl, _, _, rfl, rfl, _, rfl, ba, xs2, rfl, hba2, _, _, rfl, ⟨?_, ?_, by omega, by omega⟩, ?_⟩
    · show -(2 ^ 62) ≤ ((g : Nat) : Int) + 1
      omega
    · show ((g : Nat) : Int) + 1 < 2 ^ 62
      omega
    rw [show gv (some g) + 1 = ((g : Nat) : Int) + 1 from rfl, show (((xs2.length : Nat) : Int) - (((g : Nat) : Int) + 1)).toNat = B.length - (g + 1) by omega]
    refine for_range (lo := ((g : Nat) : Int) + 1) (n := B.length - (g + 1)) (fun j σ H6 => ∃ y5 : Option V, σ = [some (.ref ba), some (.ref a), some (.ref ru), some (.ref lk), some (.int (g : Nat)), y5] ∧ H6 ru = some (.lst ((goB B Fc j (R.take g ++ [r + fg]) ++ R.drop (g + 1 + j)).map V.int)) ∧ H6 lk = some (.lst ((Fc.take (g + 1) ++ negL ((Fc.drop (g + 1)).take j) ++ Fc.drop (g + 1 + j)).map V.int)) ∧ Same H H6)
      ⟨_, rfl, eru5, ?_, c5⟩ (fun j σ H6 hj hP => ?_) (fun σ H6 hP => ?_)
    · rw [elk5]
      show _ = some (HO.lst ((Fc.take (g + 1) ++ [] ++ Fc.drop (g + 1)).map V.int))
      rw [List.append_nil, List.take_append_drop]
    · obtain ⟨y5, rfl, h1, h2, sm⟩ := hP
      have gl := goB_len B Fc j (R.take g ++ [r + fg])
      rw [t2] at gl
      have gs := goB_stands (F := Fc) hG j (R.take g ++ [r + fg]) (by rw [t2]; omega) (by rw [t2]; exact t1)
      rw [t2] at gs
      obtain ⟨n2, l1, l2, l3⟩ := len_ex hG (show g + 1 + j < B.length by omega) gs
      obtain ⟨fj, hF2⟩ : ∃ fj, Fc[g + 1 + j]? = some fj := ⟨_, List.getElem?_eq_getElem (show g + 1 + j < Fc.length by omega)⟩
      obtain ⟨n3, rr, k1, k2, _, _⟩ := hS.all (g + 1 + j) (by omega)
      have kb := (isBl_iff (F := Fc) k1 k2 hF2).mp (hbl (g + 1 + j) (by omega) (by omega))
      have ej : ((g : Nat) : Int) + 1 + (j : Nat) = ((g + 1 + j : Nat) : Int) := by omega
      have step : goB B Fc (j + 1) (R.take g ++ [r + fg]) = goB B Fc j (R.take g ++ [r + fg]) ++ [endR n2 fj] := by
        rw [goB_snoc, gl, l1, hF2]; rfl
      have hLl : (Fc.take (g + 1) ++ negL ((Fc.drop (g + 1)).take j)).length = g + 1 + j := by
        rw [List.length_append, negL_len, List.length_take, List.length_take, List.length_drop]; omega
      rw [drop_at k2] at h1
      rw [drop_at hF2] at h2
      generalize hgR : goB B Fc j (R.take g ++ [r + fg]) = GR at gl l1 step h1
      generalize hgL : Fc.take (g + 1) ++ negL ((Fc.drop (g + 1)).take j) = GLk at hLl h2
      have gm1 := get_mid GLk (Fc.drop (g + 1 + j + 1)) fj
      rw [hLl] at gm1
      have nextL : GLk ++ [0 - fj] = Fc.take (g + 1) ++ negL ((Fc.drop (g + 1)).take (j + 1)) := by
        rw [← hgL, negL_take (F := Fc.drop (g + 1)) (by rw [List.getElem?_drop]; exact hF2), List.append_assoc]
      -- looks[who] = 0 - looks[who], from any heap in which rungs is right
      have rest : ∀ H7 : Hp, H7 ru = some (.lst ((goB B Fc (j + 1) (R.take g ++ [r + fg]) ++ R.drop (g + 1 + (j + 1))).map V.int)) → H7 lk = some (.lst ((GLk ++ fj :: Fc.drop (g + 1 + j + 1)).map V.int)) → Same H H7 →
          (tOp (rI0 fun i j => V.int (i - j)) (tC (V.int 0)) (tOp (rIxL K) (tVar 3) (tVar 5))) [some (.ref ba), some (.ref a), some (.ref ru), some (.ref lk), some (.int (g : Nat)), some (.int (((g : Nat) : Int) + 1 + (j : Nat)))] H7 (fun x H1 => gSub (tVar 3) (tVar 5) rSetL x [some (.ref ba), some (.ref a), some (.ref ru), some (.ref lk), some (.int (g : Nat)), some (.int (((g : Nat) : Int) + 1 + (j : Nat)))] H1 (fun σ H6 => ∃ y5 : Option V, σ = [some (.ref ba), some (.ref a), some (.ref ru), some (.ref lk), some (.int (g : Nat)), y5] ∧ H6 ru = some (.lst ((goB B Fc (j + 1) (R.take g ++ [r + fg]) ++ R.drop (g + 1 + (j + 1))).map V.int)) ∧ H6 lk = some (.lst ((Fc.take (g + 1) ++ negL ((Fc.drop (g + 1)).take (j + 1)) ++ Fc.drop (g + 1 + (j + 1))).map V.int)) ∧ Same H H6)) := by
        intro H7 h71 h72 sm7
        refine ⟨_, rfl, _, rfl, lk, _, _, V.int fj, rfl, rfl, SqL.of h72, ?_, ?_⟩
        · rw [ej]; exact atI_nat (by rw [List.getElem?_map, gm1]; rfl)
        refine ⟨_, _, rfl, rfl, _, rfl, _, rfl, lk, _, _, g + 1 + j, rfl, rfl, h72, ?_, _, rfl, ?_, ?_, fun c o ec => ?_⟩
        · rw [ej]
          refine ixN_nat ?_
          rw [List.length_map, List.length_append, hLl, List.length_cons]; omega
        · rw [upd_ne nrl]; exact h71
        · rw [upd_same, ← List.map_set]
          have z := set_mid GLk (Fc.drop (g + 1 + j + 1)) fj (0 - fj)
          rw [hLl] at z
          rw [z, ← nextL, List.append_assoc]; rfl
        · rw [upd_ne (ne_of_none ec nlkH)]; exact sm7 _ _ ec
      refine ⟨_, rfl, _, _, rfl, rfl, _, rfl, ite2 (fun _ => ?_) (fun c => (c (decide_eq_true (show (0 : Int) ≤ (g : Nat) by omega))).elim)⟩
      refine ⟨_, rfl, _, rfl, lk, _, _, V.int fj, rfl, rfl, SqL.of h2, ?_, rfl, _, rfl, ite2 (fun c1 => ?_) (fun c1 => ?_)⟩
      · rw [ej]; exact atI_nat (by rw [List.getElem?_map, gm1]; rfl)
      · have ef : fj = 1 := V.int.inj (of_decide_eq_true c1)
        have ev : endR n2 fj = n2 := by unfold endR; rw [if_pos ef]
        have l1' : lenAt B (GR ++ rr :: R.drop (g + 1 + j + 1)) (g + 1 + j) = some n2 := by
          rw [← l1]; exact lenAt_pre fun i hi => List.getElem?_append_left (by omega)
        refine ⟨_, rfl, _, rfl, _, rfl, _, _, g + 1 + j, bookT B, rowL (GR ++ rr :: R.drop (g + 1 + j + 1)), B, _, n2, ?_, dp_up hsh sm, bookT_book B, dp_lst_ints h1, rowL_row _, l1', ?_⟩
        · show [V.ref ba, V.ref ru, V.int (((g : Nat) : Int) + 1 + (j : Int))] = _
          rw [ej]
        refine ⟨_, rfl, _, rfl, ru, _, _, g + 1 + j, rfl, rfl, h1, ?_, ?_⟩
        · rw [ej]
          refine ixN_nat ?_
          rw [List.length_map, List.length_append, gl, List.length_cons]; omega
        refine rest _ ?_ ?_ fun c o ec => ?_
        · rw [upd_same, ← List.map_set]
          have z := set_mid GR (R.drop (g + 1 + j + 1)) rr n2
          rw [gl] at z
          rw [z, step, ev, List.append_assoc]; rfl
        · rw [upd_ne nrl.symm]; exact h2
        · rw [upd_ne (ne_of_none ec nru)]; exact sm _ _ ec
      · have ef : ¬ fj = 1 := fun z => c1 (decide_eq_true (by rw [z]))
        have ev : endR n2 fj = rr := by
          rw [kb]; unfold endR; rw [if_neg ef, if_neg ef]
        refine rest H6 ?_ h2 sm
        rw [h1, step, ev, List.append_assoc]; rfl
    · obtain ⟨y5, rfl, h1, h2, sm⟩ := hP
      rw [show g + 1 + (B.length - (g + 1)) = R.length by omega, List.drop_length, List.append_nil] at h1
      rw [show g + 1 + (B.length - (g + 1)) = Fc.length by omega, List.drop_length, List.append_nil, List.take_of_length_le (show (Fc.drop (g + 1)).length ≤ B.length - (g + 1) by rw [List.length_drop]; omega)] at h2
      refine done _ _ H6 ?_ eb sm h1 h2 _ _
      rw [goB_len, t2]; omega
end
end Af
namespace Af
open PySem PySem.Spec PyProof.Rows L2
section
variable {P : Program} {w : World} {K : PySem.W.Frag} {mg : Str → Option Value} {base : Heap}
/-! how much the states along take -/
theorem st_small {B : List (List Int)} {S : List Int × List Int} (h : Ok B S) (hl : B.length ≤ 100) : (stD S).depth ≤ 4 ∧ (stD S).bulk ≤ 500 := by
  have h1 := h.st.len
  have h2 := h.fl
  refine ⟨?_, ?_⟩
  · simp only [stD, stateT, PyData.depth, PyData.depthAll, depth_row]; omega
  · simp only [stD, stateT, PyData.bulk, PyData.bulkAll, bulk_row]; omega
theorem sts_small {B : List (List Int)} (hl : B.length ≤ 100) : ∀ L : List (List Int × List Int), (∀ S ∈ L, Ok B S) → PyData.depthAll (L.map stD) ≤ 4 ∧ PyData.bulkAll (L.map stD) ≤ 501 * L.length
  | [], _ => by simp [PyData.depthAll, PyData.bulkAll]
  | S :: L, h => by
    have i := sts_small hl L fun x hx => h x (List.mem_cons_of_mem _ hx)
    have j := st_small (h S List.mem_cons_self) hl
    simp only [List.map_cons, PyData.depthAll, PyData.bulkAll, List.length_cons]
    omega
theorem along_ok {B : List (List Int)} {hi : Int} (G : GoodB B hi) : ∀ (n : Nat) {S : List Int × List Int}, Ok B S → ∀ x ∈ alongL B n S, Ok B x
  | 0, S, h => fun x hx => by
    obtain rfl : x = S := by simpa [alongL] using hx
    exact h
  | n + 1, S, h => fun x hx => by
    rw [alongL_succ] at hx
    rcases List.mem_append.mp hx with hx | hx
    · exact along_ok G n h x hx
    · obtain rfl : x = beatM B (itB B n S) := by simpa using hx
      exact beat_ok G (itB_ok G n h)
theorem along_list {B : List (List Int)} {hi : Int} (G : GoodB B hi) (hl : B.length ≤ 100) {n : Nat} (hn : n ≤ 60) {S : List Int × List Int} (h : Ok B S) :
    (PyData.list ((alongL B n S).map stD)).depth ≤ 8 ∧ (PyData.list ((alongL B n S).map stD)).bulk ≤ 100000 := by
  have i := sts_small hl _ (along_ok G n h)
  have j := alongL_len B n S
  simp only [PyData.depth, PyData.bulk]
  omega
/-! _law_right -/
def spRight : Sp := fun vs H Q _ => ∃ (bx : Addr) (m : Nat), vs = [.ref bx] ∧ Box H bx m ∧ m ≤ 300000000 ∧ ∀ H', Box H' bx (m + 1000000) → Same (hid H bx) (hid H' bx) → Q (.bl true) H'
theorem flatten3 (v : V) : (List.replicate (3 : Int).toNat [v]).flatten = [v, v, v] := rfl
theorem last_at {α : Type} {l : List α} {n : Nat} {x : α} (hl : l.length = n + 1) (h : l[n]? = some x) : ∃ k, l = k ++ [x] := by
  refine ⟨l.take n, ?_⟩
  apply List.ext_getElem?
  intro i
  by_cases hi : i < n
  · rw [List.getElem?_append_left (by rw [List.length_take]; omega), List.getElem?_take_of_lt hi]
  · by_cases hi2 : i = n
    · subst hi2
      rw [List.getElem?_append_right (by rw [List.length_take]; omega), List.length_take, h, show i - min i l.length = 0 by omega]; rfl
    · rw [List.getElem?_eq_none (by omega), List.getElem?_eq_none (by simp; omega)]
set_option maxHeartbeats 1600000 in
theorem ok_right {f fB fS fF fG fT fA fN fb fa fs fi : Addr} {fd fdB fdS fdF fdG fdT fdA fdN fdb fda fds fdi : FuncData} {k : Nat} (T : Bl mg) (F : Fun K "_law_right" "_law_right" sLawRight f fd)
    (DB : Df K mg "_law_random_book" sLawRandomBook ["_law_box_here", "_law_most", "_law_high"] fB fdB) (GB : FnOk P w K mg base CX0 k fB fdB ["_law_box_here", "_law_most", "_law_high"] (spRBook K))
    (DS : Df K mg "_law_random_state" sLawRandomState ["_law_box_here", "_law_shelf"] fS fdS) (GS : FnOk P w K mg base CX0 k fS fdS ["_law_box_here", "_law_shelf"] (spRState K))
    (DF : Df K mg "_law_random_faces" sLawRandomFaces ["_law_box_here", "_law_count"] fF fdF) (GF : FnOk P w K mg base CX0 k fF fdF ["_law_box_here", "_law_count"] spRFaces)
    (DG : Df K mg "_law_begin" sLawBegin ["_law_shelf", "_law_marks"] fG fdG) (GG : FnOk P w K mg base CX0 k fG fdG ["_law_shelf", "_law_marks"] (spBegin K))
    (DT : Df K mg "_law_take" sLawTake ["_law_box_here", "_law_span"] fT fdT) (GT : FnOk P w K mg base CX0 k fT fdT ["_law_box_here", "_law_span"] spTake)
    (DA : Df K mg "_law_about" sLawAbout ["_law_spot"] fA fdA) (GA : FnOk P w K mg base CX0 k fA fdA ["_law_spot"] (spAbout K))
    (DN : Df K mg "_law_beaten" sLawBeaten ["_law_shelf", "_law_spot"] fN fdN) (GN : FnOk P w K mg base CX0 k fN fdN ["_law_shelf", "_law_spot"] (spBeaten K))
    (Db : Df K mg "beat" sBeat ["book", "state"] fb fdb) (Gb : FnOk P w K mg base CX0 k fb fdb ["book", "state"] (spBeat K)) (bb : KBinds K fdb ["book", "state"] ["state", "book"] gR gVR)
    (Da : Df K mg "beats_along" sBeatsAlong ["book", "state", "many"] fa fda) (Ga : FnOk P w K mg base CX0 k fa fda ["book", "state", "many"] (spAlong K)) (ba : KBinds K fda ["book", "state", "many"] ["many", "state", "book"] gR gVR)
    (Ds : Df K mg "_law_same" sLawSame ["_law_found", "_law_due"] fs fds) (Gs : FnOk P w K mg base CX0 10 fs fds ["_law_found", "_law_due"] (spSame K 10))
    (Di : Df K mg "_law_lists" sLawLists ["_law_matter"] fi fdi) (Gi : FnOk P w K mg base CX0 10 fi fdi ["_law_matter"] (spLists K 10)) (hk : 10 ≤ k) :
    FnG P w K mg base (k + 1) f fd ["_law_box_here"] spRight := by
  refine fun_okG F scLawRight (fun vs H Q E h => ?_) (fun cdv A outer s H vs Q E hG hr h => ?_)
  · obtain ⟨_, _, rfl, _⟩ := h; rfl
  obtain ⟨bx, m, rfl, hbox, hm, q⟩ := h
  have nd := scLawRight.nd
  have hr10 := hr.mono hk
  have hu64 := hr.units
  have hu70 : (A.deeper (envOfC "_law_right" (defScope sLawRight) s.heap.objs.size f cdv)).units + 70 < cLine := by have := hr.un; omega
  refine ⟨_, pss_cons (ps_set (i := 1) nd rfl (.inl rfl) (pe_do DB GB hr rfl (pa_cons (pv 0) (pa_cons pe_int (pa_cons pe_int pa_nil)))))
    (pss_cons (ps_set (i := 2) nd rfl (.inl rfl) (pe_do DS GS hr rfl (pa_cons (pv 0) (pa_cons (pv 1) pa_nil))))
    (C8.pss_cut (ps_if (pt_cmpR op_eq (pe_do DT GT hr rfl (pa_cons (pv 0) (pa_cons pe_int pa_nil))) pe_int (nomark _))
        (pss_one (ps_set (i := 2) nd rfl (.inl rfl) (pe_do DA GA hr rfl (pa_cons (pe_do DG GG hr rfl (pa_cons (pv 1) (pa_cons (pe_do DF GF hr rfl (pa_cons (pv 0) (pa_cons (pe_op op_sub (pe_callB call_len_seq rfl T.len bLen (pa_cons (pv 1) pa_nil)) pe_int) pa_nil))) pa_nil))) pa_nil)))) pss_nil)
    (pss_cons (ps_par (i := 3) (j := 4) (by rfl) nd rfl rfl (by decide) rfl rfl (pa_cons (pe_do DT GT hr rfl (pa_cons (pv 0) (pa_cons pe_int pa_nil))) (pa_cons (pe_lst (pa_cons (pv 2) pa_nil)) pa_nil)) (by rfl))
    (pss_cons (ps_for PassesOwn.never rfl (pi_range1 rfl T.range (pa_cons (pv 3) pa_nil)) (pg_name (i := 5) nd rfl (.inl rfl))
      (pss_one (ps_expr (pe_bm PySem.F.plainAttrs_list PySem.F.slot_list_append PySem.F.type_list_append mt_append (pv 4) (pa_cons (pe_do DN GN hr rfl (pa_cons (pv 1) (pa_cons (pe_ix ix_list (pv 4) (pe_un un_neg pe_int) (fun _ _ => rfl)) pa_nil))) pa_nil)))))
    (pss_cons (ps_par (i := 6) (j := 7) (by rfl) nd rfl rfl (by decide) rfl rfl (pa_cons (pe_callB (call_reprD hG hu70) rfl T.repr bRepr (pa_cons (pe_lst (pa_cons (pv 1) (pa_cons (pv 2) pa_nil))) pa_nil)) (pa_cons (pe_do DN GN hr rfl (pa_cons (pv 1) (pa_cons (pv 2) pa_nil))) pa_nil)) (by rfl))
    (pss_cons (ps_set (i := 8) nd rfl (.inl rfl) (pe_lst (pa_cons (pe_do Db Gb hr rfl (pa_cons (pv 1) (pa_cons (pv 2) pa_nil)))
        (pa_cons (pe_kw Db Gb hr rfl bb (pk_cons (pe_do Di Gi hr10 rfl (pa_cons (pv 2) pa_nil)) (pk_cons (pe_do Di Gi hr10 rfl (pa_cons (pv 1) pa_nil)) pk_nil)))
        (pa_cons (pe_do Db Gb hr rfl (pa_cons (pe_do Di Gi hr10 rfl (pa_cons (pv 1) pa_nil)) (pa_cons (pv 2) pa_nil))) pa_nil)))))
    (pss_cons (ps_if (pt_not (pt_val (pe_do Ds Gs hr10 rfl (pa_cons (pv 8) (pa_cons (pe_op op_rep (pe_lst (pa_cons (pv 7) pa_nil)) pe_int) pa_nil))))) pss_never pss_nil)
    (pss_cons (ps_set (i := 9) nd rfl (.inl rfl) (pe_lst (pa_cons (pe_do Da Ga hr rfl (pa_cons (pv 1) (pa_cons (pv 2) (pa_cons (pv 3) pa_nil))))
        (pa_cons (pe_kw Da Ga hr rfl ba (pk_cons (pv 3) (pk_cons (pe_do Di Gi hr10 rfl (pa_cons (pv 2) pa_nil)) (pk_cons (pe_do Di Gi hr10 rfl (pa_cons (pv 1) pa_nil)) pk_nil)))) pa_nil))))
    (pss_cons (ps_if (pt_not (pt_val (pe_do Ds Gs hr10 rfl (pa_cons (pv 9) (pa_cons (pe_lst (pa_cons (pv 4) (pa_cons (pv 4) pa_nil))) pa_nil))))) pss_never pss_nil)
    (pss_cons (ps_expr (pe_bm PySem.F.plainAttrs_list PySem.F.slot_list_append PySem.F.type_list_append mt_append (pe_ix ix_list (pv 9) pe_int (fun _ _ => rfl)) (pa_cons pe_str pa_nil)))
    (pss_cons (ps_expr (pe_bm0 PySem.F.plainAttrs_list PySem.F.slot_list_reverse PySem.F.type_list_reverse mt_reverse (pe_ix ix_list (pv 9) pe_int (fun _ _ => rfl))))
    (pss_cons (ps_if (pt_not (pt_val (pe_do Ds Gs hr10 rfl (pa_cons (pe_lst (pa_cons (pe_do Da Ga hr rfl (pa_cons (pv 1) (pa_cons (pv 2) (pa_cons (pv 3) pa_nil))))
        (pa_cons (pe_do Da Ga hr rfl (pa_cons (pv 1) (pa_cons (pe_callTy call_list_of rfl T.list bList (pa_cons (pv 2) pa_nil)) (pa_cons pe_int pa_nil)))) pa_nil))) (pa_cons (pe_lst (pa_cons (pv 4) (pa_cons (pe_lst (pa_cons (pv 2) pa_nil)) pa_nil))) pa_nil))))) pss_never pss_nil)
    (pss_one (ps_ret (pe_cmpR op_eq (pe_callB (call_reprD hG hu70) rfl T.repr bRepr (pa_cons (pe_lst (pa_cons (pv 1) (pa_cons (pv 2) pa_nil))) pa_nil)) (pv 6) (nomark _)))))))))))))))), ?_⟩
  -- shelf
  refine ⟨_, rfl, bx, 12, 6, m, rfl, hbox, by omega, by decide, by decide, by decide, by decide, fun sp H1 B hGB hBl hB1 hBox1 s1 hbk => ?_⟩
  have hzb : Sz (bookT B) := sz_book hGB (by decide) (by decide) (by omega)
  have hBl2 : B.length ≤ 1000 := by omega
  -- spot
  refine ⟨_, rfl, _, rfl, bx, _, B, 6, m + 20000, rfl, hBox1, by omega, hbk, hGB, by decide, by omega, fun st0 H4 R0 F0 hS0 hF0l hF0 hB4 s4 hst0 => ?_⟩
  refine ⟨fun σ' H5 => ∃ (st : Addr) (R F : List Int), σ' = [some (.ref bx), some (.ref sp), some (.ref st), none, none, none, none, none, none, none] ∧ Stands B R ∧ F.length = B.length ∧ FacesOk F ∧ Box H5 bx (m + 21000) ∧ Same (hid H1 bx) (hid H5 bx) ∧ Dp K (hid H5 bx) (.ref st) (stateT R F), ?_, ?_⟩
  · have hbk4 := dp_up hbk s4
    refine ⟨_, rfl, bx, 2, m + 20000 + 2 * B.length, rfl, hB4, by omega, by decide, by decide, fun r H5 r0 r1 hB5 hh5 => ?_⟩
    refine ⟨rfl, _, rfl, ite2 (fun _ => ?_) (fun _ => ?_)⟩
    · have hbk5 : Dp K (hid H5 bx) (.ref sp) (bookT B) := by rw [hh5]; exact hbk4
      obtain ⟨a, xs, ea, ha, hxl⟩ := book_len (dp_up hbk5 hid_le) (bookT_book B)
      cases ea
      refine ⟨_, rfl, _, rfl, _, rfl, sp, xs, rfl, ha, _, _, rfl, rfl, bx, B.length - 1, m + 20000 + 2 * B.length + 1, ?_, hB5, by omega, by omega, fun mk H6 M hMl hM hB6 s6 nmk emk => ?_⟩
      · show [V.ref bx, V.int ((xs.length : Int) - 1)] = _
        rw [hxl, show ((B.length : Nat) : Int) - 1 = ((B.length - 1 : Nat) : Int) by omega]
      have hb6 : H6 bx ≠ none := by obtain ⟨_, _, _, z, _⟩ := hB6; rw [z]; exact fun z => nomatch z
      have nmb : mk ≠ bx := hB6.neT emk
      refine ⟨bx, _, _, B, 6, M, rfl, hb6, dp_up hbk5 s6, hGB, .tup (.inl (.inl (by rw [hid_ne nmb]; exact emk))) (dps_ints M), by omega, by omega, fun st1 H7 R1 hS1 s7 hst1 => ?_⟩
      have hF1 : FacesOk (1 :: M) := fun x hx => by
        rcases List.mem_cons.mp hx with rfl | hx
        · exact .inl rfl
        · exact hM x hx
      have hB7 := hB6.up s7
      have hb7 : H7 bx ≠ none := by obtain ⟨_, _, _, z, _⟩ := hB7; rw [z]; exact fun z => nomatch z
      refine ⟨bx, _, R1, 1 :: M, rfl, hb7, hst1, by simp; omega, fun st2 H8 s8 hst2 => ?_⟩
      have s58 : Same (hid H1 bx) (hid H8 bx) := s4.trans ((show Same (hid H4 bx) (hid H5 bx) by rw [hh5]; exact Same.refl _).trans (s6.trans ((hid_mono s7).trans (hid_mono s8))))
      exact ⟨st2, R1, negL (1 :: M), rfl, hS1, by rw [negL_len]; simp; omega, negL_ok hF1, (hB7.up s8).le (by omega), s58, hst2⟩
    · exact ⟨st0, R0, F0, rfl, hS0, hF0l, hF0, hB5.le (by omega), by rw [hh5]; exact s4, by rw [hh5]; exact hst0⟩
  rintro σ' H5 ⟨st, R, Fc, rfl, hS, hFl, hF, hB5, s5, hst⟩
  have hbk5 := dp_up hbk s5
  have hFt : Fit (.list [bookT B, stateT R Fc]) := fit_pair hGB (by decide) (by decide) (by omega) hS hF hFl
  have hO : Ok B (R, Fc) := ⟨hS, hFl, hF⟩
  have hO5 := beat_ok hGB hO
  have hzs : Sz (stateT R Fc) := st_zz hO hBl2
  have hz3 := st_three hO5 hO5 hO5 hBl2
  -- far, along
  refine ⟨_, rfl, bx, 51, m + 21000, rfl, hB5, by omega, by decide, by decide, fun r H6 r0 r1 hB6 hh6 => ?_⟩
  obtain ⟨fn, rfl⟩ : ∃ n : Nat, r = (n : Int) := ⟨r.toNat, by omega⟩
  have hfn : fn ≤ 60 := by omega
  have hal := along_list hGB (by omega) hfn hO
  have hbk6 : Dp K (hid H6 bx) (.ref sp) (bookT B) := by rw [hh6]; exact hbk5
  have hst6 : Dp K (hid H6 bx) (.ref st) (stD (R, Fc)) := by rw [hh6]; exact hst
  have s16 : Same (hid H bx) (hid H6 bx) := s1.trans (by rw [hh6]; exact s5)
  have hb6 : H6 bx ≠ none := by obtain ⟨_, _, _, z, _⟩ := hB6; rw [z]; exact fun z => nomatch z
  have bxn : ∀ {Hx : Hp}, Same H6 Hx → Hx bx ≠ none := fun {Hx} c e => hb6 (c.free e)
  have B6 : ∀ {Hx : Hp}, Same H6 Hx → Dp K Hx (.ref sp) (bookT B) := fun c => dp_up hbk6 (hid_le.trans c)
  have S6 : ∀ {Hx : Hp}, Same H6 Hx → Dp K (hid Hx bx) (.ref st) (stD (R, Fc)) := fun c => dp_up hst6 (hid_mono c)
  have S6' : ∀ {Hx : Hp}, Same H6 Hx → Dp K Hx (.ref st) (stateT R Fc) := fun c => dp_up hst6 (hid_le.trans c)
  refine ⟨_, rfl, by show 1 ≤ sizeLine; decide, fun al nal => ?_⟩
  have s7 := same_new (o := .lst [.ref st]) nal
  refine ⟨_, _, rfl, ?_⟩
  refine ⟨_, rfl, _, rfl, by omega, by omega, ?_⟩
  have en : ((fn : Nat) : Int).toNat = fn := by omega
  rw [en]
  refine for_range (lo := 0) (n := fn) (fun i σ H8 => ∃ (y5 : Option V) (vs : List V), σ = [some (.ref bx), some (.ref sp), some (.ref st), some (.int fn), some (.ref al), y5, none, none, none, none] ∧ H8 al = some (.lst vs) ∧ DpAll K (hid H8 al) vs ((alongL B i (R, Fc)).map stD) ∧ Same H6 H8)
    ⟨none, [.ref st], rfl, upd_same, .cons (dp_up (S6' (Same.refl _)) (same_hid nal)) .nil, s7⟩ (fun i σ H8 hi8 hP => ?_) (fun σ H8 hP => ?_)
  · obtain ⟨y5, vs, rfl, hp, hvs, sm⟩ := hP
    have hl := dps_len hvs
    rw [List.length_map, alongL_len] at hl
    obtain ⟨v, ev, dv⟩ := dps_get (i := i) (d := stD (itB B i (R, Fc))) hvs (by rw [List.getElem?_map, along_at]; rfl)
    obtain ⟨us, rfl⟩ := last_at hl ev
    refine ⟨_, rfl, .inl ⟨rfl, _, SqL.of hp⟩, ?_⟩
    refine ⟨_, rfl, _, rfl, 1, rfl, al, _, -1, v, rfl, rfl, SqL.of hp, atI_last _ _, ?_⟩
    refine ⟨_, v, B, 6, itB B i (R, Fc), rfl, B6 sm, dp_up dv hid_le, hBl2, hGB, itB_ok hGB i hO, fun n1 H9 s9 hn1 => ?_⟩
    have hal9 : H8 al ≠ none := by rw [hp]; exact fun z => nomatch z
    refine ⟨al, _, _, rfl, rfl, s9 _ _ hp, ?_, _, us ++ [v] ++ [.ref n1], rfl, upd_same, ?_, fun c o ec => ?_⟩
    · rw [hl]; exact small1000 (by omega)
    · rw [hid_upd, alongL_succ, List.map_append]
      exact dps_app (dps_up hvs (hid_mono s9)) (.cons (hn1.hid hal9) .nil)
    · rw [upd_ne (ne_of_none ec nal)]; exact s9 _ _ (sm _ _ ec)
  obtain ⟨y5, vs, rfl, hp, hvs, sm⟩ := hP
  have AL : ∀ {Hx : Hp}, Same H8 Hx → Dp K Hx (.ref al) (.list ((alongL B fn (R, Fc)).map stD)) := fun c => .lst (SqL.of (c _ _ hp)) (dps_up hvs (hid_le.trans c))
  -- kept, due
  refine ⟨_, rfl, _, rfl, by show 2 ≤ sizeLine; decide, fun l1 nl1 => ?_⟩
  have t9 := same_new (o := .lst [.ref sp, .ref st]) nl1
  have c9 := sm.trans t9
  refine ⟨l1, .list [bookT B, stateT R Fc], rfl, .lst (SqL.of upd_same) (.cons (B6 c9) (.cons (S6' c9) .nil)), hFt.shw, hFt.nod, hFt.dep, hFt.len, ?_⟩
  refine ⟨_, rfl, _, rfl, _, _, B, 6, (R, Fc), rfl, B6 c9, S6' c9, hBl2, hGB, hO, fun du H10 s10 hdu => ?_⟩
  have t10 := t9.trans s10
  have c10 := sm.trans t10
  refine ⟨_, _, rfl, ?_⟩
  -- told
  refine ⟨_, rfl, _, rfl, bx, _, _, bookT B, stateT R Fc, B, 6, (R, Fc), rfl, bxn c10, B6 c10, bookT_book B, S6 c10, stateT_state R Fc, hBl2, hGB, hO, fun e1 H11 s11 he1 => ?_⟩
  have t11 := t10.trans s11
  have c11 := sm.trans t11
  refine ⟨_, rfl, _, stateT R Fc, rfl, S6' c11, hzs.dep, hzs.blk, fun ls H12 s12 hls => ?_⟩
  rw [lsD_state] at hls
  have t12 := t11.trans s12
  have c12 := sm.trans t12
  refine ⟨_, rfl, _, bookT B, rfl, B6 c12, hzb.dep, hzb.blk, fun lb H13 s13 hlb => ?_⟩
  rw [lsD_book] at hlb
  have t13 := t12.trans s13
  have c13 := sm.trans t13
  refine ⟨bx, lb, ls, bookL B, stateL R Fc, B, 6, (R, Fc), rfl, bxn c13, hlb.dp, bookL_book B, (hls.up s13).hid (bxn c11), stateL_state R Fc, hBl2, hGB, hO, fun e2 H14 s14 he2 => ?_⟩
  have t14 := t13.trans s14
  have c14 := sm.trans t14
  refine ⟨_, rfl, _, bookT B, rfl, B6 c14, hzb.dep, hzb.blk, fun lb2 H15 s15 hlb2 => ?_⟩
  rw [lsD_book] at hlb2
  have t15 := t14.trans s15
  have c15 := sm.trans t15
  refine ⟨_, rfl, bx, lb2, _, bookL B, stateT R Fc, B, 6, (R, Fc), rfl, bxn c15, hlb2.dp, bookL_book B, S6 c15, stateT_state R Fc, hBl2, hGB, hO, fun e3 H16 s16' he3 => ?_⟩
  have t16 := t15.trans s16'
  refine ⟨by show 3 ≤ sizeLine; decide, fun tl ntl => ?_⟩
  have s17 := same_new (o := .lst [.ref e1, .ref e2, .ref e3]) ntl
  have t17 := t16.trans s17
  -- not same(told, [due] * 3)
  refine ⟨_, rfl, _, rfl, by show 1 ≤ sizeLine; decide, fun l5 nl5 => ?_⟩
  have s18 := same_new (o := .lst [.ref du]) nl5
  refine ⟨l5, 3, _, rfl, rfl, upd_same, by decide, by decide, by show 3 ≤ sizeLine; decide, fun l6 nl6 => ?_⟩
  rw [flatten3]
  have s19 := s18.trans (same_new (o := .lst [.ref du, .ref du, .ref du]) nl6)
  have t19 := t17.trans s19
  have u16 := s17.trans s19
  have u14 := (s15.trans s16').trans u16
  have u11 := ((s12.trans s13).trans s14).trans u14
  have x1 := dp_up he1 (hid_le.trans u11)
  have x2 := dp_up he2 (hid_le.trans u14)
  have x3 := dp_up he3 (hid_le.trans u16)
  have xd := dp_up hdu.dp (s11.trans u11)
  refine ⟨_, _, .list [stD (beatM B (R, Fc)), stD (beatM B (R, Fc)), stD (beatM B (R, Fc))], rfl, .lst (SqL.of (s19 _ _ upd_same)) (.cons x1 (.cons x2 (.cons x3 .nil))), .lst (SqL.of upd_same) (.cons xd (.cons xd (.cons xd .nil))), hz3.dep, hz3.blk, fun H20 s20 => ?_⟩
  have t20 := t19.trans s20
  have c20 := sm.trans t20
  refine ⟨_, rfl, iteF ?_⟩
  clear x1 x2 x3 xd u11 u14 u16 he1 he2 he3 hls hlb hlb2 hdu
  -- heard
  refine ⟨_, rfl, _, rfl, _, rfl, _, _, bookT B, stateT R Fc, B, 6, (R, Fc), fn, rfl, B6 c20, bookT_book B, S6' c20, stateT_state R Fc, hBl2, hGB, hO, by omega, fun p1 H21 v1 np1 s21 hp1 hv1 => ?_⟩
  have t21 := t20.trans s21
  have c21 := sm.trans t21
  refine ⟨_, rfl, _, rfl, _, stateT R Fc, rfl, S6' c21, hzs.dep, hzs.blk, fun ls H22 s22 hls => ?_⟩
  rw [lsD_state] at hls
  have t22 := t21.trans s22
  have c22 := sm.trans t22
  refine ⟨_, rfl, _, bookT B, rfl, B6 c22, hzb.dep, hzb.blk, fun lb H23 s23 hlb => ?_⟩
  rw [lsD_book] at hlb
  have t23 := t22.trans s23
  refine ⟨lb, ls, bookL B, stateL R Fc, B, 6, (R, Fc), fn, rfl, hlb.dp, bookL_book B, (hls.up s23).dp, stateL_state R Fc, hBl2, hGB, hO, by omega, fun p2 H24 v2 np2 s24 hp2 hv2 => ?_⟩
  have t24 := t23.trans s24
  refine ⟨by show 2 ≤ sizeLine; decide, fun hp' nhp => ?_⟩
  have s25 := same_new (o := .lst [.ref p1, .ref p2]) nhp
  have t25 := t24.trans s25
  -- not same(heard, [along, along])
  refine ⟨_, rfl, _, rfl, _, rfl, by show 2 ≤ sizeLine; decide, fun l7 nl7 => ?_⟩
  have s26 := same_new (o := .lst [.ref al, .ref al]) nl7
  have t26 := t25.trans s26
  have v24 := s25.trans s26
  have v21 := ((s22.trans s23).trans s24).trans v24
  have hz2 := sz_list2 hal.1 hal.1 hal.2 hal.2
  refine ⟨_, _, .list [.list ((alongL B fn (R, Fc)).map stD), .list ((alongL B fn (R, Fc)).map stD)], rfl, .lst (SqL.of (s26 _ _ upd_same)) (.cons (.lst (SqL.of (v21 _ _ hp1)) (dps_up hv1 (hid_le.trans v21))) (.cons (.lst (SqL.of (v24 _ _ hp2)) (dps_up hv2 (hid_le.trans v24))) .nil)), .lst (SqL.of upd_same) (.cons (AL t26) (.cons (AL t26) .nil)), hz2.dep, hz2.blk, fun H27 s27 => ?_⟩
  refine ⟨_, rfl, iteF ?_⟩
  have t27 := t26.trans s27
  have w24 := v24.trans s27
  have w21 := v21.trans s27
  have np2' : H20 p2 = none := (((s21.trans s22).trans s23)).free np2
  have n12 : p2 ≠ p1 := (ne_of_none ((s22.trans s23) _ _ hp1) np2).symm
  have nh1 : hp' ≠ p1 := (ne_of_none (((s22.trans s23).trans s24) _ _ hp1) nhp).symm
  -- heard[0].append
  have g1 := w21 _ _ hp1
  have g2 := w24 _ _ hp2
  have ghp : H27 hp' = some (.lst [.ref p1, .ref p2]) := (s26.trans s27) _ _ upd_same
  have hvl := dps_len hv1
  rw [List.length_map, alongL_len] at hvl
  refine ⟨_, rfl, hp', _, 0, _, rfl, rfl, SqL.of ghp, atI_nat (j := 0) rfl, .inl ⟨rfl, _, SqL.of g1⟩, p1, _, _, rfl, rfl, g1, ?_, ?_⟩
  · rw [hvl]; exact small1000 (by omega)
  have k1 : Same H20 (upd H27 p1 (.lst (v1 ++ [.str "more"]))) := fun c o ec => by
    rw [upd_ne (ne_of_none ec np1)]; exact s27 _ _ ((s21.trans v21) _ _ ec)
  have ghp2 : (upd H27 p1 (.lst (v1 ++ [.str "more"]))) hp' = some (.lst [.ref p1, .ref p2]) := by rw [upd_ne nh1]; exact ghp
  have g2' : (upd H27 p1 (.lst (v1 ++ [.str "more"]))) p2 = some (.lst v2) := by rw [upd_ne n12]; exact g2
  generalize upd H27 p1 (.lst (v1 ++ [.str "more"])) = H28 at k1 ghp2 g2'
  -- heard[1].reverse
  refine ⟨_, rfl, hp', _, 1, _, rfl, rfl, SqL.of ghp2, atI_nat (j := 1) rfl, .inl ⟨rfl, _, SqL.of g2'⟩, p2, _, rfl, rfl, g2', ?_⟩
  have k2 : Same H20 (upd H28 p2 (.lst v2.reverse)) := fun c o ec => by
    rw [upd_ne (ne_of_none ec np2')]; exact k1 _ _ ec
  generalize upd H28 p2 (.lst v2.reverse) = H29 at k2
  have t29 := t20.trans k2
  have c29 := sm.trans t29
  -- not same([along, along 0], [along, [spot]])
  refine ⟨_, rfl, _, rfl, _, rfl, _, _, bookT B, stateT R Fc, B, 6, (R, Fc), fn, rfl, B6 c29, bookT_book B, S6' c29, stateT_state R Fc, hBl2, hGB, hO, by omega, fun p3 H30 v3 np3 s30 hp3 hv3 => ?_⟩
  have t30 := t29.trans s30
  have c30 := sm.trans t30
  obtain ⟨a, ra, fa', ea, hq, hra, hfa⟩ := state_tup (S6' c30)
  cases ea
  refine ⟨_, rfl, _, rfl, st, _, rfl, .inr hq, fun l8 nl8 => ?_⟩
  have s31 := same_new (o := .lst [.ref ra, .ref fa']) nl8
  have t31 := t30.trans s31
  have c31 := sm.trans t31
  refine ⟨_, _, bookT B, .list [rowT R, rowT Fc], B, 6, (R, Fc), 0, rfl, B6 c31, bookT_book B, .lst (SqL.of upd_same) (.cons (dp_up (.tup hra (dps_ints R)) s31) (.cons (dp_up (.tup hfa (dps_ints Fc)) s31) .nil)), ⟨_, _, .l _, rowT_row R, rowT_row Fc⟩, hBl2, hGB, hO, by omega, fun p4 H32 v4 np4 s32 hp4 hv4 => ?_⟩
  have t32 := t31.trans s32
  refine ⟨by show 2 ≤ sizeLine; decide, fun l9 nl9 => ?_⟩
  have s33 := same_new (o := .lst [.ref p3, .ref p4]) nl9
  have t33 := t32.trans s33
  refine ⟨_, rfl, _, rfl, by show 1 ≤ sizeLine; decide, fun la nla => ?_⟩
  have s34 := same_new (o := .lst [.ref st]) nla
  have t34 := t33.trans s34
  refine ⟨by show 2 ≤ sizeLine; decide, fun lc nlc => ?_⟩
  have s35 := same_new (o := .lst [.ref al, .ref la]) nlc
  have t35 := t34.trans s35
  have c35 := sm.trans t35
  have w32 := (s33.trans s34).trans s35
  have w30 := (s31.trans s32).trans w32
  have hs0 : (PyData.list [stD (R, Fc)]).depth ≤ 8 ∧ (PyData.list [stD (R, Fc)]).bulk ≤ 100000 := along_list (n := 0) hGB (by omega) (by omega) hO
  have hz5 := sz_list2 hal.1 hs0.1 hal.2 hs0.2
  refine ⟨_, _, .list [.list ((alongL B fn (R, Fc)).map stD), .list [stD (R, Fc)]], rfl, .lst (SqL.of ((s34.trans s35) _ _ upd_same)) (.cons (.lst (SqL.of (w30 _ _ hp3)) (dps_up hv3 (hid_le.trans w30))) (.cons (.lst (SqL.of (w32 _ _ hp4)) (dps_up hv4 (hid_le.trans w32))) .nil)), .lst (SqL.of upd_same) (.cons (AL t35) (.cons (.lst (SqL.of (s35 _ _ upd_same)) (.cons (S6' c35) .nil)) .nil)), hz5.dep, hz5.blk, fun H36 s36 => ?_⟩
  refine ⟨_, rfl, iteF ?_⟩
  have c36 := c35.trans s36
  refine ⟨_, rfl, _, rfl, by show 2 ≤ sizeLine; decide, fun ld nld => ?_⟩
  have c37 := c36.trans (same_new (o := .lst [.ref sp, .ref st]) nld)
  refine ⟨ld, .list [bookT B, stateT R Fc], rfl, .lst (SqL.of upd_same) (.cons (B6 c37) (.cons (S6' c37) .nil)), hFt.shw, hFt.nod, hFt.dep, hFt.len, ?_⟩
  refine ⟨_, rfl, rfl, ?_⟩
  have hq := q _ ((hB6.up c37).le (by omega)) (s16.trans (hid_mono c37))
  rw [decide_eq_true rfl]; exact hq
end
end Af
namespace Af
open PySem PySem.Spec PyProof.Rows L2
section
variable {P : Program} {w : World} {K : PySem.W.Frag} {mg : Str → Option Value} {base : Heap}
/-! law -/
def spLaw (K : PySem.W.Frag) : Sp := fun vs H Q _ => ∃ (a : Addr) (ns : List Int), vs = [.ref a] ∧ SqL K H a (ns.map V.int) ∧ ns.length ≤ 63 ∧ ∀ H', Q (.bl true) H'
theorem ok_law {f fC fB fR : Addr} {fd fdC fdB fdR : FuncData} {k : Nat} (T : Bl mg) (F : Fun K "law" "law" sLaw f fd)
    (DC : Df K mg "_law_cells" sLawCells ["_law_script", "_law_most"] fC fdC) (GC : FnOk P w K mg base CX0 k fC fdC ["_law_script", "_law_most"] (spCells K))
    (DB : Df K mg "_law_box" sLawBox ["_law_script", "_law_k"] fB fdB) (GB : FnOk P w K mg base CX0 k fB fdB ["_law_script", "_law_k"] (spBox K))
    (DR : Df K mg "_law_right" sLawRight ["_law_box_here"] fR fdR) (GR : FnG P w K mg base k fR fdR ["_law_box_here"] spRight) :
    FnG P w K mg base (k + 1) f fd ["_law_script"] (spLaw K) := by
  refine fun_okG F scLaw (fun vs H Q E h => ?_) (fun cdv A outer s H vs Q E hG hr h => ?_)
  · obtain ⟨_, _, rfl, _⟩ := h; rfl
  obtain ⟨a, ns, rfl, hS, h63, q⟩ := h
  have nd := scLaw.nd
  refine ⟨_, pss_cons (ps_set (i := 1) nd rfl (.inl rfl) (pe_do DC GC hr rfl (pa_cons (pv 0) (pa_cons pe_int pa_nil))))
    (pss_cons (ps_for PassesOwn.never rfl (pi_range1 rfl T.range (pa_cons (pe_callB call_len_seq rfl T.len bLen (pa_cons (pv 1) pa_nil)) pa_nil)) (pg_name (i := 2) nd rfl (.inl rfl))
      (pss_cons (ps_set (i := 3) nd rfl (.inr rfl) (pe_do DB GB hr rfl (pa_cons (pv 1) (pa_cons (pv 2) pa_nil))))
      (pss_one (ps_if (pt_not (pt_val (pe_callB (cr_all rfl) rfl T.all bAll (pa_cons
        (pe_lc (own := [("_law_turn", 4)]) (g := gName 4) (tt := tYes) rfl nd (pi_range1 rfl T.range (pa_cons pe_int pa_nil))
          (blkOk_by (N := ["_law_script", "_law_cells_here", "_law_k", "_law_box_here", "_law_turn"]) (sc := defScope sLaw) (by decide +kernel))
          (fun _ _ _ _ _ => pg_name (i := 4) nd rfl (.inl rfl)) (fun _ _ _ _ _ => pts_nil) (fun _ _ _ _ _ => pe_guarded GR hG hr rfl DR.g DR.F.kp DR.b (pa_cons (pv 3) pa_nil))) pa_nil)))) pss_never pss_nil))))
    (pss_one (ps_ret pe_bl))), ?_⟩
  refine ⟨_, rfl, a, ns, 3, rfl, hS, h63, by decide, by decide, fun cp H1 cs ncp s1 ecp hc1 hc2 => ?_⟩
  refine ⟨_, rfl, cp, _, rfl, .inl (SqL.of ecp), _, rfl, by rw [List.length_map]; omega, by rw [List.length_map]; omega, ?_⟩
  have en : (((cs.map V.int).length : Nat) : Int).toNat = cs.length := by rw [List.length_map]; omega
  rw [en]
  refine for_range (lo := 0) (n := cs.length) (fun i σ H3 => ∃ y2 y3 : Option V, σ = [some (.ref a), some (.ref cp), y2, y3, none] ∧ H3 cp = some (.lst (cs.map V.int))) ⟨none, none, rfl, ecp⟩ (fun i σ H3 hi hP => ?_) (fun σ H3 hP => ?_)
  · obtain ⟨y2, y3, rfl, hcp⟩ := hP
    refine ⟨_, rfl, _, rfl, cp, cs, i, ?_, SqL.of hcp, by omega, fun bx H4 nb s4 hB4 => ?_⟩
    · show [V.ref cp, V.int (0 + (i : Int))] = _
      rw [Int.zero_add]
    have hcp4 : H4 cp = some (.lst (cs.map V.int)) := hid_le _ _ (s4 _ _ hcp)
    refine ⟨3, rfl, by decide, by decide, fun D nD => ?_⟩
    have sD := same_new (o := .lst []) nD
    have nDb : D ≠ bx := hB4.ne nD
    have ncb : cp ≠ bx := ne_of_none hcp nb
    have ncD : cp ≠ D := ne_of_none hcp4 nD
    refine lc_range (lo := 0) (n := 3) (fun j H5 => H5 D = some (.lst (List.replicate j (.bl true))) ∧ Box H5 bx (1000000 * j) ∧ H5 cp = some (.lst (cs.map V.int))) ⟨upd_same, hB4.new nD, sD _ _ hcp4⟩ (fun j H5 hj hP5 => ?_) (fun H5 hP5 => ?_)
    · obtain ⟨hD, hB5, hcp5⟩ := hP5
      refine ⟨rfl, yesT ?_⟩
      refine ⟨_, rfl, bx, 1000000 * j, rfl, hB5, by omega, fun H6 hB6 s6 => ?_⟩
      have g : ∀ {z : Addr} {o : HO}, z ≠ bx → H5 z = some o → H6 z = some o := fun {z o} nz ez => by
        have := s6 z o (by rw [hid_ne nz]; exact ez)
        rwa [hid_ne nz] at this
      refine ⟨_, g nDb hD, ?_, ?_, ?_, ?_⟩
      · rw [List.length_replicate]; exact small1000 (by omega)
      · rw [upd_same, List.replicate_succ']
      · obtain ⟨x1, x2, x3, g1, g2, g3, g4, g5, g6⟩ := hB6
        exact ⟨x1, x2, x3, by rw [upd_ne nDb.symm]; exact g1, g2, g3, g4, g5, by omega⟩
      · rw [upd_ne ncD]; exact g ncb hcp5
    · obtain ⟨hD, hB5, hcp5⟩ := hP5
      refine ⟨D, List.replicate 3 true, rfl, SqL.of hD, ?_⟩
      refine ⟨_, rfl, iteF ?_⟩
      exact ⟨_, _, rfl, hcp5⟩
  · obtain ⟨y2, y3, rfl, hcp⟩ := hP
    exact q _
end
end Af
namespace Af
open PySem PySem.Spec PyProof.Rows L2
/-! what the top has written -/
theorem all_mk {l : PySem.W.OpenLaw} {w : World} {K : PySem.W.Frag} {h : Heap} {mg : Str → Option Value} {fa f1 f2 f3 f4 f5 f6 f7 f8 f9 f10 f11 f12 f13 f14 f15 f16 f17 f18 f19 f20 f21 f22 f23 : Addr} (X : K.In h) (G : h.Ns mainGlobals mg) (hfa : mg "law" = some (.ref fa))
    {od1 an1 od2 an2 od3 an3 od4 an4 od5 an5 od6 an6 od7 an7 od8 an8 od9 an9 od10 an10 od11 an11 od12 an12 od13 an13 od14 an14 od15 an15 od16 an16 od17 an17 od18 an18 od19 an19 od20 an20 od21 an21 od22 an22 od23 an23 : Option Addr} {sl1 sl2 sl3 sl4 sl5 sl6 sl7 sl8 sl9 sl10 sl11 sl12 sl13 sl14 sl15 sl16 sl17 sl18 sl19 sl20 sl21 sl22 sl23 : Array (Option Value)} {oc1 kV1 dc1 pm1 cd1 ct1 oc2 kV2 dc2 pm2 cd2 ct2 oc3 kV3 dc3 pm3 cd3 ct3 oc4 kV4 dc4 pm4 cd4 ct4 oc5 kV5 dc5 pm5 cd5 ct5 oc6 kV6 dc6 pm6 cd6 ct6 oc7 kV7 dc7 pm7 cd7 ct7 oc8 kV8 dc8 pm8 cd8 ct8 oc9 kV9 dc9 pm9 cd9 ct9 oc10 kV10 dc10 pm10 cd10 ct10 oc11 kV11 dc11 pm11 cd11 ct11 oc12 kV12 dc12 pm12 cd12 ct12 oc13 kV13 dc13 pm13 cd13 ct13 oc14 kV14 dc14 pm14 cd14 ct14 oc15 kV15 dc15 pm15 cd15 ct15 oc16 kV16 dc16 pm16 cd16 ct16 oc17 kV17 dc17 pm17 cd17 ct17 oc18 kV18 dc18 pm18 cd18 ct18 oc19 kV19 dc19 pm19 cd19 ct19 oc20 kV20 dc20 pm20 cd20 ct20 oc21 kV21 dc21 pm21 cd21 ct21 oc22 kV22 dc22 pm22 cd22 ct22 oc23 kV23 dc23 pm23 cd23 ct23 : Value}
    (a1 : PySem.W.nsIn K mainGlobals "length_of" = some (some (.ref f1))) (l1 : K.lookup f1 = some ⟨oc1, od1, .func (PySem.W.fnOf "length_of" "length_of" (defArgs sLengthOf) (defBody sLengthOf) (defScope sLengthOf) .none kV1 dc1 pm1 an1 cd1 ct1), sl1⟩) (c1 : PySem.W.codeIn K cd1 "length_of" = true) (k1 : PySem.W.keepIn K (.ref f1) = true)
    (a2 : PySem.W.nsIn K mainGlobals "lengths" = some (some (.ref f2))) (l2 : K.lookup f2 = some ⟨oc2, od2, .func (PySem.W.fnOf "lengths" "lengths" (defArgs sLengths) (defBody sLengths) (defScope sLengths) .none kV2 dc2 pm2 an2 cd2 ct2), sl2⟩) (c2 : PySem.W.codeIn K cd2 "lengths" = true) (k2 : PySem.W.keepIn K (.ref f2) = true)
    (a3 : PySem.W.nsIn K mainGlobals "end_rung" = some (some (.ref f3))) (l3 : K.lookup f3 = some ⟨oc3, od3, .func (PySem.W.fnOf "end_rung" "end_rung" (defArgs sEndRung) (defBody sEndRung) (defScope sEndRung) .none kV3 dc3 pm3 an3 cd3 ct3), sl3⟩) (c3 : PySem.W.codeIn K cd3 "end_rung" = true) (k3 : PySem.W.keepIn K (.ref f3) = true)
    (a4 : PySem.W.nsIn K mainGlobals "blocked" = some (some (.ref f4))) (l4 : K.lookup f4 = some ⟨oc4, od4, .func (PySem.W.fnOf "blocked" "blocked" (defArgs sBlocked) (defBody sBlocked) (defScope sBlocked) .none kV4 dc4 pm4 an4 cd4 ct4), sl4⟩) (c4 : PySem.W.codeIn K cd4 "blocked" = true) (k4 : PySem.W.keepIn K (.ref f4) = true)
    (a5 : PySem.W.nsIn K mainGlobals "mover" = some (some (.ref f5))) (l5 : K.lookup f5 = some ⟨oc5, od5, .func (PySem.W.fnOf "mover" "mover" (defArgs sMover) (defBody sMover) (defScope sMover) .none kV5 dc5 pm5 an5 cd5 ct5), sl5⟩) (c5 : PySem.W.codeIn K cd5 "mover" = true) (k5 : PySem.W.keepIn K (.ref f5) = true)
    (a6 : PySem.W.nsIn K mainGlobals "turned" = some (some (.ref f6))) (l6 : K.lookup f6 = some ⟨oc6, od6, .func (PySem.W.fnOf "turned" "turned" (defArgs sTurned) (defBody sTurned) (defScope sTurned) .none kV6 dc6 pm6 an6 cd6 ct6), sl6⟩) (c6 : PySem.W.codeIn K cd6 "turned" = true) (k6 : PySem.W.keepIn K (.ref f6) = true)
    (a7 : PySem.W.nsIn K mainGlobals "beat" = some (some (.ref f7))) (l7 : K.lookup f7 = some ⟨oc7, od7, .func (PySem.W.fnOf "beat" "beat" (defArgs sBeat) (defBody sBeat) (defScope sBeat) .none kV7 dc7 pm7 an7 cd7 ct7), sl7⟩) (c7 : PySem.W.codeIn K cd7 "beat" = true) (k7 : PySem.W.keepIn K (.ref f7) = true)
    (a8 : PySem.W.nsIn K mainGlobals "beats_along" = some (some (.ref f8))) (l8 : K.lookup f8 = some ⟨oc8, od8, .func (PySem.W.fnOf "beats_along" "beats_along" (defArgs sBeatsAlong) (defBody sBeatsAlong) (defScope sBeatsAlong) .none kV8 dc8 pm8 an8 cd8 ct8), sl8⟩) (c8 : PySem.W.codeIn K cd8 "beats_along" = true) (k8 : PySem.W.keepIn K (.ref f8) = true)
    (a9 : PySem.W.nsIn K mainGlobals "_law_box" = some (some (.ref f9))) (l9 : K.lookup f9 = some ⟨oc9, od9, .func (PySem.W.fnOf "_law_box" "_law_box" (defArgs sLawBox) (defBody sLawBox) (defScope sLawBox) .none kV9 dc9 pm9 an9 cd9 ct9), sl9⟩) (c9 : PySem.W.codeIn K cd9 "_law_box" = true) (k9 : PySem.W.keepIn K (.ref f9) = true)
    (a10 : PySem.W.nsIn K mainGlobals "_law_take" = some (some (.ref f10))) (l10 : K.lookup f10 = some ⟨oc10, od10, .func (PySem.W.fnOf "_law_take" "_law_take" (defArgs sLawTake) (defBody sLawTake) (defScope sLawTake) .none kV10 dc10 pm10 an10 cd10 ct10), sl10⟩) (c10 : PySem.W.codeIn K cd10 "_law_take" = true) (k10 : PySem.W.keepIn K (.ref f10) = true)
    (a11 : PySem.W.nsIn K mainGlobals "_law_cells" = some (some (.ref f11))) (l11 : K.lookup f11 = some ⟨oc11, od11, .func (PySem.W.fnOf "_law_cells" "_law_cells" (defArgs sLawCells) (defBody sLawCells) (defScope sLawCells) .none kV11 dc11 pm11 an11 cd11 ct11), sl11⟩) (c11 : PySem.W.codeIn K cd11 "_law_cells" = true) (k11 : PySem.W.keepIn K (.ref f11) = true)
    (a12 : PySem.W.nsIn K mainGlobals "_law_same" = some (some (.ref f12))) (l12 : K.lookup f12 = some ⟨oc12, od12, .func (PySem.W.fnOf "_law_same" "_law_same" (defArgs sLawSame) (defBody sLawSame) (defScope sLawSame) .none kV12 dc12 pm12 an12 cd12 ct12), sl12⟩) (c12 : PySem.W.codeIn K cd12 "_law_same" = true) (k12 : PySem.W.keepIn K (.ref f12) = true)
    (a13 : PySem.W.nsIn K mainGlobals "_law_lists" = some (some (.ref f13))) (l13 : K.lookup f13 = some ⟨oc13, od13, .func (PySem.W.fnOf "_law_lists" "_law_lists" (defArgs sLawLists) (defBody sLawLists) (defScope sLawLists) .none kV13 dc13 pm13 an13 cd13 ct13), sl13⟩) (c13 : PySem.W.codeIn K cd13 "_law_lists" = true) (k13 : PySem.W.keepIn K (.ref f13) = true)
    (a14 : PySem.W.nsIn K mainGlobals "_law_ladder" = some (some (.ref f14))) (l14 : K.lookup f14 = some ⟨oc14, od14, .func (PySem.W.fnOf "_law_ladder" "_law_ladder" (defArgs sLawLadder) (defBody sLawLadder) (defScope sLawLadder) .none kV14 dc14 pm14 an14 cd14 ct14), sl14⟩) (c14 : PySem.W.codeIn K cd14 "_law_ladder" = true) (k14 : PySem.W.keepIn K (.ref f14) = true)
    (a15 : PySem.W.nsIn K mainGlobals "_law_random_book" = some (some (.ref f15))) (l15 : K.lookup f15 = some ⟨oc15, od15, .func (PySem.W.fnOf "_law_random_book" "_law_random_book" (defArgs sLawRandomBook) (defBody sLawRandomBook) (defScope sLawRandomBook) .none kV15 dc15 pm15 an15 cd15 ct15), sl15⟩) (c15 : PySem.W.codeIn K cd15 "_law_random_book" = true) (k15 : PySem.W.keepIn K (.ref f15) = true)
    (a16 : PySem.W.nsIn K mainGlobals "_law_random_standing" = some (some (.ref f16))) (l16 : K.lookup f16 = some ⟨oc16, od16, .func (PySem.W.fnOf "_law_random_standing" "_law_random_standing" (defArgs sLawRandomStanding) (defBody sLawRandomStanding) (defScope sLawRandomStanding) .none kV16 dc16 pm16 an16 cd16 ct16), sl16⟩) (c16 : PySem.W.codeIn K cd16 "_law_random_standing" = true) (k16 : PySem.W.keepIn K (.ref f16) = true)
    (a17 : PySem.W.nsIn K mainGlobals "_law_random_faces" = some (some (.ref f17))) (l17 : K.lookup f17 = some ⟨oc17, od17, .func (PySem.W.fnOf "_law_random_faces" "_law_random_faces" (defArgs sLawRandomFaces) (defBody sLawRandomFaces) (defScope sLawRandomFaces) .none kV17 dc17 pm17 an17 cd17 ct17), sl17⟩) (c17 : PySem.W.codeIn K cd17 "_law_random_faces" = true) (k17 : PySem.W.keepIn K (.ref f17) = true)
    (a18 : PySem.W.nsIn K mainGlobals "_law_random_state" = some (some (.ref f18))) (l18 : K.lookup f18 = some ⟨oc18, od18, .func (PySem.W.fnOf "_law_random_state" "_law_random_state" (defArgs sLawRandomState) (defBody sLawRandomState) (defScope sLawRandomState) .none kV18 dc18 pm18 an18 cd18 ct18), sl18⟩) (c18 : PySem.W.codeIn K cd18 "_law_random_state" = true) (k18 : PySem.W.keepIn K (.ref f18) = true)
    (a19 : PySem.W.nsIn K mainGlobals "_law_beaten" = some (some (.ref f19))) (l19 : K.lookup f19 = some ⟨oc19, od19, .func (PySem.W.fnOf "_law_beaten" "_law_beaten" (defArgs sLawBeaten) (defBody sLawBeaten) (defScope sLawBeaten) .none kV19 dc19 pm19 an19 cd19 ct19), sl19⟩) (c19 : PySem.W.codeIn K cd19 "_law_beaten" = true) (k19 : PySem.W.keepIn K (.ref f19) = true)
    (a20 : PySem.W.nsIn K mainGlobals "_law_about" = some (some (.ref f20))) (l20 : K.lookup f20 = some ⟨oc20, od20, .func (PySem.W.fnOf "_law_about" "_law_about" (defArgs sLawAbout) (defBody sLawAbout) (defScope sLawAbout) .none kV20 dc20 pm20 an20 cd20 ct20), sl20⟩) (c20 : PySem.W.codeIn K cd20 "_law_about" = true) (k20 : PySem.W.keepIn K (.ref f20) = true)
    (a21 : PySem.W.nsIn K mainGlobals "_law_begin" = some (some (.ref f21))) (l21 : K.lookup f21 = some ⟨oc21, od21, .func (PySem.W.fnOf "_law_begin" "_law_begin" (defArgs sLawBegin) (defBody sLawBegin) (defScope sLawBegin) .none kV21 dc21 pm21 an21 cd21 ct21), sl21⟩) (c21 : PySem.W.codeIn K cd21 "_law_begin" = true) (k21 : PySem.W.keepIn K (.ref f21) = true)
    (a22 : PySem.W.nsIn K mainGlobals "_law_right" = some (some (.ref f22))) (l22 : K.lookup f22 = some ⟨oc22, od22, .func (PySem.W.fnOf "_law_right" "_law_right" (defArgs sLawRight) (defBody sLawRight) (defScope sLawRight) .none kV22 dc22 pm22 an22 cd22 ct22), sl22⟩) (c22 : PySem.W.codeIn K cd22 "_law_right" = true) (k22 : PySem.W.keepIn K (.ref f22) = true)
    (a23 : PySem.W.nsIn K mainGlobals "law" = some (some (.ref f23))) (l23 : K.lookup f23 = some ⟨oc23, od23, .func (PySem.W.fnOf "law" "law" (defArgs sLaw) (defBody sLaw) (defScope sLaw) .none kV23 dc23 pm23 an23 cd23 ct23), sl23⟩) (c23 : PySem.W.codeIn K cd23 "law" = true) (k23 : PySem.W.keepIn K (.ref f23) = true)
    (z1 : PySem.W.nsIn K mainGlobals "len" = some none) (z2 : PySem.W.nsIn K mainGlobals "abs" = some none) (z3 : PySem.W.nsIn K mainGlobals "int" = some none) (z4 : PySem.W.nsIn K mainGlobals "bool" = some none) (z5 : PySem.W.nsIn K mainGlobals "str" = some none) (z6 : PySem.W.nsIn K mainGlobals "range" = some none) (z7 : PySem.W.nsIn K mainGlobals "list" = some none) (z8 : PySem.W.nsIn K mainGlobals "tuple" = some none) (z9 : PySem.W.nsIn K mainGlobals "isinstance" = some none) (z10 : PySem.W.nsIn K mainGlobals "all" = some none) (z11 : PySem.W.nsIn K mainGlobals "zip" = some none) (z12 : PySem.W.nsIn K mainGlobals "enumerate" = some none) (z13 : PySem.W.nsIn K mainGlobals "max" = some none) (z14 : PySem.W.nsIn K mainGlobals "repr" = some none) :
    ∃ fd : FuncData, (∀ (s : Shared) (v : Value), BindsTo s fd ⟨[v], []⟩ [("_law_script", v)]) ∧ ∀ base : Heap, K.In base → base.Ns mainGlobals mg → FnG l.prog w K mg base 12 fa fd ["_law_script"] (spLaw K) := by
  have e := hfa.symm.trans (PySem.W.mg_of X G a23)
  cases e
  have FLengthOf := fun_mk (st := sLengthOf) l1 c1 k1
  have DLengthOf : Df K mg "length_of" sLengthOf ["book", "rungs", "climber"] f1 _ := ⟨FLengthOf, FLengthOf.binds (ps := ["book", "rungs", "climber"]) fun _ _ _ _ _ _ us hl => match us, hl with | [_, _, _], _ => rfl, PySem.W.mg_of X G a1⟩
  have FLengths := fun_mk (st := sLengths) l2 c2 k2
  have DLengths : Df K mg "lengths" sLengths ["book", "standing"] f2 _ := ⟨FLengths, FLengths.binds (ps := ["book", "standing"]) fun _ _ _ _ _ _ us hl => match us, hl with | [_, _], _ => rfl, PySem.W.mg_of X G a2⟩
  have FEndRung := fun_mk (st := sEndRung) l3 c3 k3
  have DEndRung : Df K mg "end_rung" sEndRung ["length", "face"] f3 _ := ⟨FEndRung, FEndRung.binds (ps := ["length", "face"]) fun _ _ _ _ _ _ us hl => match us, hl with | [_, _], _ => rfl, PySem.W.mg_of X G a3⟩
  have FBlocked := fun_mk (st := sBlocked) l4 c4 k4
  have DBlocked : Df K mg "blocked" sBlocked ["book", "state"] f4 _ := ⟨FBlocked, FBlocked.binds (ps := ["book", "state"]) fun _ _ _ _ _ _ us hl => match us, hl with | [_, _], _ => rfl, PySem.W.mg_of X G a4⟩
  have FMover := fun_mk (st := sMover) l5 c5 k5
  have DMover : Df K mg "mover" sMover ["book", "state"] f5 _ := ⟨FMover, FMover.binds (ps := ["book", "state"]) fun _ _ _ _ _ _ us hl => match us, hl with | [_, _], _ => rfl, PySem.W.mg_of X G a5⟩
  have FTurned := fun_mk (st := sTurned) l6 c6 k6
  have DTurned : Df K mg "turned" sTurned ["state"] f6 _ := ⟨FTurned, FTurned.binds (ps := ["state"]) fun _ _ _ _ _ _ us hl => match us, hl with | [_], _ => rfl, PySem.W.mg_of X G a6⟩
  have FBeat := fun_mk (st := sBeat) l7 c7 k7
  have DBeat : Df K mg "beat" sBeat ["book", "state"] f7 _ := ⟨FBeat, FBeat.binds (ps := ["book", "state"]) fun _ _ _ _ _ _ us hl => match us, hl with | [_, _], _ => rfl, PySem.W.mg_of X G a7⟩
  have FBeatsAlong := fun_mk (st := sBeatsAlong) l8 c8 k8
  have DBeatsAlong : Df K mg "beats_along" sBeatsAlong ["book", "state", "many"] f8 _ := ⟨FBeatsAlong, FBeatsAlong.binds (ps := ["book", "state", "many"]) fun _ _ _ _ _ _ us hl => match us, hl with | [_, _, _], _ => rfl, PySem.W.mg_of X G a8⟩
  have FLawBox := fun_mk (st := sLawBox) l9 c9 k9
  have DLawBox : Df K mg "_law_box" sLawBox ["_law_script", "_law_k"] f9 _ := ⟨FLawBox, FLawBox.binds (ps := ["_law_script", "_law_k"]) fun _ _ _ _ _ _ us hl => match us, hl with | [_, _], _ => rfl, PySem.W.mg_of X G a9⟩
  have FLawTake := fun_mk (st := sLawTake) l10 c10 k10
  have DLawTake : Df K mg "_law_take" sLawTake ["_law_box_here", "_law_span"] f10 _ := ⟨FLawTake, FLawTake.binds (ps := ["_law_box_here", "_law_span"]) fun _ _ _ _ _ _ us hl => match us, hl with | [_, _], _ => rfl, PySem.W.mg_of X G a10⟩
  have FLawCells := fun_mk (st := sLawCells) l11 c11 k11
  have DLawCells : Df K mg "_law_cells" sLawCells ["_law_script", "_law_most"] f11 _ := ⟨FLawCells, FLawCells.binds (ps := ["_law_script", "_law_most"]) fun _ _ _ _ _ _ us hl => match us, hl with | [_, _], _ => rfl, PySem.W.mg_of X G a11⟩
  have FLawSame := fun_mk (st := sLawSame) l12 c12 k12
  have DLawSame : Df K mg "_law_same" sLawSame ["_law_found", "_law_due"] f12 _ := ⟨FLawSame, FLawSame.binds (ps := ["_law_found", "_law_due"]) fun _ _ _ _ _ _ us hl => match us, hl with | [_, _], _ => rfl, PySem.W.mg_of X G a12⟩
  have FLawLists := fun_mk (st := sLawLists) l13 c13 k13
  have DLawLists : Df K mg "_law_lists" sLawLists ["_law_matter"] f13 _ := ⟨FLawLists, FLawLists.binds (ps := ["_law_matter"]) fun _ _ _ _ _ _ us hl => match us, hl with | [_], _ => rfl, PySem.W.mg_of X G a13⟩
  have FLawLadder := fun_mk (st := sLawLadder) l14 c14 k14
  have DLawLadder : Df K mg "_law_ladder" sLawLadder ["_law_shelf", "_law_rungs", "_law_who"] f14 _ := ⟨FLawLadder, FLawLadder.binds (ps := ["_law_shelf", "_law_rungs", "_law_who"]) fun _ _ _ _ _ _ us hl => match us, hl with | [_, _, _], _ => rfl, PySem.W.mg_of X G a14⟩
  have FLawRandomBook := fun_mk (st := sLawRandomBook) l15 c15 k15
  have DLawRandomBook : Df K mg "_law_random_book" sLawRandomBook ["_law_box_here", "_law_most", "_law_high"] f15 _ := ⟨FLawRandomBook, FLawRandomBook.binds (ps := ["_law_box_here", "_law_most", "_law_high"]) fun _ _ _ _ _ _ us hl => match us, hl with | [_, _, _], _ => rfl, PySem.W.mg_of X G a15⟩
  have FLawRandomStanding := fun_mk (st := sLawRandomStanding) l16 c16 k16
  have DLawRandomStanding : Df K mg "_law_random_standing" sLawRandomStanding ["_law_box_here", "_law_shelf"] f16 _ := ⟨FLawRandomStanding, FLawRandomStanding.binds (ps := ["_law_box_here", "_law_shelf"]) fun _ _ _ _ _ _ us hl => match us, hl with | [_, _], _ => rfl, PySem.W.mg_of X G a16⟩
  have FLawRandomFaces := fun_mk (st := sLawRandomFaces) l17 c17 k17
  have DLawRandomFaces : Df K mg "_law_random_faces" sLawRandomFaces ["_law_box_here", "_law_count"] f17 _ := ⟨FLawRandomFaces, FLawRandomFaces.binds (ps := ["_law_box_here", "_law_count"]) fun _ _ _ _ _ _ us hl => match us, hl with | [_, _], _ => rfl, PySem.W.mg_of X G a17⟩
  have FLawRandomState := fun_mk (st := sLawRandomState) l18 c18 k18
  have DLawRandomState : Df K mg "_law_random_state" sLawRandomState ["_law_box_here", "_law_shelf"] f18 _ := ⟨FLawRandomState, FLawRandomState.binds (ps := ["_law_box_here", "_law_shelf"]) fun _ _ _ _ _ _ us hl => match us, hl with | [_, _], _ => rfl, PySem.W.mg_of X G a18⟩
  have FLawBeaten := fun_mk (st := sLawBeaten) l19 c19 k19
  have DLawBeaten : Df K mg "_law_beaten" sLawBeaten ["_law_shelf", "_law_spot"] f19 _ := ⟨FLawBeaten, FLawBeaten.binds (ps := ["_law_shelf", "_law_spot"]) fun _ _ _ _ _ _ us hl => match us, hl with | [_, _], _ => rfl, PySem.W.mg_of X G a19⟩
  have FLawAbout := fun_mk (st := sLawAbout) l20 c20 k20
  have DLawAbout : Df K mg "_law_about" sLawAbout ["_law_spot"] f20 _ := ⟨FLawAbout, FLawAbout.binds (ps := ["_law_spot"]) fun _ _ _ _ _ _ us hl => match us, hl with | [_], _ => rfl, PySem.W.mg_of X G a20⟩
  have FLawBegin := fun_mk (st := sLawBegin) l21 c21 k21
  have DLawBegin : Df K mg "_law_begin" sLawBegin ["_law_shelf", "_law_marks"] f21 _ := ⟨FLawBegin, FLawBegin.binds (ps := ["_law_shelf", "_law_marks"]) fun _ _ _ _ _ _ us hl => match us, hl with | [_, _], _ => rfl, PySem.W.mg_of X G a21⟩
  have FLawRight := fun_mk (st := sLawRight) l22 c22 k22
  have DLawRight : Df K mg "_law_right" sLawRight ["_law_box_here"] f22 _ := ⟨FLawRight, FLawRight.binds (ps := ["_law_box_here"]) fun _ _ _ _ _ _ us hl => match us, hl with | [_], _ => rfl, PySem.W.mg_of X G a22⟩
  have FLaw := fun_mk (st := sLaw) l23 c23 k23
  have T : Bl mg := ⟨PySem.W.mg_none_of X G z1, PySem.W.mg_none_of X G z2, PySem.W.mg_none_of X G z3, PySem.W.mg_none_of X G z4, PySem.W.mg_none_of X G z5, PySem.W.mg_none_of X G z6, PySem.W.mg_none_of X G z7, PySem.W.mg_none_of X G z8, PySem.W.mg_none_of X G z9, PySem.W.mg_none_of X G z10, PySem.W.mg_none_of X G z11, PySem.W.mg_none_of X G z12, PySem.W.mg_none_of X G z13, PySem.W.mg_none_of X G z14⟩
  refine ⟨PySem.W.fnOf "law" "law" (defArgs sLaw) (defBody sLaw) (defScope sLaw) .none kV23 dc23 pm23 an23 cd23 ct23, fun s v => .of_eq rfl, fun base _ _ => ?_⟩
  have gT : ∀ k, FnOk l.prog w K mg base CX0 (k + 1) _ _ _ spTake := fun k => ok_take FLawTake
  have gL : ∀ k, FnOk l.prog w K mg base CX0 (k + 1) _ _ _ (spLengthOf K) := fun k => ok_ladder FLawLadder
  have gF : ∀ k, FnOk l.prog w K mg base CX0 (k + 2) _ _ _ spRFaces := fun k => ok_rfaces T FLawRandomFaces DLawTake (gT k)
  have gl : ∀ k, FnOk l.prog w K mg base CX0 (k + 2) _ _ _ (spLengths K) := fun k => ok_lengths T FLengths DLengthOf (ok_length_of (k := k) FLengthOf)
  have gb : ∀ k, FnOk l.prog w K mg base CX0 (k + 3) _ _ _ (spBlocked K) := fun k => ok_blocked T FBlocked DLengths (gl k) DEndRung (ok_end FEndRung)
  have gm : ∀ k, FnOk l.prog w K mg base CX0 (k + 4) _ _ _ (spMover K) := fun k => ok_mover T FMover DBlocked (gb k)
  have gt : ∀ k, FnOk l.prog w K mg base CX0 (k + 1) _ _ _ (spTurned K) := fun k => ok_turned T FTurned
  have gB : ∀ k, FnOk l.prog w K mg base CX0 (k + 5) _ _ _ (spBeat K) := fun k => ok_beat T FBeat DMover (gm k) DTurned (gt (k + 3)) DLengthOf (ok_length_of FLengthOf) DEndRung (ok_end FEndRung)
  have gA := ok_along (P := l.prog) (w := w) (base := base) (k := 9) T FBeatsAlong DBeat (gB 4)
  have bb := kbinds (ps := ["book", "state"]) (ks := ["state", "book"]) FBeat (by simp) fun _ _ _ _ _ _ ws hl => match ws, hl with | [_, _], _ => rfl
  have ba := kbinds (ps := ["book", "state", "many"]) (ks := ["many", "state", "book"]) FBeatsAlong (by simp) fun _ _ _ _ _ _ ws hl => match ws, hl with | [_, _, _], _ => rfl
  have gR := ok_right (P := l.prog) (w := w) (base := base) (k := 10) T FLawRight DLawRandomBook (ok_rbook (k := 9) T FLawRandomBook DLawTake (gT 8))
    DLawRandomState (ok_rstate (k := 9) T FLawRandomState DLawRandomStanding (ok_rstand (k := 8) T FLawRandomStanding DLawTake (gT 7) DLawLadder (gL 7)) DLawRandomFaces (gF 7))
    DLawRandomFaces (gF 8) DLawBegin (ok_begin (k := 9) T FLawBegin DLawLadder (gL 8)) DLawTake (gT 9)
    DLawAbout (ok_about (k := 9) T FLawAbout) DLawBeaten (ok_beaten (k := 9) T FLawBeaten DLawLadder (gL 8)) DBeat (gB 5) bb DBeatsAlong gA ba
    DLawSame (ok_same T DLawSame 10) DLawLists (ok_lists T DLawLists 10) (Nat.le_refl 10)
  exact ok_law (k := 11) T FLaw DLawCells (ok_cells (k := 10) T FLawCells) DLawBox (ok_box (k := 10) T FLawBox) DLawRight gR
end Af
open PySem PySem.W PyProof.Rows
set_option maxRecDepth 100000 in
set_option maxHeartbeats 0 in
theorem PySem.Challenge.cw_aboutface_k04_beat_by_beat_holds : PySem.Challenge.rw_aboutface_k04_beat_by_beat.Holds := by
  w_on; o_law; k_head; (case hw => w_witness2)
  k_fill
  refine Af.walk_ofG (l := PySem.Challenge.rw_aboutface_k04_beat_by_beat) (n := 63) (k := 12) (x := "_law_script") (sp := Af.spLaw) rfl (by decide) rfl ⟨rfl, by decide, by decide⟩ (fun w h Y => PySem.W.kIn_of Y) ?F (fun _ _ a ns hl _ hS => ⟨a, ns, rfl, hS, hl, fun _ => rfl⟩)
  case F =>
    intro w mg fa h KX G hmg
    refine' Af.all_mk KX G hmg ?a1 ?l1 ?c1 ?k1 ?a2 ?l2 ?c2 ?k2 ?a3 ?l3 ?c3 ?k3 ?a4 ?l4 ?c4 ?k4 ?a5 ?l5 ?c5 ?k5 ?a6 ?l6 ?c6 ?k6 ?a7 ?l7 ?c7 ?k7 ?a8 ?l8 ?c8 ?k8 ?a9 ?l9 ?c9 ?k9 ?a10 ?l10 ?c10 ?k10 ?a11 ?l11 ?c11 ?k11 ?a12 ?l12 ?c12 ?k12 ?a13 ?l13 ?c13 ?k13 ?a14 ?l14 ?c14 ?k14 ?a15 ?l15 ?c15 ?k15 ?a16 ?l16 ?c16 ?k16 ?a17 ?l17 ?c17 ?k17 ?a18 ?l18 ?c18 ?k18 ?a19 ?l19 ?c19 ?k19 ?a20 ?l20 ?c20 ?k20 ?a21 ?l21 ?c21 ?k21 ?a22 ?l22 ?c22 ?k22 ?a23 ?l23 ?c23 ?k23 ?z1 ?z2 ?z3 ?z4 ?z5 ?z6 ?z7 ?z8 ?z9 ?z10 ?z11 ?z12 ?z13 ?z14
    (case a1 => k_is); (case l1 => k_is); (case c1 => k_is); (case k1 => k_is); (case a2 => k_is); (case l2 => k_is); (case c2 => k_is); (case k2 => k_is)
    (case a3 => k_is); (case l3 => k_is); (case c3 => k_is); (case k3 => k_is); (case a4 => k_is); (case l4 => k_is); (case c4 => k_is); (case k4 => k_is)
    (case a5 => k_is); (case l5 => k_is); (case c5 => k_is); (case k5 => k_is); (case a6 => k_is); (case l6 => k_is); (case c6 => k_is); (case k6 => k_is)
    (case a7 => k_is); (case l7 => k_is); (case c7 => k_is); (case k7 => k_is); (case a8 => k_is); (case l8 => k_is); (case c8 => k_is); (case k8 => k_is)
    (case a9 => k_is); (case l9 => k_is); (case c9 => k_is); (case k9 => k_is); (case a10 => k_is); (case l10 => k_is); (case c10 => k_is); (case k10 => k_is)
    (case a11 => k_is); (case l11 => k_is); (case c11 => k_is); (case k11 => k_is); (case a12 => k_is); (case l12 => k_is); (case c12 => k_is); (case k12 => k_is)
    (case a13 => k_is); (case l13 => k_is); (case c13 => k_is); (case k13 => k_is); (case a14 => k_is); (case l14 => k_is); (case c14 => k_is); (case k14 => k_is)
    (case a15 => k_is); (case l15 => k_is); (case c15 => k_is); (case k15 => k_is); (case a16 => k_is); (case l16 => k_is); (case c16 => k_is); (case k16 => k_is)
    (case a17 => k_is); (case l17 => k_is); (case c17 => k_is); (case k17 => k_is); (case a18 => k_is); (case l18 => k_is); (case c18 => k_is); (case k18 => k_is)
    (case a19 => k_is); (case l19 => k_is); (case c19 => k_is); (case k19 => k_is); (case a20 => k_is); (case l20 => k_is); (case c20 => k_is); (case k20 => k_is)
    (case a21 => k_is); (case l21 => k_is); (case c21 => k_is); (case k21 => k_is); (case a22 => k_is); (case l22 => k_is); (case c22 => k_is); (case k22 => k_is)
    (case a23 => k_is); (case l23 => k_is); (case c23 => k_is); (case k23 => k_is); (case z1 => k_is); (case z2 => k_is); (case z3 => k_is); (case z4 => k_is)
    (case z5 => k_is); (case z6 => k_is); (case z7 => k_is); (case z8 => k_is); (case z9 => k_is); (case z10 => k_is); (case z11 => k_is); (case z12 => k_is)
    (case z13 => k_is); (case z14 => k_is)
