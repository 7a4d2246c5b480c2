import PyProof.Rows.All
import Wide.All
import OpenK.AllK
import Wide.FinOn
import PySem.Challenge.RW_evenlead_k09_texts_that_are_none
import HandS.ForMost
import HandS.Style
import HandS.Wide
import HandS.IsInst
import HandS.Evl
import PyProof.ReprRoads
import PyProof.Rows.StrPadFill
import KE.KDictZip
import KE.GoesMore
import KE.GoesEnum
import PyProof.CollectWalk
import HandS.RevTup
import HandS.Walk
import HandS.TupAny
import PyProof.Rows.StrPadWhole
import KE.KRevSl
import HandS.TupMul
import HandS.Zip
import KE.GoesComp
import PyProof.SumWalkG
import HandS.OwnEq
import HandS.ListItems
import HandS.SetFor
import HandS.Strs
import HandS.SortInts
import HandS.More
import HandS.SetKeys
import HandS.DictComp
import HandS.FStr
import HandS.Star
import HandS.ForExc
import HandS.ClsMeth
import HandS.CallLocal
import KE.KCallOwn
import HandS.TryOnly
import HandS.Comp
import HandS.ExcIs
import PyProof.ListStr
set_option Elab.async false
set_option linter.all false
set_option maxRecDepth 100000
set_option maxHeartbeats 4000000
namespace EL
open PySem PySem.Spec PyProof.Rows L2
/-! ### the deck of draws: a list [queue, blend, count]; the queue a list of ints -/
structure Dk (a q : Addr) (c : Nat) (H : Hp) : Prop where
  ne : a ≠ q
  top : ∃ b : Int, 0 ≤ b ∧ b < 2147483648 ∧ H a = some (.lst [.ref q, .int b, .int (c : Int)])
  que : ∃ ns : List Int, ns.length ≤ 63 ∧ H q = some (.lst (ns.map V.int))
/-- at most m draws so far -/
def Dw (a q : Addr) (m : Nat) (H : Hp) : Prop := ∃ c, c ≤ m ∧ Dk a q c H
/-- all but the deck stands -/
def Off (a q : Addr) (H H' : Hp) : Prop := ∀ b o, b ≠ a → b ≠ q → H b = some o → H' b = some o
theorem Off.refl {a q : Addr} (H : Hp) : Off a q H H := fun _ _ _ _ h => h
theorem Off.trans {a q : Addr} {H H1 H2 : Hp} (x : Off a q H H1) (y : Off a q H1 H2) : Off a q H H2 := fun b o h1 h2 h => y b o h1 h2 (x b o h1 h2 h)
theorem Off.of_same {a q : Addr} {H H' : Hp} (x : Same H H') : Off a q H H' := fun b o _ _ h => x b o h
/-- the heap without the deck -/
def hid (a q : Addr) (H : Hp) : Hp := fun b => if b = a ∨ b = q then none else H b
theorem hid_ne {a q b : Addr} {H : Hp} (h1 : b ≠ a) (h2 : b ≠ q) : hid a q H b = H b := by unfold hid; rw [if_neg (fun z => z.elim h1 h2)]
theorem hid_some {a q b : Addr} {H : Hp} {o : HO} (h : hid a q H b = some o) : b ≠ a ∧ b ≠ q ∧ H b = some o := by
  unfold hid at h
  by_cases z : b = a ∨ b = q
  · rw [if_pos z] at h; cases h
  · rw [if_neg z] at h; exact ⟨fun e => z (.inl e), fun e => z (.inr e), h⟩
theorem hid_sub {a q : Addr} {H : Hp} : Same (hid a q H) H := fun b o h => (hid_some h).2.2
theorem Off.hid {a q : Addr} {H H' : Hp} (x : Off a q H H') : Same (hid a q H) (hid a q H') := fun b o h => by
  obtain ⟨h1, h2, h3⟩ := hid_some h
  rw [hid_ne h1 h2]; exact x b o h1 h2 h3
theorem same_upd {H : Hp} {p : Addr} {o : HO} (h : H p = none) : Same H (upd H p o) := fun b x e => by
  rw [upd_ne (ne_of_none e h)]; exact e
theorem Dk.same {a q : Addr} {c : Nat} {H H' : Hp} (d : Dk a q c H) (s : Same H H') : Dk a q c H' := by
  obtain ⟨b, h1, h2, h3⟩ := d.top
  obtain ⟨ns, h4, h5⟩ := d.que
  exact ⟨d.ne, ⟨b, h1, h2, s _ _ h3⟩, ⟨ns, h4, s _ _ h5⟩⟩
theorem Dw.same {a q : Addr} {m : Nat} {H H' : Hp} (d : Dw a q m H) (s : Same H H') : Dw a q m H' := by
  obtain ⟨c, hc, k⟩ := d; exact ⟨c, hc, k.same s⟩
theorem Dw.mono {a q : Addr} {m n : Nat} {H : Hp} (d : Dw a q m H) (h : m ≤ n) : Dw a q n H := by
  obtain ⟨c, hc, k⟩ := d; exact ⟨c, Nat.le_trans hc h, k⟩
theorem Dk.na {a q p : Addr} {c : Nat} {H : Hp} (d : Dk a q c H) (h : H p = none) : p ≠ a ∧ p ≠ q := by
  obtain ⟨b, _, _, h3⟩ := d.top
  obtain ⟨ns, _, h5⟩ := d.que
  exact ⟨fun e => (by rw [e, h3] at h; cases h), fun e => (by rw [e, h5] at h; cases h)⟩
theorem Dw.na {a q p : Addr} {m : Nat} {H : Hp} (d : Dw a q m H) (h : H p = none) : p ≠ a ∧ p ≠ q := by
  obtain ⟨c, _, k⟩ := d; exact k.na h
/-- a store at an object beside the deck -/
theorem Dk.upd {a q p : Addr} {c : Nat} {H : Hp} {o : HO} (d : Dk a q c H) (h1 : p ≠ a) (h2 : p ≠ q) : Dk a q c (upd H p o) := by
  obtain ⟨b, h3, h4, h5⟩ := d.top
  obtain ⟨ns, h6, h7⟩ := d.que
  exact ⟨d.ne, ⟨b, h3, h4, by rw [upd_ne (Ne.symm h1)]; exact h5⟩, ⟨ns, h6, by rw [upd_ne (Ne.symm h2)]; exact h7⟩⟩
theorem Dw.upd {a q p : Addr} {m : Nat} {H : Hp} {o : HO} (d : Dw a q m H) (h1 : p ≠ a) (h2 : p ≠ q) : Dw a q m (upd H p o) := by
  obtain ⟨c, hc, k⟩ := d; exact ⟨c, hc, k.upd h1 h2⟩
theorem len_sz {n : Nat} (h : n ≤ 1000000) : n ≤ sizeLine := Nat.le_trans h (by decide)
theorem lt_sz {n : Nat} (h : n ≤ 1000000) : n < sizeLine := Nat.lt_of_le_of_lt h (by decide)
theorem dpInts {K : PySem.W.Frag} {H : Hp} : ∀ ns : List Int, DpAll K H (ns.map V.int) (ns.map PyData.int)
  | [] => .nil
  | n :: r => .cons (.int n) (dpInts r)
/-! ### slices of lists of ints -/
def cutI (ns : List Int) (k : Nat) : List Int := ns.take k
theorem cutI_map (ns : List Int) : cutV (ns.map V.int) none (some 63) = (cutI ns 63).map V.int := by
  unfold cutV cutI
  rw [show HT.sIx (ns.map V.int).length (ns.map V.int).length (some 63) = min 63 (ns.map V.int).length from HT.sIx_nat _ _ 63, HT.sIx_none, List.drop_zero, Nat.sub_zero, List.map_take, List.take_eq_take_iff]
  omega
theorem cutI_len (ns : List Int) (k : Nat) (h : ns.length ≤ 63) : (cutI ns k).length ≤ 63 := by
  unfold cutI; rw [List.length_take]; omega
theorem get_map_int {ms : List Int} {i : Nat} {x : V} (h : (ms.map V.int)[i]? = some x) : ∃ z, ms[i]? = some z ∧ x = V.int z := by
  rw [List.getElem?_map] at h
  cases e : ms[i]? with
  | none => rw [e] at h; cases h
  | some z => rw [e] at h; exact ⟨z, rfl, (Option.some.inj h).symm⟩
theorem sqOf {K : PySem.W.Frag} {H : Hp} {a : Addr} {xs : List V} (h : H a = some (.lst xs)) : SqL K H a xs := .inl (.inl h)
theorem stOf {K : PySem.W.Frag} {H : Hp} {a : Addr} {xs : List V} (h : H a = some (.tup xs)) : SqT K H a xs := .inl (.inl h)
theorem ex_l' {K : PySem.W.Frag} {H H' : Hp} {a : Addr} {xs : List V} (e : Same H H') (h : SqL K H a xs) : SqL K H' a xs := e.seq h
theorem ex_t' {K : PySem.W.Frag} {H H' : Hp} {a : Addr} {xs : List V} (e : Same H H') (h : SqT K H a xs) : SqT K H' a xs := Evl.ex_t e h
theorem canLay_ints : ∀ ns : List Int, PyData.canLayAll0 (ns.map PyData.int) = true
  | [] => by simp [PyData.canLayAll0]
  | n :: r => by simp [PyData.canLayAll0, PyData.canLay0, canLay_ints r]
theorem depth_ints : ∀ ns : List Int, PyData.depthAll (ns.map PyData.int) = 0
  | [] => by simp [PyData.depthAll]
  | n :: r => by simp [PyData.depthAll, PyData.depth, depth_ints r]
theorem shaped_ints (ns : List Int) : SeqAt.shaped (.list (ns.map PyData.int)) = true := by
  simp [SeqAt.shaped, PyData.canLay0, PyData.depth, canLay_ints, depth_ints]
theorem eqv_nil (ns : List Int) : PyData.eqv (.list (ns.map PyData.int)) (.list []) = decide (ns = []) := by
  cases ns <;> simp [PyData.eqv, PyData.eqvAll]
theorem last_int {ns : List Int} (h : ns ≠ []) : ∃ y, (ns.map V.int)[(ns.map V.int).length - 1]? = some (.int y) := by
  have hl : 0 < ns.length := List.length_pos_iff.mpr h
  refine ⟨ns[ns.length - 1]'(by omega), ?_⟩
  rw [List.getElem?_map, List.length_map, List.getElem?_eq_getElem (by omega)]; rfl
/-! ### a def that may be called -/
structure Cal (P : Program) (w : World) (K : PySem.W.Frag) (mg : Str → Option Value) (base : Heap) (k : Nat) (x : Str) (ps : List Str) (sp : Sp) where
  f : Addr
  fd : FuncData
  ok : FnOk P w K mg base CX0 k f fd ps sp
  g : mg x = some (.ref f)
  kp : PySem.W.keepIn K (.ref f) = true
  b : Binds K fd ps []
theorem pe_cal {X : Cx} {k : Nat} {x : Str} {ps : List Str} {sp : Sp} {E : XK} {e : Expr} {es : List Expr} {t : TA} {p pos : Pos} (C : Cal X.prog X.w X.K X.mg X.base k x ps sp) (hr : Room k X.A) (hg : Gl X x) (hx : Passes CX0 X E) (ha : PA X (e :: es) t)
    (hdb : (x == ("__debug__" : Str)) = false := by decide) (he : starEach (e :: es) X.env = (false, eval e X.env) :: starEach es X.env := by rfl) (hpl : (backTo pos (starEach es X.env)).any (·.1) = false := by rfl) :
    PE X (.Call (.Name x p) (e :: es) [] pos) (tCall sp [] E t) := pe_call C.ok hr hg C.g C.kp C.b .nil hx ha hdb he hpl
/-- the names of built-ins that the text leaves alone -/
abbrev Nn (mg : Str → Option Value) (x : Str) : Prop := mg x = none
/-! ### promises of the deck's defs -/
def spDeck (K : PySem.W.Frag) : Sp := fun vs H Q _ => ∃ (a : Addr) (ns : List Int), vs = [.ref a] ∧ SqL K H a (ns.map V.int) ∧ ns.length ≤ 63 ∧
  ∀ p q H', Same H H' → Dw p q 0 H' → H p = none → H q = none → Q (.ref p) H'
def spDraw : Sp := fun vs H Q _ => ∃ (a q : Addr) (m : Nat) (n : Int), vs = [.ref a, .int n] ∧ Dw a q m H ∧ m < 1000000000 ∧ 0 < n ∧ n < 1073741824 ∧
  ∀ k H', 0 ≤ k → k < n → Off a q H H' → Dw a q (m + 1) H' → Q (.int k) H'
/-- a pick of a list's item (not the deck's) -/
def spPick (K : PySem.W.Frag) : Sp := fun vs H Q _ => ∃ (a q : Addr) (m : Nat) (y : V) , vs = [.ref a, y] ∧ Dw a q m H ∧ m < 1000000000 ∧
  ((∃ (l : Addr) (xs : List V), y = .ref l ∧ SqL K (hid a q H) l xs ∧ xs ≠ [] ∧ xs.length ≤ 1000000 ∧ ∀ (i : Nat) (x : V) (H' : Hp), xs[i]? = some x → Off a q H H' → Dw a q (m + 1) H' → Q x H') ∨
   (∃ z : Str, y = .str z ∧ z.length ≠ 0 ∧ z.length ≤ 1000000 ∧ ∀ (i c : Nat) (H' : Hp), z.cps.toList[i]? = some c → Off a q H H' → Dw a q (m + 1) H' → Q (.str ⟨#[c]⟩) H'))
end EL
/-! Defs that show data (repr): a call where no display is under way around it. -/
namespace EL
open PySem PySem.Spec PyProof.Rows L2
/-- room, and nothing around is being shown -/
structure RoomG (k : Nat) (A : Around) : Prop where
  r : Room k A
  g : A.guards = some []
theorem RoomG.mono {j k : Nat} {A : Around} (h : RoomG k A) (hj : j ≤ k) : RoomG j A := ⟨h.r.mono hj, h.g⟩
/-- a def's promise where nothing around is being shown -/
structure FnG (P : Program) (w : World) (K : PySem.W.Frag) (mg : Str → Option Value) (base : Heap) (k : Nat) (f : Addr) (fd : FuncData) (ps : List Str) (sp : Sp) : Prop where
  ln : ∀ (vs : List V) (H : Hp) (Q : VK) (E : XK), sp vs H Q E → vs.length = ps.length
  go : ∀ {A : Around} {outer : List Env} {s : Shared} {H : Hp} {args : Args} {us : List Value} {vs : List V} {Q : VK} {E : XK},
    RoomG k A → Env0 P w K mg base A outer s H → BindsTo s fd args (ps.zip us) → Vals vs us → sp vs H Q E → codeAny (model P w) A (.call (.ref f) args) (CR CX0 outer P w H s Q E) s
section
variable {P : Program} {w : World} {K : PySem.W.Frag} {mg : Str → Option Value} {base : Heap}
theorem FnG.of {k : Nat} {f : Addr} {fd : FuncData} {ps : List Str} {sp : Sp} (F : FnOk P w K mg base CX0 k f fd ps sp) : FnG P w K mg base k f fd ps sp :=
  ⟨F.len, fun hr e hb hv hs => F.run _ _ _ _ _ _ _ _ _ hr.r e hb hv hs⟩
/-- by its body -/
theorem FnG.body {x : Str} {st : Stmt} {f : Addr} {fd : FuncData} {N ps : List Str} {k : Nat} {sp : Sp} (F : Fun K x x st f fd) (S : FnScope N ps (defScope st)) (ln : ∀ vs H Q E, sp vs H Q E → vs.length = ps.length)
    (hb : ∀ (cdv : Value) (A : Around) (outer : List Env) (s : Shared) (H : Hp) (vs : List V) (Q : VK) (E : XK), RoomG k (A.deeper (envOfC x (defScope st) s.heap.objs.size f cdv)) → sp vs H Q E →
      ∃ t, PSs (cxOf CX0 P w K mg base N x (defScope st) f cdv A outer s H E).nox (defBody st) t ∧ t { nx := fun _ H' => Q .non H', rt := Q } (start N vs) H) : FnG P w K mg base (k + 1) f fd ps sp := by
  obtain ⟨oc, od, kV, doc, pm, an, cdv, ct, osl, rfl, lk, hcd⟩ := F.ex
  refine ⟨ln, fun {A outer s H args us vs Q E} hr e0 bd rv hs => ?_⟩
  have stands : ∀ b o, base.get? b = some o → s.heap.get? b = some o := fun b o e => (e0.bs b o e).1
  have KX := e0.mod.kin.keeps stands
  have named : ∀ y ∈ ps.zip us, (defScope st).names.lookup y.1 = some .local ∨ ((defScope st).names.lookup y.1 = some .cell ∧ ((cellsFrom (s.heap.objs.size + 1) (defScope st).names []).lookup y.1).isSome = true) := by
    rintro ⟨n, v⟩ hy
    exact (S.par n (List.of_mem_zip hy).1).imp id fun q => ⟨q, PySem.W.cellsFrom_some _ _ _ (.inl q)⟩
  refine codeAny_call_function hr.r.depth (KX _ _ lk) rfl S.co S.gen rfl (PySem.W.codeRec_of KX hcd) (bd _ _ _ _ ?_)
  refine wpAny_newFunctionEnv_cells S.kind named fun env he s1 x1 => ?_
  subst he
  refine ⟨(e0.mod.nolimit.keeps stands).keeps x1.toInCall.keep, codeAny_func ?_⟩
  obtain ⟨t, ht, hq⟩ := hb cdv A outer s H vs Q E ⟨hr.r.deeper _, hr.g⟩ hs
  have I := inv_start (CX := CX0) (mg := mg) (base := base) (E := E) (qual := x) (f := f) (cd := cdv) S hr.r.hd e0 (ln _ _ _ _ hs) rv x1
  refine wpAny_mono (ht.nox.run [] s1 (start N vs) H _ I hq) (fun fl s2 end2 => ?_) fun _ _ z => z
  cases fl with
  | ret u =>
    obtain ⟨v, σ2, H2, J, r2, q2⟩ := end2
    exact ⟨v, H2, J.os, J.bare, J.base, J.hok, r2, q2⟩
  | next =>
    obtain ⟨σ2, H2, J, q2⟩ := end2
    exact ⟨.non, H2, J.os, J.bare, J.base, J.hok, rfl, q2⟩
  | brk => exact end2.elim fun _ z => z.elim fun _ y => y.2.elim
  | cont => exact end2.elim fun _ z => z.elim fun _ y => y.2.elim
end
/-- a def that may be called where nothing around is being shown -/
structure CalG (P : Program) (w : World) (K : PySem.W.Frag) (mg : Str → Option Value) (base : Heap) (k : Nat) (x : Str) (ps : List Str) (sp : Sp) where
  f : Addr
  fd : FuncData
  ok : FnG P w K mg base k f fd ps sp
  g : mg x = some (.ref f)
  kp : PySem.W.keepIn K (.ref f) = true
  b : Binds K fd ps []
section
variable {X : Cx} {k : Nat} {x : Str} {ps : List Str} {sp : Sp} {E : XK} {e : Expr} {es : List Expr} {t : TA} {p pos : Pos}
theorem pe_calG (C : CalG X.prog X.w X.K X.mg X.base k x ps sp) (hr : RoomG k X.A) (hg : Gl X x) (hx : Passes CX0 X E) (ha : PA X (e :: es) t)
    (hdb : (x == ("__debug__" : Str)) = false := by decide) (he : starEach (e :: es) X.env = (false, eval e X.env) :: starEach es X.env := by rfl) (hpl : (backTo pos (starEach es X.env)).any (·.1) = false := by rfl) :
    PE X (.Call (.Name x p) (e :: es) [] pos) (tCall sp [] E t) := by
  refine ⟨fun pins s σ H Q I h => wpAny_Call_Name_kw (ld_glob I hg C.g ?_ hdb)⟩
  refine PySem.W.callWith_K (h₀ := X.base) I.ok.mod.kin C.kp (thn (ha.run pos pins s σ H _ I h) fun us s1 hh => ?_) he hpl
  obtain ⟨vs, H1, I1, r, q⟩ := hh
  refine ⟨I1.kIn, ?_⟩
  have q' : sp vs H1 Q E := by rw [List.append_nil] at q; exact q
  have hl : us.length = ps.length := r.length.symm.trans (C.ok.ln _ _ _ _ q')
  have bd := C.b s1 us I1.kIn (by rw [List.append_nil]; exact hl)
  rw [List.append_nil] at bd
  refine wpAny_call (codeAny_mono (C.ok.go hr I1.env0 bd r q') fun r2 s2 h2 => ?_)
  match r2, h2 with
  | .error e, h2 => exact hx pins σ H1 s1 e s2 I1 h2
  | .ok (.ret u), h2 => exact I1.after h2
  | .ok .next, h2 => exact h2.elim
  | .ok .brk, h2 => exact h2.elim
  | .ok .cont, h2 => exact h2.elim
end
/-! ### the end: the law's def, called by the claim -/
section
variable {P : Program} {w : World} {K : PySem.W.Frag} {mg mb : Str → Option Value} {s₁ : Shared}
/-- the base under an abstract heap that tracks one list at most -/
theorem base_one {H : Hp} {a : Addr} {vs : List Value} (KX : K.In s₁.heap) (hns : s₁.heap.Ns mainGlobals mg) (hb : s₁.heap.Ns builtinsNs mb) (hbb : ∀ x : Str, x ≠ "__name__" → mb x = bootBuiltins x) (hlim : s₁.heap.NoLimit)
    (ha : s₁.heap.get? a = some { cls := .type "list", data := .seq vs.toArray }) (hA : ∀ b u, H b = some u → b = a) (hK : ∀ u, H a = some u → K.lookup a = none) :
    K.In (hidT s₁.heap H) ∧ Mod K mg (hidT s₁.heap H) := by
  have dictFree : ∀ {b : Addr} {o : Obj} {es : Array DictEntry} {n : Nat}, s₁.heap.get? b = some o → o.data = .dict es n → H b = none := by
    intro b o es n e d
    cases q : H b with
    | none => rfl
    | some u =>
      obtain rfl := hA b u q
      rw [ha] at e
      obtain rfl := Option.some.inj e
      exact nomatch d
  have ns : ∀ {b : Addr} {m : Str → Option Value}, s₁.heap.Ns b m → (hidT s₁.heap H).Ns b m := by
    rintro b m ⟨o, es, n, e, d, r⟩
    exact ⟨o, es, n, hidT_get e (dictFree e d), d, r⟩
  have kin : K.In (hidT s₁.heap H) := by
    intro b o e
    refine hidT_get (KX b o e) ?_
    cases q : H b with
    | none => rfl
    | some u =>
      obtain rfl := hA b u q
      rw [hK u q] at e
      exact nomatch e
  obtain ⟨mc, l1, l2⟩ := hlim
  exact ⟨kin, ⟨kin, ns hns, ⟨mb, ns hb, hbb⟩, ⟨mc, ns l1, l2⟩⟩⟩
theorem law_callG {k : Nat} {fa a : Addr} {fd : FuncData} {x : Str} {sp : Sp} {vs : List Value} {ns : List Int}
    (KX : K.In s₁.heap) (hns : s₁.heap.Ns mainGlobals mg) (hb : s₁.heap.Ns builtinsNs mb) (hbb : ∀ x : Str, x ≠ "__name__" → mb x = bootBuiltins x) (hlim : s₁.heap.NoLimit) (hg : s₁.gens = #[])
    (ha : s₁.heap.get? a = some { cls := .type "list", data := .seq vs.toArray }) (hi : IntsAre vs ns) (hl : ns.length ≤ sizeLine) (hr : Room k callerA)
    (F : ∀ base : Heap, K.In base → base.Ns mainGlobals mg → FnG P w K mg base k fa fd [x] sp) (hbind : ∀ (s : Shared) (u : Value), BindsTo s fd ⟨[u], []⟩ [(x, u)])
    (hsp : ∀ H : Hp, Only H → SqL K H a (ns.map V.int) → sp [.ref a] H (fun v _ => v = .bl true) fun _ _ _ => False) :
    codeAny (model P w) callerA (.call (.ref fa) ⟨[.ref a], []⟩) (fun r s' => r = .ok (.ret (.bool true)) ∧ OldK s₁.heap s'.heap ∧ s'.os = s₁.os ∧ AllBare s'.gens) s₁ := by
  have rv : Vals (ns.map V.int) vs := vals_ints hi
  have key : ∀ H : Hp, Only H → SqL K H a (ns.map V.int) → HOk P w H s₁.heap → (∀ b u, H b = some u → b = a) → (∀ u, H a = some u → K.lookup a = none) →
      codeAny (model P w) callerA (.call (.ref fa) ⟨[.ref a], []⟩) (fun r s' => r = .ok (.ret (.bool true)) ∧ OldK s₁.heap s'.heap ∧ s'.os = s₁.os ∧ AllBare s'.gens) s₁ := by
    intro H hO hS hok hA hK
    obtain ⟨kb, md⟩ := base_one KX hns hb hbb hlim ha hA hK
    have e0 : Env0 P w K mg (hidT s₁.heap H) callerA [] s₁ H := ⟨rfl, md, fun _ _ e => of_hidT e, Nat.le_of_eq (hidT_size s₁.heap H), trivial, fun _ z => (List.not_mem_nil z).elim, hok, .of_eq hg⟩
    have run := (F _ kb md.glob).go (Q := fun v _ => v = .bl true) (E := fun _ _ _ => False) ⟨hr, rfl⟩ e0 (vs := [.ref a]) (us := [.ref a]) (hbind s₁ (.ref a)) (Paired.cons (show RelV (.ref a) (.ref a) from rfl) .nil) (hsp H hO hS)
    refine codeAny_mono run fun r s2 h2 => ?_
    match r, h2 with
    | .error e, h2 => exact h2.elim
    | .ok .next, h2 => exact h2.elim
    | .ok .brk, h2 => exact h2.elim
    | .ok .cont, h2 => exact h2.elim
    | .ok (.ret u), ⟨v, H2, os, bare, un, ok2, r2, q2⟩ =>
      obtain rfl : v = .bl true := q2
      obtain rfl : u = Value.bool true := r2
      refine ⟨rfl, OldK.of_keep fun b o e => ?_, os, bare⟩
      cases q : H b with
      | none => exact un.keep b o e q (List.not_mem_nil) (List.not_mem_nil)
      | some u =>
        obtain ⟨ob, xs, z⟩ := (hO b).resolve_left (by rw [q]; exact fun y => nomatch y)
        have e1 : s₁.heap.get? b = some ob := (hok b _ z).1
        have e2 : s2.heap.get? b = some ob := (ok2 b _ (un.frzs b ob _ z)).1
        rw [e] at e1
        rw [Option.some.inj e1]; exact e2
  by_cases hk : K.lookup a = none
  · refine key (fun b => if b = a then some (.frz { cls := .type "list", data := .seq vs.toArray } (.lst (ns.map V.int))) else none) (fun b => ?_) (.inl (.inr ⟨_, if_pos rfl⟩)) (fun b u z => ?_) (fun b u z => ?_) fun _ _ => hk
    · by_cases e : b = a
      · exact .inr ⟨_, _, if_pos e⟩
      · exact .inl (if_neg e)
    · by_cases e : b = a
      · subst e
        obtain rfl := Option.some.inj ((if_pos rfl).symm.trans z)
        exact ⟨ha, (by rw [List.length_map]; exact hl), vs, _, rv, ha⟩
      · exact nomatch (if_neg e).symm.trans z
    · by_cases e : b = a
      · exact e
      · exact nomatch (if_neg e).symm.trans z
  · obtain ⟨o, ho⟩ := Option.ne_none_iff_exists'.mp hk
    have e := KX a o ho
    rw [ha] at e
    obtain rfl := Option.some.inj e
    have lv : vs.length = ns.length := hi.length
    refine key (fun _ => none) (fun _ => .inl rfl) (.inr ⟨_, vs.toArray, _, ho, rfl, rfl, rfl, (by rw [List.size_toArray, lv]; exact hl), (by simpa using rv)⟩) (fun _ _ z => nomatch z) (fun _ _ z => nomatch z) fun _ z => nomatch z
end
theorem walk_ofG {l : PySem.W.OpenLaw} {n k : Nat} {q : Program} {loose : List Str} {XP : (Str → Option Value) → Heap → Prop} {YP : World → Heap → Prop} {d : DefRec} {K : Params → PySem.W.Frag} {sp : World → Sp} {x : Str}
    (hn : l.most = some n) (hn2 : n ≤ sizeLine) (hdf : d.params.defaults = []) (hr : Room k callerA) (hY : ∀ (w : World) (h : Heap), YP w h → (K w.params).In h)
    (F : ∀ (w : World) (mg : Str → Option Value) (fa : Addr) (h : Heap), (K w.params).In h → h.Ns mainGlobals mg → mg d.name = some (.ref fa) →
      ∃ fd : FuncData, (∀ (s : Shared) (u : Value), BindsTo s fd ⟨[u], []⟩ [(x, u)]) ∧ ∀ base : Heap, (K w.params).In base → base.Ns mainGlobals mg → FnG l.prog w (K w.params) mg base k fa fd [x] (sp w))
    (hsp : ∀ (w : World) (H : Hp) (a : Addr) (ns : List Int), ns.length ≤ n → Only H → SqL (K w.params) H a (ns.map V.int) → sp w [.ref a] H (fun v _ => v = .bl true) fun _ _ _ => False) :
    PySem.W.WalkO q loose XP YP l.row.toRowW d [] (fun f vs => PySem.call f vs) := by
  refine Att.attach_call hn hdf fun w _ _ mg mb fa _ _ _ _ a vs ns G Y _ _ _ hmg hobj hints hlen hg => ?_
  obtain ⟨fd, hb, hF⟩ := F w mg fa _ (hY w _ Y) G.T.g hmg
  exact law_callG (hY w _ Y) G.T.g G.T.b G.T.builtins G.T.nolimit hg hobj hints (Nat.le_trans hlen hn2) hr hF hb (fun H hO hS => hsp w H a ns hlen hO hS)
end EL
/-! Data of any of the laws' kinds at a value: also empty dicts; repr of it; == with a text; isinstance. -/
namespace EL
open PySem PySem.Spec PyProof.Rows L2
mutual
/-- v stands for the data d -/
inductive Dq (K : PySem.W.Frag) (H : Hp) : V → PyData → Prop
  | non : Dq K H .non .none
  | bl (b : Bool) : Dq K H (.bl b) (.bool b)
  | int (i : Int) : Dq K H (.int i) (.int i)
  | str (x : Str) : Dq K H (.str x) (.str x)
  | lst {a : Addr} {xs : List V} {ds : List PyData} : SqL K H a xs → DqAll K H xs ds → Dq K H (.ref a) (.list ds)
  | tup {a : Addr} {xs : List V} {ds : List PyData} : SqT K H a xs → DqAll K H xs ds → Dq K H (.ref a) (.tuple ds)
  | dic {a : Addr} : H a = some (.dK []) → Dq K H (.ref a) (.dict [])
inductive DqAll (K : PySem.W.Frag) (H : Hp) : List V → List PyData → Prop
  | nil : DqAll K H [] []
  | cons {v : V} {vs : List V} {d : PyData} {ds : List PyData} : Dq K H v d → DqAll K H vs ds → DqAll K H (v :: vs) (d :: ds)
end
mutual
/-- no list within -/
def noL : PyData → Bool
  | .none | .bool _ | .int _ | .str _ | .dict _ => true
  | .list _ => false
  | .tuple xs => noLs xs
def noLs : List PyData → Bool
  | [] => true
  | x :: xs => noL x && noLs xs
end
section
variable {K : PySem.W.Frag} {H H' : Hp}
mutual
theorem Dq.mono (e : Same H H') : ∀ (d : PyData) (v : V), Dq K H v d → Dq K H' v d
  | .none, _, h => by cases h; exact .non
  | .bool b, _, h => by cases h; exact .bl b
  | .int i, _, h => by cases h; exact .int i
  | .str x, _, h => by cases h; exact .str x
  | .list ds, _, h => by
    cases h with
    | lst hs ha => exact .lst (ex_l' e hs) (DqAll.mono e ds _ ha)
  | .tuple ds, _, h => by
    cases h with
    | tup hs ha => exact .tup (ex_t' e hs) (DqAll.mono e ds _ ha)
  | .dict _, _, h => by
    cases h with
    | dic hd => exact .dic (e _ _ hd)
theorem DqAll.mono (e : Same H H') : ∀ (ds : List PyData) (vs : List V), DqAll K H vs ds → DqAll K H' vs ds
  | [], _, h => by cases h; exact .nil
  | d :: ds, _, h => by
    cases h with
    | cons h1 h2 => exact .cons (Dq.mono e d _ h1) (DqAll.mono e ds _ h2)
end
theorem Dq.up {d : PyData} {v : V} (h : Dq K H v d) (e : Same H H') : Dq K H' v d := Dq.mono e d v h
theorem DqAll.up {ds : List PyData} {vs : List V} (h : DqAll K H vs ds) (e : Same H H') : DqAll K H' vs ds := DqAll.mono e ds vs h
theorem DqAll.len {ds : List PyData} : ∀ {vs : List V}, DqAll K H vs ds → vs.length = ds.length := by
  induction ds with
  | nil => intro vs h; cases h; rfl
  | cons d ds ih =>
    intro vs h
    cases h with
    | cons _ h2 => rw [List.length_cons, List.length_cons, ih h2]
theorem DqAll.at : ∀ {ds : List PyData} {vs : List V} {i : Nat} {v : V}, DqAll K H vs ds → vs[i]? = some v → ∃ d, ds[i]? = some d ∧ Dq K H v d
  | [], _, i, v, h, e => by cases h; simp at e
  | d :: ds, _, 0, v, h, e => by
    cases h with
    | cons h1 h2 =>
      rw [List.getElem?_cons_zero] at e
      obtain rfl := Option.some.inj e
      exact ⟨d, rfl, h1⟩
  | d :: ds, _, i + 1, v, h, e => by
    cases h with
    | cons h1 h2 => exact DqAll.at (i := i) h2 (by simpa using e)
theorem DqAll.app : ∀ {ds es : List PyData} {vs us : List V}, DqAll K H vs ds → DqAll K H us es → DqAll K H (vs ++ us) (ds ++ es)
  | [], _, _, _, h, h' => by cases h; exact h'
  | d :: ds, _, _, _, h, h' => by
    cases h with
    | cons h1 h2 => exact .cons h1 (DqAll.app h2 h')
theorem DqAll.tk : ∀ {ds : List PyData} {vs : List V} (n : Nat), DqAll K H vs ds → DqAll K H (vs.take n) (ds.take n)
  | _, _, 0, _ => .nil
  | [], _, n + 1, h => by cases h; exact .nil
  | d :: ds, _, n + 1, h => by
    cases h with
    | cons h1 h2 => exact .cons h1 (DqAll.tk n h2)
theorem DqAll.dp : ∀ {ds : List PyData} {vs : List V} (n : Nat), DqAll K H vs ds → DqAll K H (vs.drop n) (ds.drop n)
  | _, _, 0, h => h
  | [], _, n + 1, h => by cases h; exact .nil
  | d :: ds, _, n + 1, h => by
    cases h with
    | cons h1 h2 => exact DqAll.dp n h2
theorem DqAll.rv {ds : List PyData} {vs : List V} (h : DqAll K H vs ds) : DqAll K H vs.reverse ds.reverse := by
  induction ds generalizing vs with
  | nil => cases h; exact .nil
  | cons d ds ih =>
    cases h with
    | cons h1 h2 =>
      rw [List.reverse_cons, List.reverse_cons]
      exact (ih h2).app (.cons h1 .nil)
end
section
variable {X : Cx} {pins : List (Addr × Obj)} {σ : L2.St} {H : Hp} {s : Shared}
theorem not_sys {a : Addr} (I : Inv X pins σ H s) (h : H a = some (.dK [])) : a ≠ sysModules ∧ ∃ o n, s.heap.get? a = some o ∧ o.cls = .type "dict" ∧ o.data = .dict #[] n := by
  obtain ⟨_, h2, vs, kv, o, es, n, ho, hx, hd, _, hes, _⟩ := I.hok a _ h
  cases kv
  refine ⟨ne_of_beq_false h2, o, n, ho, hx.1, ?_⟩
  have e : es.toList = [] := by
    generalize es.toList = l at hes
    cases hes; rfl
  rw [hd]
  congr
  exact Array.toList_eq_nil_iff.mp e
mutual
theorem Dq.reads (I : Inv X pins σ H s) : ∀ (d : PyData) (v : V) (u : Value), Dq X.K H v d → RelV v u → ∃ as, Reads s.heap u d as ∧ (noL d = true → sysModules ∉ as)
  | .none, _, _, h, r => by cases h; cases r; exact ⟨_, Reads.none, fun _ => List.not_mem_nil⟩
  | .bool b, _, _, h, r => by cases h; cases r; exact ⟨_, Reads.bool b, fun _ => List.not_mem_nil⟩
  | .int i, _, _, h, r => by cases h; obtain ⟨t, rfl⟩ := r; exact ⟨_, Reads.int i t, fun _ => List.not_mem_nil⟩
  | .str x, _, _, h, r => by cases h; obtain ⟨t, rfl⟩ := r; exact ⟨_, Reads.str x t, fun _ => List.not_mem_nil⟩
  | .list ds, _, _, h, r => by
    cases h with
    | lst hs ha =>
      cases r
      obtain ⟨its, rv, ⟨o, n, ho, hc, _, hd⟩, _⟩ := I.list hs
      obtain ⟨as, hr, _⟩ := DqAll.reads I ds _ its ha rv
      exact ⟨_, Reads.list ho hc hd hr, fun z => by simp [noL] at z⟩
  | .tuple ds, _, _, h, r => by
    cases h with
    | tup hs ha =>
      cases r
      obtain ⟨its, rv, ⟨o, ho, hc, n, hd⟩, _⟩ := I.tuple hs
      obtain ⟨as, hr, hn⟩ := DqAll.reads I ds _ its ha rv
      exact ⟨_, Reads.tuple ho hc hd hr, fun z => hn (by simpa [noL] using z)⟩
  | .dict _, _, _, h, r => by
    cases h with
    | dic hd =>
      cases r
      obtain ⟨hne, o, n, ho, hc, hdd⟩ := not_sys I hd
      exact ⟨_, Reads.dict (kvs := []) ho hc hdd .nil .nil, fun _ => by simp [Ne.symm hne]⟩
theorem DqAll.reads (I : Inv X pins σ H s) : ∀ (ds : List PyData) (vs : List V) (us : List Value), DqAll X.K H vs ds → Vals vs us → ∃ as, ReadsAll s.heap us ds as ∧ (noLs ds = true → sysModules ∉ as)
  | [], _, _, h, r => by cases h; cases r; exact ⟨_, ReadsAll.nil, fun _ => List.not_mem_nil⟩
  | d :: ds, _, _, h, r => by
    cases h with
    | cons h1 h2 =>
      cases r with
      | cons r1 r2 =>
        obtain ⟨as, q1, n1⟩ := Dq.reads I d _ _ h1 r1
        obtain ⟨bs, q2, n2⟩ := DqAll.reads I ds _ _ h2 r2
        refine ⟨_, ReadsAll.cons q1 q2, fun z => ?_⟩
        obtain ⟨z1, z2⟩ : noL d = true ∧ noLs ds = true := by simpa [noLs] using z
        exact fun m => (List.mem_append.mp m).elim (n1 z1) (n2 z2)
end
/-- repr(x) of data -/
def rRepr (K : PySem.W.Frag) : List V → Hp → VK → Prop := fun xs H Q => ∃ x d, xs = [x] ∧ Dq K H x d ∧ d.showable = true ∧ (d.hasDict = false ∨ noL d = true) ∧ d.depth ≤ 100 ∧ d.shown.length ≤ sizeLine ∧ Q (.str d.shown) H
theorem call_repr {k : Nat} (hr : RoomG k X.A) : CallR X (.builtin "repr") (rRepr X.K) := by
  intro pins s σ H xs us Q I rv h
  obtain ⟨x, d, rfl, hd, hs, hn, hdp, hz, q⟩ := h
  obtain ⟨u, rfl, ru⟩ := vals1 rv
  obtain ⟨as, rd, hsys⟩ := Dq.reads I d x u hd ru
  have hu : X.A.units + (d.depth + 1) < cLine := by have := hr.r.un; omega
  have sm : d.hasDict = true → sysModules ∉ as := fun z => hn.elim (fun y => by rw [y] at z; cases z) hsys
  have fin : ∀ h' u' tk, (∀ b o, s.heap.get? b = some o → h'.get? b = some o) → EP X pins σ Q (.str d.shown u') { s with heap := h', toks := tk } := fun h' u' tk k => ⟨.str d.shown, H, I.kept k, ⟨u', rfl⟩, q⟩
  cases hd with
  | non =>
    cases ru
    refine P.repr_of_none ?_
    simpa [PyData.shown] using fin s.heap s.toks (s.toks + 1) fun _ _ e => e
  | bl b =>
    cases ru
    refine P.repr_of_bool ?_
    simpa [PyData.shown] using fin s.heap s.toks (s.toks + 1) fun _ _ e => e
  | int i =>
    obtain ⟨t, rfl⟩ := ru
    refine P.repr_of_int (by simpa [PyData.showable] using hs) ?_
    simpa [PyData.shown] using fin s.heap s.toks (s.toks + 1) fun _ _ e => e
  | str z =>
    obtain ⟨t, rfl⟩ := ru
    refine P.repr_of_str ?_ (by simpa only [PyData.shown] using hz)
    simpa [PyData.shown] using fin s.heap s.toks (s.toks + 1) fun _ _ e => e
  | lst _ _ => cases ru; exact repr_of_reads' rd hs sm hr.g hu (fun _ _ e => e) fin hz
  | tup _ _ => cases ru; exact repr_of_reads' rd hs sm hr.g hu (fun _ _ e => e) fin hz
  | dic _ => cases ru; exact repr_of_reads' rd hs sm hr.g hu (fun _ _ e => e) fin hz
end
end EL
namespace EL
open PySem PySem.Spec PyProof.Rows L2
/-! ### the built-in class of data -/
def tyN : PyData → String
  | .none => "NoneType" | .bool _ => "bool" | .int _ => "int" | .str _ => "str" | .list _ => "list" | .tuple _ => "tuple" | .dict _ => "dict"
def tyNs : List String := ["NoneType", "bool", "int", "str", "list", "tuple", "dict"]
theorem tyN_mem (d : PyData) : tyN d ∈ tyNs := by cases d <;> simp [tyN, tyNs]
theorem tyx_of {K : PySem.W.Frag} {H : Hp} {x : V} {d : PyData} (h : Dq K H x d) : TyX K H x (.type (tyN d)) := by
  cases h with
  | non => exact .base .non
  | bl b => exact .base (.bl b)
  | int i => exact .base (.int i)
  | str z => exact .base (.str z)
  | lst hs _ =>
    rcases hs with (e | ⟨o, e⟩) | ⟨o, its, n, e, c, _⟩
    · exact .base (.lst e)
    · exact .base (.frz e)
    · exact .kList e c
  | tup hs _ =>
    rcases hs with (e | ⟨o, e⟩) | ⟨o, its, n, e, c, _⟩
    · exact .base (.tup e)
    · exact .fTuple e
    · exact .kTuple e c
  | dic e => exact .base (.dK e)
theorem kitL_str : ∀ n ∈ tyNs, kitB n "str" = some (decide (n = "str")) := by decide +kernel
theorem kit_str (d : PyData) : kitB (tyN d) "str" = some (decide (tyN d = "str")) := kitL_str _ (tyN_mem d)
theorem kitL_tuple : ∀ n ∈ tyNs, kitB n "tuple" = some (decide (n = "tuple")) := by decide +kernel
theorem kit_tuple (d : PyData) : kitB (tyN d) "tuple" = some (decide (tyN d = "tuple")) := kitL_tuple _ (tyN_mem d)
theorem kitL_list : ∀ n ∈ tyNs, kitB n "list" = some (decide (n = "list")) := by decide +kernel
theorem kit_list (d : PyData) : kitB (tyN d) "list" = some (decide (tyN d = "list")) := kitL_list _ (tyN_mem d)
def isStr (d : PyData) : Bool := decide (tyN d = "str")
def isTup (d : PyData) : Bool := decide (tyN d = "tuple")
/-- isinstance(x, str) and isinstance(x, tuple) of data -/
theorem isi_str {K : PySem.W.Frag} {H : Hp} {x : V} {d : PyData} {Q : VK} (h : Dq K H x d) (q : Q (.bl (isStr d)) H) : rIsi K [x, .ty "str"] H Q := ⟨x, .ty "str", _, _, _, rfl, .ty "str", tyx_of h, kit_ty (kit_str d), q⟩
theorem isi_tup {K : PySem.W.Frag} {H : Hp} {x : V} {d : PyData} {Q : VK} (h : Dq K H x d) (q : Q (.bl (isTup d)) H) : rIsi K [x, .ty "tuple"] H Q := ⟨x, .ty "tuple", _, _, _, rfl, .ty "tuple", tyx_of h, kit_ty (kit_tuple d), q⟩
/-! ### x == text, x of any kind -/
section
variable {A : Around} {s : Shared}
theorem dict_declines (l : Addr) (es : Array DictEntry) (n : Nat) (dd : Option Addr) (sl : Array (Option Value)) (b : Str) (u : Tok) :
    Meets (Builtin.«dict.__eq__» ⟨[.ref l, .str b u], []⟩) (fun _ R s => s.heap.get? l = some { cls := .type "dict", dict := dd, data := .dict es n, slots := sl } ∧ R (.ok (.ret .notImplemented)) s) :=
  .of_wp fun prog w A R s h => by
    obtain ⟨hl, h⟩ := h
    have ty : s.TypeIs (.ref l) "dict" := ⟨_, hl, rfl⟩
    show wpAny _ _ (Builtin.Dict.dictSlotArgs "__eq__" ⟨[.ref l, .str b u], []⟩ >>= _) _ _ s
    refine wpAny_bind ?_
    unfold Builtin.Dict.dictSlotArgs
    refine wpAny_bind (wpAny_notOrdered_dict ty ?_)
    show wpAny _ _ (pure (Value.ref l, Value.str b u)) _ _ s
    refine wpAny_pure ?_
    refine wpAny_bind (wpAny_isInstance (T := "str") (typeIs_str s b u) PySem.F.sub_str_dict ?_)
    simp only [Bool.not_false, if_true]
    exact wpAny_bind (wpAny_rule (wpAny_pure ⟨_, rfl, h⟩))
theorem str_declines (l : Addr) (es : Array DictEntry) (n : Nat) (dd : Option Addr) (sl : Array (Option Value)) (b : Str) (u : Tok) :
    Meets (Builtin.«str.__eq__» ⟨[.str b u, .ref l], []⟩) (fun _ R s => s.heap.get? l = some { cls := .type "dict", dict := dd, data := .dict es n, slots := sl } ∧ R (.ok (.ret .notImplemented)) s) :=
  .of_wp fun prog w A R s h => by
    obtain ⟨hp, g, d, tk, os⟩ := s
    obtain ⟨hl, h⟩ := h
    have look := hl
    wp_walk using wpAny_loadPart' hl, wpAny_load hl
    exact ⟨_, rfl, h⟩
theorem dict_rc {l : Addr} {es : Array DictEntry} {n : Nat} (b : Str) (u : Tok) (hl : ∃ o, s.heap.get? l = some o ∧ o.cls = .type "dict" ∧ o.data = .dict es n) (hu : A.units < cLine) : SeqAt.RcAt A s (.ref l) (.str b u) false := fun prog w E Q h => by
  obtain ⟨⟨cls, dd, data, sl⟩, ho, hc, hd⟩ := hl
  obtain rfl : cls = .type "dict" := hc
  obtain rfl : data = .dict es n := hd
  exact SeqAt.rc_eq_decline_or (k := false) ⟨_, ho, rfl⟩ (typeIs_str s b u) (by decide) PySem.F.sub_str_dict PySem.F.slot_dict_eq PySem.F.slot_str_eq_refl
    (fun _ hq => call_meets PySem.F.slot_dict_eq ⟨_, ho, rfl⟩ PySem.F.entry_dict_eq (PySem.F.args_dict_eq_2 _ _) (dict_declines l es n dd sl b u) ⟨ho, hq⟩)
    (fun _ hq => call_meets PySem.F.slot_str_eq_refl (typeIs_str s b u) PySem.F.entry_str_eq (PySem.F.args_str_eq_2 _ _) (str_declines l es n dd sl b u) ⟨ho, hq⟩)
    (fun _ hq => wpAny_of_eq (rfl : isSame (.ref l) (.str b u) = pure false) hq) (.inr hu) h
end
/-- x == y, y a text, x data of any kind -/
def rEqS (K : PySem.W.Frag) : R2 := fun x y H Q => (∃ d, Dq K H x d) ∧ (∃ z, y = .str z) ∧ Q (.bl (decide (x = y))) H
theorem op_eqS {X : Cx} (hu : X.A.units + 64 < cLine) : OpR X (compareOp .Eq) (rEqS X.K) := by
  intro pins s σ H x y v u Q I rx ry h
  obtain ⟨⟨d, hd⟩, ⟨z, rfl⟩, q⟩ := h
  have hu0 : X.A.units < cLine := by omega
  by_cases hs : scal x (.str z) = true
  · exact op_eq pins s σ H x _ v u Q I rx ry ⟨hs, q⟩
  · obtain ⟨t, rfl⟩ := ry
    have no : ∀ a : Addr, x = .ref a → Q (.bl false) H := fun a e => by
      subst e
      have ne : decide (V.ref a = V.str z) = false := decide_eq_false fun q => nomatch q
      rw [ne] at q; exact q
    cases hd with
    | non => exact absurd rfl hs
    | bl b => exact absurd rfl hs
    | int i => exact absurd rfl hs
    | str w => exact absurd rfl hs
    | lst hq _ =>
      cases rx
      obtain ⟨its, _, ⟨o, n, ho, hc, _, hdd⟩, _⟩ := I.list hq
      exact SeqAt.RcAt.list_str z t ⟨o, ho, hc, n, hdd⟩ hu0 _ _ _ _ ⟨.bl false, H, I, rfl, no _ rfl⟩
    | tup hq _ =>
      cases rx
      obtain ⟨its, _, ⟨o, ho, hc, n, hdd⟩, _⟩ := I.tuple hq
      exact SeqAt.RcAt.tuple_str z t ⟨o, ho, hc, n, hdd⟩ hu0 _ _ _ _ ⟨.bl false, H, I, rfl, no _ rfl⟩
    | dic hq =>
      cases rx
      obtain ⟨_, o, n, ho, hc, hdd⟩ := not_sys I hq
      exact dict_rc z t ⟨o, ho, hc, hdd⟩ hu0 _ _ _ _ ⟨.bl false, H, I, rfl, no _ rfl⟩
/-! ### s.ljust(n, sign) -/
theorem mt_ljust3 {X : Cx} : MtR X "str.ljust" (fun x xs H Q => ∃ (a : Str) (i : Int) (f : Str), x = .str a ∧ xs = [.int i, .str f] ∧ PadOk i = true ∧ f.length = 1 ∧ Q (.str (Txt.ljustF a i (f.cps.getD 0 0))) H) := by
  intro pins s σ H x xs v us Q I rx rs h
  obtain ⟨a, i, f, rfl, rfl, hp, hf, q⟩ := h
  obtain ⟨t, rfl⟩ := rx
  cases rs with
  | cons r1 rs =>
    cases rs with
    | cons r2 rs =>
      cases rs
      obtain ⟨u1, rfl⟩ := r1
      obtain ⟨u2, rfl⟩ := r2
      exact PyProof.Rows.ljust_fill hp hf fun t1 k => ⟨.str (Txt.ljustF a i (f.cps.getD 0 0)), H, I.tok k, ⟨t1, rfl⟩, q⟩
end EL
/-! tuple(zip(a, b)) of two texts of one length: each pair handed out stays in hand. -/
namespace EL
open PySem PySem.Spec PyProof.Rows L2
section
variable {prog : Program} {w : World} {A : Around} {E : Value → Shared → Prop} {s : Shared} {z TI TO T i1 i2 : Addr} {fp1 fp2 : List Addr} {n1 n2 i : Nat} {P1 P2 : Nat → Value → Prop} {St1 St2 : Nat → Heap → Prop} {f : Bool} {oT : Obj}
theorem held_item {Q : Value → Shared → Prop} (S : ZipSep2 z TI TO i1 i2 fp1 fp2) (D1 : Draws prog w A i1 fp1 n1 P1 St1) (D2 : Draws prog w A i2 fp2 n2 P2 St2)
    (hz : IsZipHeld s.heap z TI TO T f) (hT : s.heap.get? T = some oT) (hTI : IsTupOf2 s.heap TI (.ref i1) (.ref i2)) (st1 : St1 i s.heap) (st2 : St2 i s.heap) (lt1 : i < n1) (lt2 : i < n2)
    (hQ : ∀ x1 x2 h' tk, P1 i x1 → P2 i x2 → IsZipHeld h' z TI TO T true → St1 (i + 1) h' → St2 (i + 1) h' → IsTupOf2 h' s.heap.objs.size x1 x2 → h'.objs.size = s.heap.objs.size + 1 →
      (∀ c o, c ≠ z → c ≠ i1 → c ≠ i2 → s.heap.get? c = some o → h'.get? c = some o) → Q (.ref s.heap.objs.size) { s with heap := h', toks := tk }) :
    wpAny (model prog w) A (Builtin.«zip.__next__» ⟨[.ref z], []⟩) (fun fin s' => ∃ v, fin = .done (.ret v) ∧ Q v s') E s := by
  obtain ⟨hp, g, d, tk0, os⟩ := s
  show wpAny _ _ (field (.ref z) 2 >>= _) _ _ _
  refine wpAny_bind (wpAny_field hz rfl (x := .bool false) rfl ?_)
  show wpAny _ _ (field (.ref z) 3 >>= _) _ _ _
  refine wpAny_bind (wpAny_field hz rfl (x := .ref TI) rfl ?_)
  refine wpAny_bind (wpAny_seqItems hTI rfl ?_)
  show wpAny _ _ (Builtin.SmallTypes.ownedTupleIsFree (.ref z) >>= _) _ _ _
  refine wpAny_bind (wpAny_tupleHeld_zip hz hT fun g1 z1 e1 => ?_)
  replace e1 : Heap.SameBut z hp g1 := e1
  simp only [Bool.false_eq_true, if_false]
  refine wpAny_bind ?_
  rw [← Array.forIn_toList]
  simp only [List.forIn_cons, List.forIn_nil]
  refine wpAny_bind (wpAny_bind (wpAny_holding ?_))
  show wpAny _ _ (Builtin.SmallTypes.nextOf (.ref i1) >>= _) _ _ ⟨g1, g, d, tk0, os⟩
  refine wpAny_bind (D1.item i _ _ _ lt1 (D1.over st1 e1 S.zf1) fun x1 g2 tk1 p1 s1 e2 => wpAny_pure ?_)
  replace e2 : Heap.SameBut i1 g1 g2 := e2
  refine wpAny_pure ?_
  refine wpAny_bind (wpAny_bind (wpAny_holding ?_))
  show wpAny _ _ (Builtin.SmallTypes.nextOf (.ref i2) >>= _) _ _ ⟨g2, g, d, tk1, os⟩
  refine wpAny_bind (D2.item i _ _ _ lt2 (D2.over (D2.over st2 e1 S.zf2) e2 S.sep1_2) fun x2 g3 tk2 p2 s2 e3 => wpAny_pure ?_)
  replace e3 : Heap.SameBut i2 g2 g3 := e3
  refine wpAny_pure (wpAny_pure ?_)
  show wpAny _ _ (newTuple [x1, x2] >>= _) _ _ _
  refine wpAny_bind (wpAny_newTuple ?_)
  have sz : g3.objs.size = hp.objs.size := by rw [e3.1, e2.1, e1.1]
  have z3 : IsZipHeld g3 z TI TO T true := e3.extBut _ _ S.zi2 (e2.extBut _ _ S.zi1 z1)
  have kp : ∀ c o, c ≠ z → c ≠ i1 → c ≠ i2 → hp.get? c = some o → g3.get? c = some o := fun c o c0 c1 c2 e => e3.extBut _ _ c2 (e2.extBut _ _ c1 (e1.extBut _ _ c0 e))
  have t1 : St1 (i + 1) g3 := D1.over s1 e3 S.sep2_1
  refine wpAny_pure ⟨_, rfl, ?_⟩
  show Q (.ref g3.objs.size) ⟨g3.push { cls := .type "tuple", data := .seq #[x1, x2] }, g, d, tk2, os⟩
  have hp1 : IsTupOf2 (g3.push { cls := .type "tuple", data := .seq #[x1, x2] }) g3.objs.size x1 x2 := Heap.get?_push_size _ rfl
  have hp2 : (g3.push { cls := .type "tuple", data := .seq #[x1, x2] }).objs.size = g3.objs.size + 1 := Heap.size_push ..
  rw [sz] at hp1 hp2 ⊢
  exact hQ x1 x2 _ tk2 p1 p2 (Heap.get?_push_of_some _ z3) (D1.frame _ _ _ t1 fun b _ o e => Heap.get?_push_of_some _ e) (D2.frame _ _ _ s2 fun b _ o e => Heap.get?_push_of_some _ e) hp1 hp2 fun c o c0 c1 c2 e => Heap.get?_push_of_some _ (kp c o c0 c1 c2 e)
/-- both have come to their ends -/
theorem held_end {Q : Fin → Shared → Prop} (S : ZipSep2 z TI TO i1 i2 fp1 fp2) (D1 : Draws prog w A i1 fp1 n1 P1 St1)
    (hz : IsZipHeld s.heap z TI TO T f) (hT : s.heap.get? T = some oT) (hTI : IsTupOf2 s.heap TI (.ref i1) (.ref i2)) (st1 : St1 n1 s.heap)
    (hE : ∀ h' e, (∀ c o, c ≠ z → c ≠ i1 → c ≠ i2 → s.heap.get? c = some o → h'.get? c = some o) → (∃ o, h'.get? e = some o ∧ o.cls = .type "StopIteration") → E (.ref e) { s with heap := h' }) :
    wpAny (model prog w) A (Builtin.«zip.__next__» ⟨[.ref z], []⟩) Q E s := by
  obtain ⟨hp, g, d, tk0, os⟩ := s
  show wpAny _ _ (field (.ref z) 2 >>= _) _ _ _
  refine wpAny_bind (wpAny_field hz rfl (x := .bool false) rfl ?_)
  show wpAny _ _ (field (.ref z) 3 >>= _) _ _ _
  refine wpAny_bind (wpAny_field hz rfl (x := .ref TI) rfl ?_)
  refine wpAny_bind (wpAny_seqItems hTI rfl ?_)
  show wpAny _ _ (Builtin.SmallTypes.ownedTupleIsFree (.ref z) >>= _) _ _ _
  refine wpAny_bind (wpAny_tupleHeld_zip hz hT fun g1 z1 e1 => ?_)
  replace e1 : Heap.SameBut z hp g1 := e1
  simp only [Bool.false_eq_true, if_false]
  refine wpAny_bind ?_
  rw [← Array.forIn_toList]
  simp only [List.forIn_cons, List.forIn_nil]
  refine wpAny_bind (wpAny_bind (wpAny_holding ?_))
  show wpAny _ _ (Builtin.SmallTypes.nextOf (.ref i1) >>= _) _ _ ⟨g1, g, d, tk0, os⟩
  refine wpAny_bind (D1.done ⟨g1, g, d, tk0, os⟩ _ _ (D1.over st1 e1 S.zf1) fun g2 e e2 he => ?_)
  replace e2 : Heap.ExtBut i1 g1 g2 := e2
  exact hE g2 e (fun c o c0 c1 _ x => e2 _ _ c1 (e1.extBut _ _ c0 x)) he
end
section
variable {prog : Program} {w : World} {A : Around} {E : Value → Shared → Prop} {s : Shared} {z TI TO T i1 i2 : Addr} {fp1 fp2 : List Addr} {n1 n2 i : Nat} {P1 P2 : Nat → Value → Prop} {St1 St2 : Nat → Heap → Prop} {f : Bool} {oT : Obj}
theorem next_held {Q : Option Value → Shared → Prop} (S : ZipSep2 z TI TO i1 i2 fp1 fp2) (D1 : Draws prog w A.in1 i1 fp1 n1 P1 St1) (D2 : Draws prog w A.in1 i2 fp2 n2 P2 St2)
    (hz : IsZipHeld s.heap z TI TO T f) (hT : s.heap.get? T = some oT) (hTI : IsTupOf2 s.heap TI (.ref i1) (.ref i2)) (st1 : St1 i s.heap) (st2 : St2 i s.heap) (lt1 : i < n1) (lt2 : i < n2)
    (hQ : ∀ x1 x2 h' tk, P1 i x1 → P2 i x2 → IsZipHeld h' z TI TO T true → St1 (i + 1) h' → St2 (i + 1) h' → IsTupOf2 h' s.heap.objs.size x1 x2 → h'.objs.size = s.heap.objs.size + 1 →
      (∀ c o, c ≠ z → c ≠ i1 → c ≠ i2 → s.heap.get? c = some o → h'.get? c = some o) → Q (some (.ref s.heap.objs.size)) { s with heap := h', toks := tk }) :
    wpAny (model prog w) A (pyNext (.ref z)) Q E s := by
  have ty : s.TypeIs (.ref z) "zip" := ⟨_, hz, rfl⟩
  unfold pyNext
  exact wpAny_bind (wpAny_attempt (wpAny_callSpecial?_slot (name := Str.ofString "__next__") ty PySem.F.slot_zip_next
    (wpAny_call_entry PySem.F.slot_zip_next ty PySem.F.entry_zip_next
      (held_item S D1 D2 hz hT hTI st1 st2 lt1 lt2 fun x1 x2 h' tk a b c d e f g k => wpAny_pure (hQ x1 x2 h' tk a b c d e f g k)) (PySem.F.args_zip_next_1 _))))
theorem next_held_end {Q : Option Value → Shared → Prop} (S : ZipSep2 z TI TO i1 i2 fp1 fp2) (D1 : Draws prog w A.in1 i1 fp1 n1 P1 St1)
    (hz : IsZipHeld s.heap z TI TO T f) (hT : s.heap.get? T = some oT) (hTI : IsTupOf2 s.heap TI (.ref i1) (.ref i2)) (st1 : St1 n1 s.heap)
    (hQ : ∀ h', (∀ c o, c ≠ z → c ≠ i1 → c ≠ i2 → s.heap.get? c = some o → h'.get? c = some o) → Q none { s with heap := h' }) : wpAny (model prog w) A (pyNext (.ref z)) Q E s := by
  have ty : s.TypeIs (.ref z) "zip" := ⟨_, hz, rfl⟩
  unfold pyNext
  refine wpAny_bind (wpAny_attempt (wpAny_callSpecial?_slot (name := Str.ofString "__next__") ty PySem.F.slot_zip_next
    (wpAny_call_entry PySem.F.slot_zip_next ty PySem.F.entry_zip_next (held_end S D1 hz hT hTI st1 fun h' e hk he => ?_) (PySem.F.args_zip_next_1 _))))
  obtain ⟨o, ho, hc⟩ := he
  refine wpAny_bind (wpAny_isInstance (T := "StopIteration") (b := true) ⟨o, ho, hc⟩ isSubtype_stop ?_)
  exact wpAny_pure (hQ _ hk)
end
end EL
namespace EL
open PySem PySem.Spec PyProof.Rows L2
/-- the items so far: pairs of signs, each a tuple of its own -/
def PairsAt (a b : Str) (acc : Array Value) (no : List Addr) (lo : Nat) (h : Heap) : Prop :=
  ∀ (j : Nat) (v : Value), acc[j]? = some v → ∃ (T : Addr) (c1 c2 : Nat) (t1 t2 : Tok), v = Value.ref T ∧ T ∉ no ∧ lo ≤ T ∧ IsTupOf2 h T (.str ⟨#[c1]⟩ t1) (.str ⟨#[c2]⟩ t2) ∧ a.cps[j]? = some c1 ∧ b.cps[j]? = some c2
theorem PairsAt.keep {a b : Str} {acc : Array Value} {no : List Addr} {lo : Nat} {h h' : Heap} (x : PairsAt a b acc no lo h) (k : ∀ c o, c ∉ no → h.get? c = some o → h'.get? c = some o) : PairsAt a b acc no lo h' := fun j v e => by
  obtain ⟨T, c1, c2, t1, t2, e1, e2, e0, e3, e4⟩ := x j v e
  exact ⟨T, c1, c2, t1, t2, e1, e2, e0, k T _ e2 e3, e4⟩
/-- the zip, its cells, the list that is filled -/
structure ZS (z TI TO i1 i2 S : Addr) (a b : Str) (ta tb : Tok) (h0 : Heap) (i : Nat) (acc : Array Value) (h : Heap) : Prop where
  zip : (i = 0 ∧ IsZip h z TI TO .none) ∨ ∃ T f oT, IsZipHeld h z TI TO T f ∧ h.get? T = some oT ∧ T ∉ [z, TO, i1, i2, S]
  ti : IsTupOf2 h TI (.ref i1) (.ref i2)
  tot : ∃ a1 a2, IsTupOf2 h TO a1 a2
  s1 : h.IsStrIter i1 (strIterType a) a ta i
  s2 : h.IsStrIter i2 (strIterType b) b tb i
  lst : ∃ c, h.get? S = some { cls := .type "list", dict := none, data := .seq acc c, slots := #[] }
  size : acc.size = i
  its : PairsAt a b acc [z, TO, i1, i2, S] h0.objs.size h
  old : ∀ c o, h0.get? c = some o → h.get? c = some o
section
variable {prog : Program} {w : World} {A : Around} {z TI TO i1 i2 S : Addr} {a b : Str} {ta tb : Tok} {h0 : Heap}
theorem zs_step {i : Nat} {acc : Array Value} {h h' : Heap} {T T0 : Addr} {c1 c2 : Nat} {t1 t2 : Tok} {f : Bool} (Z : ZS z TI TO i1 i2 S a b ta tb h0 i acc h) (sep : ZipSep2 z TI TO i1 i2 [i1] [i2]) (hS : S ∉ [z, TI, TO, i1, i2]) (hn : ∀ c ∈ [z, TI, TO, i1, i2, S], h0.objs.size ≤ c) (hT : h.objs.size ≤ T)
    (hz : IsZipHeld h' z TI TO T0 f) (hT0 : T0 = T ∨ (∃ o, h.get? T0 = some o) ∧ T0 ∉ [z, TO, i1, i2, S]) (tot : ∃ a1 a2, IsTupOf2 h' TO a1 a2) (n1 : h'.IsStrIter i1 (strIterType a) a ta (i + 1)) (n2 : h'.IsStrIter i2 (strIterType b) b tb (i + 1)) (nt : IsTupOf2 h' T (.str ⟨#[c1]⟩ t1) (.str ⟨#[c2]⟩ t2))
    (e1 : a.cps[i]? = some c1) (e2 : b.cps[i]? = some c2) (k : ∀ c o, c ≠ z → c ≠ TO → c ≠ i1 → c ≠ i2 → h.get? c = some o → h'.get? c = some o) :
    (∃ c, h'.get? S = some { cls := .type "list", dict := none, data := .seq acc c, slots := #[] }) ∧ ∀ h'' : Heap, (∃ c, h''.get? S = some { cls := .type "list", dict := none, data := .seq (acc.push (.ref T)) c, slots := #[] }) →
      (∀ c o, c ≠ S → h'.get? c = some o → h''.get? c = some o) → ZS z TI TO i1 i2 S a b ta tb h0 (i + 1) (acc.push (.ref T)) h'' := by
  simp only [List.mem_cons, List.not_mem_nil, or_false, not_or] at hS
  obtain ⟨hS1, hS2, hS3, hS4, hS5⟩ := hS
  obtain ⟨cS, lS⟩ := Z.lst
  have lt : ∀ {c o}, h.get? c = some o → T ≠ c := fun e q => by subst q; exact absurd (Heap.lt_size e) (Nat.not_lt.mpr hT)
  obtain ⟨o1, ho1, _⟩ := Z.s1
  obtain ⟨o2, ho2, _⟩ := Z.s2
  obtain ⟨y1, y2, hto⟩ := Z.tot
  have zin : ∃ o, h.get? z = some o := by
    rcases Z.zip with ⟨_, q⟩ | ⟨_, _, _, q, _⟩ <;> exact ⟨_, q⟩
  obtain ⟨oz, hoz⟩ := zin
  have Tn : T ∉ [z, TO, i1, i2, S] := by
    simp only [List.mem_cons, List.not_mem_nil, or_false, not_or]
    exact ⟨lt hoz, lt hto, lt ho1, lt ho2, lt lS⟩
  have TS : T ≠ S := lt lS
  refine ⟨⟨cS, k S _ hS1 hS3 hS4 hS5 lS⟩, fun h'' l'' k'' => ?_⟩
  have kk : ∀ c o, c ∉ [z, TO, i1, i2, S] → h.get? c = some o → h''.get? c = some o := fun c o hc e => by
    simp only [List.mem_cons, List.not_mem_nil, or_false, not_or] at hc
    exact k'' c o hc.2.2.2.2 (k c o hc.1 hc.2.1 hc.2.2.1 hc.2.2.2.1 e)
  have held : ∃ T f oT, IsZipHeld h'' z TI TO T f ∧ h''.get? T = some oT ∧ T ∉ [z, TO, i1, i2, S] := by
    rcases hT0 with e | ⟨⟨o, e⟩, m⟩
    · subst e
      exact ⟨T0, f, _, k'' z _ (Ne.symm hS1) hz, k'' T0 _ TS nt, Tn⟩
    · exact ⟨T0, f, _, k'' z _ (Ne.symm hS1) hz, kk T0 o m e, m⟩
  refine ⟨.inr held, k'' TI _ (Ne.symm hS2) (k TI _ sep.TIz sep.TITO sep.TIi1 sep.TIi2 Z.ti), ?_, ?_, ?_, l'', ?_, ?_, fun c o e => ?_⟩
  · obtain ⟨a1, a2, q⟩ := tot
    exact ⟨a1, a2, k'' TO _ (Ne.symm hS3) q⟩
  · obtain ⟨o, q, r⟩ := n1
    exact ⟨o, k'' i1 _ (Ne.symm hS4) q, r⟩
  · obtain ⟨o, q, r⟩ := n2
    exact ⟨o, k'' i2 _ (Ne.symm hS5) q, r⟩
  · rw [Array.size_push, Z.size]
  · intro j v e
    rw [Array.getElem?_push] at e
    split at e
    · rename_i q
      rw [Z.size] at q
      obtain rfl := Option.some.inj e
      subst q
      exact ⟨T, c1, c2, t1, t2, rfl, Tn, Nat.le_trans (Nat.le_trans (hn z List.mem_cons_self) (Nat.le_of_lt (Heap.lt_size hoz))) hT, k'' T _ TS nt, e1, e2⟩
    · exact (Z.its.keep kk) j v e
  · refine kk c o (fun m => ?_) (Z.old c o e)
    have q := hn c (by simp only [List.mem_cons, List.not_mem_nil, or_false] at m ⊢; rcases m with m | m | m | m | m <;> simp [m])
    exact absurd (Heap.lt_size e) (Nat.not_lt.mpr q)
theorem zip_loop {R : Result → Shared → Prop} {n : Nat} {res : Value} (hh : A.handled = none) (ha : a.cps.size = n) (hb : b.cps.size = n) (hn : n < sizeLine) (sep : ZipSep2 z TI TO i1 i2 [i1] [i2]) (hS : S ∉ [z, TI, TO, i1, i2]) (hn0 : ∀ c ∈ [z, TI, TO, i1, i2, S], h0.objs.size ≤ c) :
    ∀ (k i : Nat) (s : Shared) (acc : Array Value), n - i = k → i ≤ n → ZS z TI TO i1 i2 S a b ta tb h0 i acc s.heap →
      (∀ acc' h' tk, acc'.size = n → PairsAt a b acc' [z, TO, i1, i2, S] h0.objs.size h' → (∃ c, h'.get? S = some { cls := .type "list", dict := none, data := .seq acc' c, slots := #[] }) → (∀ c o, h0.get? c = some o → h'.get? c = some o) → R (.ok (.ret res)) { s with heap := h', toks := tk }) →
      codeAny (model prog w) A (.builtin "list.extend.loop" ⟨[.ref S, .ref z, res], []⟩) R s := by
  have D1 : Draws prog w A.in1.in1 i1 [i1] a.cps.size _ _ := Draws.text (A := A.in1.in1) hh i1 a ta
  have D2 : Draws prog w A.in1.in1 i2 [i2] b.cps.size _ _ := Draws.text (A := A.in1.in1) hh i2 b tb
  rw [ha] at D1
  rw [hb] at D2
  have hS' := hS
  simp only [List.mem_cons, List.not_mem_nil, or_false, not_or] at hS'
  obtain ⟨hS1, hS2, hS3, hS4, hS5⟩ := hS'
  intro k
  induction k with
  | zero =>
    intro i s acc hk hi Z hR
    have hin : i = n := by omega
    subst hin
    refine codeAny_builtin PySem.F.entry_extend_loop ?_
    rw [Around.under_plainId PySem.F.plain_extend_loop _]
    show wpAny _ A.in1 (pyNext (.ref z) >>= _) _ _ s
    have fin : ∀ h' tk, (∀ c o, c ≠ z → c ≠ TO → c ≠ i1 → c ≠ i2 → s.heap.get? c = some o → h'.get? c = some o) → R (.ok (.ret res)) { s with heap := h', toks := tk } := fun h' tk kp => by
      have kk : ∀ c o, c ∉ [z, TO, i1, i2, S] → s.heap.get? c = some o → h'.get? c = some o := fun c o hc e => by
        simp only [List.mem_cons, List.not_mem_nil, or_false, not_or] at hc
        exact kp c o hc.1 hc.2.1 hc.2.2.1 hc.2.2.2.1 e
      obtain ⟨cS, lS⟩ := Z.lst
      refine hR acc h' tk Z.size (Z.its.keep kk) ⟨cS, kp S _ hS1 hS3 hS4 hS5 lS⟩ fun c o e => kk c o (fun m => ?_) (Z.old c o e)
      have q := hn0 c (by simp only [List.mem_cons, List.not_mem_nil, or_false] at m ⊢; rcases m with m | m | m | m | m <;> simp [m])
      exact absurd (Heap.lt_size e) (Nat.not_lt.mpr q)
    rcases Z.zip with ⟨_, hz⟩ | ⟨T, f, oT, hz, hT, hTn⟩
    · obtain ⟨y1, y2, hto⟩ := Z.tot
      exact wpAny_bind (wpAny_pyNext_zipD2_end sep D1 D2 hz Z.ti hto Z.s1 Z.s2 (Nat.le_refl _) (Nat.le_refl _) (.inl rfl) fun h' tk kp => wpAny_pure (fin h' tk kp))
    · exact wpAny_bind (next_held_end sep D1 hz hT Z.ti Z.s1 fun h' kp => wpAny_pure (fin h' s.toks fun c o c0 _ c1 c2 e => kp c o c0 c1 c2 e))
  | succ k ih =>
    intro i s acc hk hi Z hR
    have hlt : i < n := by omega
    refine codeAny_builtin PySem.F.entry_extend_loop ?_
    rw [Around.under_plainId PySem.F.plain_extend_loop _]
    show wpAny _ A.in1 (pyNext (.ref z) >>= _) _ _ s
    have step : ∀ x1 x2 h' tk f T0, (T0 = s.heap.objs.size ∨ (∃ o, s.heap.get? T0 = some o) ∧ T0 ∉ [z, TO, i1, i2, S]) → (∃ c u, a.cps[i]? = some c ∧ x1 = .str ⟨#[c]⟩ u) → (∃ c u, b.cps[i]? = some c ∧ x2 = .str ⟨#[c]⟩ u) → IsZipHeld h' z TI TO T0 f → (∃ a1 a2, IsTupOf2 h' TO a1 a2) →
        h'.IsStrIter i1 (strIterType a) a ta (i + 1) → h'.IsStrIter i2 (strIterType b) b tb (i + 1) → IsTupOf2 h' s.heap.objs.size x1 x2 → (∀ c o, c ≠ z → c ≠ TO → c ≠ i1 → c ≠ i2 → s.heap.get? c = some o → h'.get? c = some o) →
        wpAny (model prog w) A.in1 (updateSeq S (·.push (.ref s.heap.objs.size)) >>= fun _ => again (.builtin "list.extend.loop" ⟨[.ref S, .ref z, res], []⟩)) (fun fin s' => match fin with | .done f => R (.ok f) s' | .again c' => c'.quiet = true ∧ codeAny (model prog w) A c' R s') (fun e s' => R (.error e) s') { s with heap := h', toks := tk } := by
      rintro x1 x2 h' tk f T0 hT0 ⟨c1, t1, e1, rfl⟩ ⟨c2, t2, e2, rfl⟩ hz tot n1 n2 nt kp
      obtain ⟨⟨cS, lS⟩, next⟩ := zs_step Z sep hS hn0 (Nat.le_refl _) hz hT0 tot n1 n2 nt e1 e2 kp
      refine wpAny_bind (wpAny_updateSeq (s := { s with heap := h', toks := tk }) lS rfl (wpAny_pure ⟨plainId_quiet PySem.F.plain_extend_loop _, ?_⟩) (by rw [Z.size]; omega) (by show (acc.push _).size ≤ sizeLine + 1; rw [Array.size_push, Z.size]; omega))
      refine ih (i + 1) _ (acc.push (.ref s.heap.objs.size)) (by omega) hlt (next _ ⟨_, Heap.get?_update_self _ lS rfl⟩ fun c o hc e => (Heap.get?_update_other _ _ (Ne.symm hc)).trans e) fun acc' h2 tk2 y1 y2 y3 y4 => hR acc' h2 tk2 y1 y2 y3 y4
    rcases Z.zip with ⟨_, hz⟩ | ⟨T, f, oT, hz, hT, hTn⟩
    · obtain ⟨y1, y2, hto⟩ := Z.tot
      exact wpAny_bind (wpAny_pyNext_zipD2_item sep D1 D2 hz Z.ti hto Z.s1 Z.s2 hlt hlt fun x1 x2 h' tk p1 p2 q1 q2 q3 q4 q5 _ kp => step x1 x2 h' tk false _ (.inl rfl) p1 p2 q1 ⟨_, _, q2⟩ q3 q4 q5 kp)
    · obtain ⟨y1, y2, hto⟩ := Z.tot
      have zTO := sep.TOz
      exact wpAny_bind (next_held sep D1 D2 hz hT Z.ti Z.s1 Z.s2 hlt hlt fun x1 x2 h' tk p1 p2 q1 q3 q4 q5 _ kp => step x1 x2 h' tk true T (.inr ⟨⟨_, hT⟩, hTn⟩) p1 p2 q1 ⟨_, _, kp TO _ sep.TOz sep.Ti1 sep.Ti2 hto⟩ q3 q4 q5 fun c o c0 _ c1 c2 e => kp c o c0 c1 c2 e)
end
end EL
namespace EL
open PySem PySem.Spec PyProof.Rows L2
theorem zip_len_none : typeLookup (.type "zip") "__len__" = pure none := by rw [typeLookup_type, builtinLookup_eq_fast]; kernel_rfl
theorem zip_hint_none : typeLookup (.type "zip") "__length_hint__" = pure none := by rw [typeLookup_type, builtinLookup_eq_fast]; kernel_rfl
/-- a zip of two texts that was just made over h0 -/
structure ZNew (z TI TO i1 i2 : Addr) (a b : Str) (ta tb : Tok) (h0 h : Heap) : Prop where
  zip : IsZip h z TI TO .none
  ti : IsTupOf2 h TI (.ref i1) (.ref i2)
  tot : IsTupOf2 h TO .none .none
  s1 : h.IsStrIter i1 (strIterType a) a ta 0
  s2 : h.IsStrIter i2 (strIterType b) b tb 0
  old : ∀ c o, h0.get? c = some o → h.get? c = some o
  new : ∀ c ∈ [z, TI, TO, i1, i2], h0.objs.size ≤ c
  le : h0.objs.size ≤ h.objs.size
section
variable {prog : Program} {w : World} {A : Around} {E : Value → Shared → Prop} {s : Shared} {z TI TO i1 i2 : Addr} {a b : Str} {ta tb : Tok} {h0 : Heap} {n : Nat}
theorem collect_zip {Q : List Value → Shared → Prop} (hh : A.handled = none) (ha : a.cps.size = n) (hb : b.cps.size = n) (hn : n < sizeLine) (sep : ZipSep2 z TI TO i1 i2 [i1] [i2]) (Z : ZNew z TI TO i1 i2 a b ta tb h0 s.heap)
    (hQ : ∀ (h' : Heap) (tk : Nat) (acc : Array Value), acc.size = n → (∃ no, PairsAt a b acc no h0.objs.size h') → (∀ c o, h0.get? c = some o → h'.get? c = some o) → h0.objs.size ≤ h'.objs.size → Q acc.toList { s with heap := h', toks := tk }) :
    wpAny (model prog w) A (collect (.ref z)) Q E s := by
  obtain ⟨o1, ho1, r1⟩ := Z.s1
  obtain ⟨o2, ho2, r2⟩ := Z.s2
  have nS : ∀ {c o}, s.heap.get? c = some o → s.heap.objs.size ≠ c := fun e => Nat.ne_of_gt (Heap.lt_size e)
  have hSz := nS Z.zip
  have hSm : s.heap.objs.size ∉ [z, TI, TO, i1, i2] := by
    simp only [List.mem_cons, List.not_mem_nil, or_false, not_or]
    exact ⟨nS Z.zip, nS Z.ti, nS Z.tot, nS ho1, nS ho2⟩
  unfold collect
  refine wpAny_bind (wpAny_runValue (codeAny_builtin PySem.F.entry_proto_collect ?_))
  rw [Around.under_plainId PySem.F.plain_proto_collect _]
  show wpAny _ A.in1 (newList [] >>= fun l => again (.builtin "list.__iadd__" ⟨[l, .ref z], []⟩)) _ _ s
  refine wpAny_bind (wpAny_newObj_type ?_)
  refine wpAny_pure ⟨plainId_quiet PySem.F.plain_list_iadd _, codeAny_builtin PySem.F.entry_list_iadd ?_⟩
  rw [Around.under_plainId PySem.F.plain_list_iadd _]
  generalize hG : s.heap.push { cls := .type "list", data := .seq ([] : List Value).toArray } = G
  have up : ∀ c o, s.heap.get? c = some o → G.get? c = some o := fun c o e => by rw [← hG]; exact Heap.get?_push_of_some _ e
  have lS : G.get? s.heap.objs.size = some { cls := .type "list", data := .seq ([] : List Value).toArray } := by rw [← hG]; exact Heap.get?_push_size _ rfl
  have ty : ({ s with heap := G } : Shared).TypeIs (.ref z) "zip" := ⟨_, up _ _ Z.zip, rfl⟩
  show wpAny _ A.in1 (Builtin.List.listExtendWith (.ref s.heap.objs.size) (.ref z) (.ref s.heap.objs.size)) _ _ _
  unfold Builtin.List.listExtendWith
  refine wpAny_bind (wpAny_typeOf ty ?_)
  have c1 : Builtin.List.listSameRef (.ref s.heap.objs.size) (.ref z) = false := by simp [Builtin.List.listSameRef, hSz]
  have c2 : (Value.type "zip" == Value.type "list") = false := by decide
  have c3 : (Value.type "zip" == Value.type "tuple") = false := by decide
  simp only [c1, c2, c3, Bool.or_false, Bool.false_eq_true, if_false]
  refine wpAny_bind (wpAny_pyIter_zip (s := { s with heap := G }) (up _ _ Z.zip) ?_)
  refine wpAny_bind (wpAny_holding ?_)
  unfold Builtin.List.listLengthHint
  refine wpAny_bind (wpAny_specialOf ty zip_len_none ?_)
  show wpAny _ A.in1 (specialOf (Value.ref z) (Str.ofString "__length_hint__") >>= _) _ _ _
  refine wpAny_bind (wpAny_specialOf ty zip_hint_none ?_)
  refine wpAny_pure ?_
  show wpAny _ A.in1 (rule "list.extend.makes-room" >>= fun _ => Builtin.List.listTouch (.ref s.heap.objs.size) >>= fun _ =>
    again (.builtin "list.extend.loop" ⟨[.ref s.heap.objs.size, .ref z, .ref s.heap.objs.size], []⟩)) _ _ _
  refine wpAny_bind (wpAny_rule (wpAny_bind ?_))
  show wpAny _ A.in1 (updateSeq s.heap.objs.size (·.push .none) >>= fun _ => updateSeq s.heap.objs.size (·.pop)) _ _ _
  refine wpAny_bind (wpAny_updateSeq lS rfl ?_)
  have l2 := Heap.get?_update_self (Obj.mapSeq (·.push Value.none)) lS rfl
  refine wpAny_updateSeq l2 rfl ?_
  have l3 := Heap.get?_update_self (Obj.mapSeq (·.pop)) l2 rfl
  generalize hK : (G.update s.heap.objs.size (Obj.mapSeq (·.push Value.none))).update s.heap.objs.size (Obj.mapSeq (·.pop)) = L at l3
  have oth : ∀ c o, s.heap.get? c = some o → L.get? c = some o := fun c o e => by
    rw [← hK]
    exact (Heap.get?_update_other _ _ (nS e)).trans ((Heap.get?_update_other _ _ (nS e)).trans (up c o e))
  have zs : ZS z TI TO i1 i2 s.heap.objs.size a b ta tb h0 0 #[] L := ⟨.inl ⟨rfl, oth _ _ Z.zip⟩, oth _ _ Z.ti, ⟨_, _, oth _ _ Z.tot⟩, ⟨o1, oth _ _ ho1, r1⟩, ⟨o2, oth _ _ ho2, r2⟩, ⟨_, l3⟩, rfl, fun j v e => by simp at e, fun c o e => oth c o (Z.old c o e)⟩
  refine wpAny_pure ⟨plainId_quiet PySem.F.plain_extend_loop _, zip_loop hh ha hb hn sep hSm (fun c m => ?_) n 0 _ #[] rfl (Nat.zero_le _) zs fun acc h' tk y1 y2 y3 y4 => ?_⟩
  · simp only [List.mem_cons, List.not_mem_nil, or_false] at m
    rcases m with m | m | m | m | m | m
    · exact Z.new c (by simp [m])
    · exact Z.new c (by simp [m])
    · exact Z.new c (by simp [m])
    · exact Z.new c (by simp [m])
    · exact Z.new c (by simp [m])
    · rw [m]; exact Z.le
  · obtain ⟨cS, y3⟩ := y3
    show wpAny _ A (load s.heap.objs.size >>= _) _ _ _
    refine wpAny_bind (wpAny_load y3 ?_)
    exact wpAny_pure (hQ h' tk acc y1 ⟨_, y2⟩ y4 (Nat.le_trans Z.le (Nat.le_of_lt (Heap.lt_size y3))))
theorem tuple_new_zip {Q₁ : Value → Shared → Prop} (hh : A.handled = none) (ha : a.cps.size = n) (hb : b.cps.size = n) (hn : n < sizeLine) (sep : ZipSep2 z TI TO i1 i2 [i1] [i2]) (Z : ZNew z TI TO i1 i2 a b ta tb h0 s.heap)
    (h : ∀ (h' : Heap) (tk : Nat) (acc : Array Value), acc.size = n → (∃ no, PairsAt a b acc no h0.objs.size h') → (∀ c o, h0.get? c = some o → h'.get? c = some o) → h0.objs.size ≤ h'.objs.size →
      Q₁ (.ref h'.objs.size) { s with heap := h'.push { cls := .type "tuple", data := .seq acc }, toks := tk }) :
    codeAny (model prog w) A (.call (.builtin "tuple.__new__") ⟨[.type "tuple", .ref z], []⟩) (wants Q₁ E) s := by
  refine codeAny_of_tree ?_
  show wpAny _ A.in1 (do checkBuiltinCall "tuple.__new__" ⟨[.type "tuple", .ref z], []⟩; again (.builtin "tuple.__new__" ⟨[.type "tuple", .ref z], []⟩)) _ _ s
  refine wpAny_bind (wpAny_of_eq (PySem.F.newCall_tuple_1 _) (wpAny_pure ⟨plainId_quiet PySem.F.plain_tuple_new _, codeAny_builtin PySem.F.entry_tuple_new ?_⟩))
  rw [Around.under_plainId PySem.F.plain_tuple_new _]
  have f1 := sub_tuple_self
  have f2 := init_tuple_lookup
  have f3 := madeHere_tuple
  have ty : s.TypeIs (.ref z) "zip" := ⟨_, Z.zip, rfl⟩
  have hh1 : A.in1.handled = none := hh
  wp_walk using wpAny_typeOf ty, collect_zip (A := A.in1) hh1 ha hb hn sep Z
  intro h' tk acc y1 y2 y3 y4
  show wpAny _ _ (Builtin.Tuple.tupleExact acc.toList.toArray >>= fun v => ret v) _ _ _
  unfold Builtin.Tuple.tupleExact
  refine wpAny_bind (wpAny_newObj_type ?_ (by show acc.toList.toArray.size ≤ sizeLine; simp only [Array.toArray_toList]; rw [y1]; omega))
  refine wpAny_pure ?_
  have e : acc.toList.toArray = acc := by simp
  rw [e]
  exact h h' tk acc y1 y2 y3 y4
theorem call_tuple_zip {Q : Value → Shared → Prop} (hh : A.handled = none) (ha : a.cps.size = n) (hb : b.cps.size = n) (hn : n < sizeLine) (sep : ZipSep2 z TI TO i1 i2 [i1] [i2]) (Z : ZNew z TI TO i1 i2 a b ta tb h0 s.heap)
    (hQ : ∀ (h' : Heap) (tk : Nat) (acc : Array Value), acc.size = n → (∃ no, PairsAt a b acc no h0.objs.size h') → (∀ c o, h0.get? c = some o → h'.get? c = some o) → h0.objs.size ≤ h'.objs.size →
      Q (.ref h'.objs.size) { s with heap := h'.push { cls := .type "tuple", data := .seq acc }, toks := tk }) :
    wpAny (model prog w) A (call (.type "tuple") [.ref z]) Q E s := by
  refine callType_codes (Q₁ := fun obj s₁ => s₁.TypeIs obj "tuple" ∧ Q obj s₁) PySem.F.called_tuple (PySem.F.typeCall_tuple_1 _) PySem.F.entry_object_init
    (tuple_new_zip (A := A.in1) hh ha hb hn sep Z fun h' tk acc y1 y2 y3 y4 => ⟨⟨_, Heap.get?_push_size _ rfl, rfl⟩, hQ h' tk acc y1 y2 y3 y4⟩) fun obj s₁ h₁ => ?_
  exact ⟨h₁.1, PySem.F.args_object_init_2 obj _, object_init_meets PySem.F.called_tuple.init.lookup PySem.F.called_tuple.made (by decide) prog w A.in1 _ s₁ ⟨h₁.1, rfl, h₁.2⟩⟩
end

/-! ### the rule -/
open Classical in
/-- what is tracked of a new pair of signs -/
noncomputable def pairHO (h : Heap) (c : Addr) : Option HO :=
  if x : ∃ q : Nat × Nat × Tok × Tok, IsTupOf2 h c (.str ⟨#[q.1]⟩ q.2.2.1) (.str ⟨#[q.2.1]⟩ q.2.2.2) then some (.tup [.str ⟨#[(Classical.choose x).1]⟩, .str ⟨#[(Classical.choose x).2.1]⟩]) else none
theorem pairHO_at {h : Heap} {c : Addr} {c1 c2 : Nat} {t1 t2 : Tok} (e : IsTupOf2 h c (.str ⟨#[c1]⟩ t1) (.str ⟨#[c2]⟩ t2)) : pairHO h c = some (.tup [.str ⟨#[c1]⟩, .str ⟨#[c2]⟩]) := by
  have x : ∃ q : Nat × Nat × Tok × Tok, IsTupOf2 h c (.str ⟨#[q.1]⟩ q.2.2.1) (.str ⟨#[q.2.1]⟩ q.2.2.2) := ⟨(c1, c2, t1, t2), e⟩
  have sp := Classical.choose_spec x
  unfold pairHO
  rw [dif_pos x]
  generalize Classical.choose x = q at sp
  have e2 : some ({ cls := .type "tuple", data := .seq #[Value.str ⟨#[c1]⟩ t1, Value.str ⟨#[c2]⟩ t2] } : Obj) = some { cls := .type "tuple", data := .seq #[Value.str ⟨#[q.1]⟩ q.2.2.1, Value.str ⟨#[q.2.1]⟩ q.2.2.2] } := e.symm.trans sp
  simp only [Option.some.injEq, Obj.mk.injEq, Data.seq.injEq, Array.mk.injEq, List.cons.injEq, Value.str.injEq, Str.mk.injEq, and_true, true_and] at e2
  obtain ⟨⟨e3, _⟩, e4, _⟩ := e2
  rw [e3, e4]
theorem pairHO_ok {P : Program} {w : World} {H : Hp} {h : Heap} {c : Addr} {o : HO} (e : pairHO h c = some o) : ObjOk P w H h c o := by
  unfold pairHO at e
  split at e
  · rename_i x
    have sp := Classical.choose_spec x
    generalize Classical.choose x = q at sp e
    obtain rfl := Option.some.inj e
    exact ⟨len_sz (by show 2 ≤ 1000000; decide), [.str ⟨#[q.1]⟩ q.2.2.1, .str ⟨#[q.2.1]⟩ q.2.2.2], .cons ⟨_, rfl⟩ (.cons ⟨_, rfl⟩ .nil), ⟨_, sp, rfl, _, rfl⟩⟩
  · cases e
/-- the pairs of two texts, sign beside sign -/
def pairsD : List Nat → List Nat → List PyData
  | c :: r, d :: q => .tuple [.str ⟨#[c]⟩, .str ⟨#[d]⟩] :: pairsD r q
  | _, _ => []
theorem pairsD_get : ∀ (xs ys : List Nat) (i : Nat) (c d : Nat), xs[i]? = some c → ys[i]? = some d → (pairsD xs ys)[i]? = some (.tuple [.str ⟨#[c]⟩, .str ⟨#[d]⟩])
  | [], _, _, _, _, h, _ => by simp at h
  | _ :: _, [], _, _, _, _, h => by simp at h
  | x :: xs, y :: ys, 0, c, d, h1, h2 => by
    simp at h1 h2; subst h1 h2; rfl
  | x :: xs, y :: ys, i + 1, c, d, h1, h2 => pairsD_get xs ys i c d (by simpa using h1) (by simpa using h2)
theorem pairsD_len : ∀ xs ys : List Nat, xs.length = ys.length → (pairsD xs ys).length = xs.length
  | [], [], _ => rfl
  | [], _ :: _, h => by simp at h
  | _ :: _, [], h => by simp at h
  | x :: xs, y :: ys, h => by
    show (pairsD xs ys).length + 1 = xs.length + 1
    rw [pairsD_len xs ys (by simpa using h)]
theorem dqAll_of {K : PySem.W.Frag} {H : Hp} : ∀ {vs : List V} {ds : List PyData}, vs.length = ds.length → (∀ (i : Nat) (v : V) (d : PyData), vs[i]? = some v → ds[i]? = some d → Dq K H v d) → DqAll K H vs ds
  | [], [], _, _ => .nil
  | [], _ :: _, h, _ => by simp at h
  | _ :: _, [], h, _ => by simp at h
  | v :: vs, d :: ds, h, f => .cons (f 0 v d rfl rfl) (dqAll_of (by simpa using h) fun i v' d' h1 h2 => f (i + 1) v' d' (by simpa using h1) (by simpa using h2))
def tTZ (K : PySem.W.Frag) (ta tb : TE) : TE := fun σ H Q => ta σ H fun x H1 => tb σ H1 fun y H2 => ∃ a b : Str, x = .str a ∧ y = .str b ∧ a.cps.size = b.cps.size ∧ a.cps.size ≤ 1000000 ∧
  ∀ p H3, Same H2 H3 → Dq K H3 (.ref p) (.tuple (pairsD a.cps.toList b.cps.toList)) → Q (.ref p) H3
section
variable {X : Cx} {pins : List (Addr × Obj)} {σ : L2.St} {H : Hp} {s : Shared}
theorem track_pairs {a b : Str} {no : List Addr} {acc : Array Value} {h' : Heap} {tk : Nat} (I : Inv X pins σ H s) (hab : a.cps.size = b.cps.size) (hl : a.cps.size ≤ 1000000) (hacc : acc.size = a.cps.size) (pa : PairsAt a b acc no s.heap.objs.size h')
    (old : ∀ c o, s.heap.get? c = some o → h'.get? c = some o) (le : s.heap.objs.size ≤ h'.objs.size) :
    ∃ H3, Same H H3 ∧ Dq X.K H3 (.ref h'.objs.size) (.tuple (pairsD a.cps.toList b.cps.toList)) ∧ Inv X pins σ H3 { s with heap := h'.push { cls := .type "tuple", data := .seq acc }, toks := tk } := by
  generalize hG : h'.push { cls := .type "tuple", data := .seq acc } = G
  have up : ∀ c o, h'.get? c = some o → G.get? c = some o := fun c o e => by rw [← hG]; exact Heap.get?_push_of_some _ e
  have gp : G.get? h'.objs.size = some { cls := .type "tuple", data := .seq acc } := by rw [← hG]; exact Heap.get?_push_size _ rfl
  have old2 : ∀ c o, s.heap.get? c = some o → G.get? c = some o := fun c o e => up c o (old c o e)
  have lenA : acc.size = (pairsD a.cps.toList b.cps.toList).length := by
    rw [pairsD_len _ _ (by rw [Array.length_toList, Array.length_toList]; exact hab), Array.length_toList]; exact hacc
  obtain ⟨vs, hv⟩ : ∃ vs : List V, Vals vs acc.toList := by
    have key : ∀ l : List Value, (∀ v ∈ l, ∃ T, v = Value.ref T) → ∃ vs : List V, Vals vs l := by
      intro l
      induction l with
      | nil => exact fun _ => ⟨[], .nil⟩
      | cons v l ih =>
        intro f
        obtain ⟨T, e⟩ := f v List.mem_cons_self
        obtain ⟨vs, q⟩ := ih fun v hv => f v (List.mem_cons_of_mem _ hv)
        exact ⟨.ref T :: vs, .cons e q⟩
    refine key _ fun v hm => ?_
    obtain ⟨j, hj⟩ := List.mem_iff_getElem?.mp hm
    obtain ⟨T, _, _, _, _, e, _⟩ := pa j v (by rw [← Array.getElem?_toList]; exact hj)
    exact ⟨T, e⟩
  have lenV : vs.length = acc.size := by rw [hv.length, Array.length_toList]
  let H3 : Hp := fun c => if c < s.heap.objs.size then H c else if c = h'.objs.size then some (.tup vs) else pairHO h' c
  have lo : ∀ c, c < s.heap.objs.size → H3 c = H c := fun c q => if_pos q
  have hp : H3 h'.objs.size = some (.tup vs) := by
    show (if _ then _ else _) = _
    rw [if_neg (Nat.not_lt.mpr le), if_pos rfl]
  have hpair : ∀ T c1 c2 t1 t2, s.heap.objs.size ≤ T → IsTupOf2 h' T (.str ⟨#[c1]⟩ t1) (.str ⟨#[c2]⟩ t2) → H3 T = some (.tup [.str ⟨#[c1]⟩, .str ⟨#[c2]⟩]) := fun T c1 c2 t1 t2 q e => by
    show (if _ then _ else _) = _
    rw [if_neg (Nat.not_lt.mpr q), if_neg (Nat.ne_of_lt (Heap.lt_size e))]
    exact pairHO_at e
  have sm : Same H H3 := fun c o e => by rw [lo c (I.hok.lt e)]; exact e
  have ok : HOk X.prog X.w H3 G := by
    intro c o e
    by_cases q : c < s.heap.objs.size
    · rw [lo c q] at e
      exact (I.hok c o e).stay (fun d u _ hd => old2 d u hd) (fun d hd => sm _ _ hd) fun d xs hd => sm _ _ hd
    · by_cases q2 : c = h'.objs.size
      · subst q2
        rw [hp] at e
        obtain rfl := Option.some.inj e
        exact ⟨len_sz (by rw [lenV, hacc]; exact hl), acc.toList, hv, ⟨_, gp, rfl, _, by simp; rfl⟩⟩
      · have e' : pairHO h' c = some o := by
          have z : H3 c = pairHO h' c := by
            show (if _ then _ else _) = _
            rw [if_neg q, if_neg q2]
          rw [← z]; exact e
        exact (pairHO_ok (P := X.prog) (w := X.w) (H := fun _ => none) e').stay (fun d u hd z => up d u z) (fun d hd => nomatch hd) fun d xs hd => nomatch hd
  refine ⟨H3, sm, .tup (stOf hp) (dqAll_of (by rw [lenV]; exact lenA) fun i v d hvi hdi => ?_), I.un ?_ ok⟩
  · obtain ⟨u, hu, ru⟩ := hv.get hvi
    obtain ⟨T, c1, c2, t1, t2, e, _, q, e3, e4, e5⟩ := pa i u (by rw [← Array.getElem?_toList]; exact hu)
    subst e
    have ev : v = .ref T := by
      cases v <;> simp [L2.RelV] at ru
      rw [ru]
    subst ev
    have hd : d = .tuple [.str ⟨#[c1]⟩, .str ⟨#[c2]⟩] := by
      have z := pairsD_get a.cps.toList b.cps.toList i c1 c2 (by rw [Array.getElem?_toList]; exact e4) (by rw [Array.getElem?_toList]; exact e5)
      rw [hdi] at z; exact Option.some.inj z
    subst hd
    exact .tup (stOf (hpair T c1 c2 t1 t2 q e3)) (.cons (.str _) (.cons (.str _) .nil))
  · have lt : ∀ {c o}, s.heap.get? c = some o → c < s.heap.objs.size := fun e => Heap.lt_size e
    exact ⟨fun c o e _ _ _ => old2 c o e, fun c o e _ _ _ => ⟨o.slots, old2 c o e⟩, fun c o e n _ => by rw [lo c (lt e)]; exact n, fun c o e _ => ⟨o, old2 c o e⟩, fun c xs e => sm _ _ e, fun c o u e => sm _ _ e, fun c ps e => ⟨#[], by rw [sm _ _ e]; simp⟩⟩
end
/-- what tuple(zip(..)) asks of its two values -/
def tzQ (K : PySem.W.Frag) (Q : VK) : List V → Hp → Prop := fun vs H2 => match vs with
  | [x, y] => ∃ a b : Str, x = .str a ∧ y = .str b ∧ a.cps.size = b.cps.size ∧ a.cps.size ≤ 1000000 ∧ ∀ p H3, Same H2 H3 → Dq K H3 (.ref p) (.tuple (pairsD a.cps.toList b.cps.toList)) → Q (.ref p) H3
  | _ => False
theorem tzQ_of {K : PySem.W.Frag} {Q : VK} {vs : List V} {H2 : Hp} (h : tzQ K Q vs H2) : ∃ a b : Str, vs = [.str a, .str b] ∧ a.cps.size = b.cps.size ∧ a.cps.size ≤ 1000000 ∧ ∀ p H3, Same H2 H3 → Dq K H3 (.ref p) (.tuple (pairsD a.cps.toList b.cps.toList)) → Q (.ref p) H3 := by
  unfold tzQ at h
  split at h
  · obtain ⟨a, b, rfl, rfl, r⟩ := h
    exact ⟨a, b, rfl, r⟩
  · exact h.elim
section
variable {X : Cx} {e1 e2 : Expr} {ta tb : TE} {p1 p2 pos1 pos2 : Pos}
/-- tuple(zip(e1, e2)) of two texts of one length -/
theorem pe_tupzip (hc : X.calm = true) (nt : X.mg "tuple" = none) (nz : X.mg "zip" = none) (h1 : PE X e1 ta) (h2 : PE X e2 tb) (gt : Gl X "tuple" := by rfl) (gz : Gl X "zip" := by rfl)
    (he : starEach [e1, e2] X.env = (false, eval e1 X.env) :: starEach [e2] X.env := by rfl) (he2 : starEach [e2] X.env = (false, eval e2 X.env) :: starEach [] X.env := by rfl) (hpl : (backTo pos2 (starEach [e2] X.env)).any (·.1) = false := by rfl)
    (ho : starEach [(Expr.Call (.Name "zip" p2) [e1, e2] [] pos2)] X.env = (false, eval (.Call (.Name "zip" p2) [e1, e2] [] pos2) X.env) :: starEach [] X.env := by rfl) (hpo : (backTo pos1 (starEach [] X.env)).any (·.1) = false := by rfl) :
    PE X (.Call (.Name "tuple" p1) [.Call (.Name "zip" p2) [e1, e2] [] pos2] [] pos1) (tTZ X.K ta tb) := by
  refine ⟨fun pins s σ H Q I h => ?_⟩
  refine wpAny_Call_Name_kw (ld_blt I gt nt PyProof.Rows.boot_tuple ?_)
  refine PyProof.Rows.callWith_type1 ?_ ho hpo
  rw [ho]
  show wpAny _ _ (spliced ((false, _) :: backTo pos1 (starEach [] X.env))) _ _ s
  refine Calls.spliced_cons ?_
  refine wpAny_Call_Name_kw (ld_blt I gz nz PyProof.Rows.boot_zip ?_)
  refine PyProof.Rows.callWith_type1 (thn ((pa_cons h1 (pa_cons h2 pa_nil he2) he).run pos2 pins s σ H (tzQ X.K Q) I h) fun us s1 hh => ?_) he hpl
  obtain ⟨vs, H1, I1, r1, q1⟩ := hh
  obtain ⟨a, b, rfl, hab, hl, q⟩ := tzQ_of q1
  obtain ⟨ta1, tb1, rfl⟩ : ∃ t u, us = [.str a t, .str b u] := by
    cases r1 with
    | cons x1 r =>
      cases r with
      | cons x2 r =>
        cases r
        obtain ⟨t, rfl⟩ := x1
        obtain ⟨u, rfl⟩ := x2
        exact ⟨t, u, rfl⟩
  obtain ⟨hp, g, d, tk0, os⟩ := s1
  refine zip_begins2 (begins_text a ta1) (begins_text b tb1) trivial trivial fun h' z1 z2 z3 z4 z5 z6 z7 => ?_
  have sep : ZipSep2 (hp.objs.size + 4) (hp.objs.size + 2) (hp.objs.size + 3) hp.objs.size (hp.objs.size + 1) [hp.objs.size] [hp.objs.size + 1] := zip_sep2 (fun _ m => (List.not_mem_nil m).elim) fun _ m => (List.not_mem_nil m).elim
  have Z : ZNew (hp.objs.size + 4) (hp.objs.size + 2) (hp.objs.size + 3) hp.objs.size (hp.objs.size + 1) a b ta1 tb1 hp h' := ⟨z1, z2, z3, ⟨_, z4, rfl, rfl⟩, ⟨_, z5, rfl, rfl⟩, z7, fun c m => (by
    simp only [List.mem_cons, List.not_mem_nil, or_false] at m
    rcases m with m | m | m | m | m <;> rw [m] <;> first | exact Nat.le_refl _ | exact Nat.le_add_right _ _), (by rw [z6]; exact Nat.le_add_right _ _)⟩
  show wpAny _ _ (spliced (backTo pos1 (starEach [] X.env))) _ _ _
  refine Calls.spliced_nil ?_
  have hh : X.A.handled = none := I1.ok.hd hc
  refine call_tuple_zip (s := ⟨h', g, d, tk0, os⟩) (n := a.cps.size) hh rfl hab.symm (lt_sz hl) sep Z fun h2 tk acc y1 y2 y3 y4 => ?_
  obtain ⟨no, pa⟩ := y2
  obtain ⟨H3, sm, dq, J⟩ := track_pairs (tk := tk) I1 hab hl y1 pa y3 y4
  exact ⟨.ref h2.objs.size, H3, J, rfl, q _ H3 sm dq⟩
end
end EL
namespace EL
open PySem PySem.Spec PyProof.Rows L2
/-! ### f(k = v, ..): keywords alone -/
section
variable {X : Cx} {k : Nat} {x : Str} {ps ks : List Str} {sp : Sp} {E : XK} {kws : List Keyword} {tk : TA} {p pos : Pos} {g : List Value → List Value → List Value} {gV : List V → List V → List V}
theorem pe_calK0 (C : Cal X.prog X.w X.K X.mg X.base k x ps sp) (hr : Room k X.A) (hg : Gl X x) (kb : KBinds X.K C.fd ps ks g gV) (hx : Passes CX0 X E) (hkw : PK X kws tk)
    (hall : (backToKw pos (keywordEach kws X.env)).all (·.1.isSome) = true := by rfl) (hks : (backToKw pos (keywordEach kws X.env)).filterMap (·.1) = ks := by rfl) (hdb : (x == ("__debug__" : Str)) = false := by decide)
    (hpl : ((backTo pos (starEach [] X.env)).any (·.1) || (backToKw pos (keywordEach kws X.env)).any (·.1.isNone)) = false := by rfl) :
    PE X (.Call (.Name x p) [] kws pos) (fun σ H Q => tk σ H fun zs H2 => sp (gV [] zs) H2 Q E) := by
  refine ⟨fun pins s σ H Q I h => wpAny_Call_Name_kw (ld_glob I hg C.g ?_ hdb)⟩
  refine PySem.W.callWith_KW0 (h₀ := X.base) I.ok.mod.kin C.kp hall (thn (hkw.run pos pins s σ H _ I h) fun ws s1 hh => ?_) hpl
  obtain ⟨zs, H1, I1, rz, q⟩ := hh
  refine ⟨I1.kIn, ?_⟩
  rw [hks]
  exact run_fnk C.ok hr kb hx I1 Paired.nil rz q
end
/-! ### comprehensions: what the list holds, by the turns -/
/-- behind i turns: the list at D holds what turns gave (none: left out) -/
def LcP (D : Addr) (P : Nat → Hp → Prop) (R : Nat → Option V → Prop) (i : Nat) (H : Hp) : Prop :=
  ∃ ys : List (Option V), ys.length = i ∧ (∀ (j : Nat) (v : Option V), ys[j]? = some v → R j v) ∧ H D = some (.lst (ys.filterMap id)) ∧ P i H
theorem LcP.start {D : Addr} {P : Nat → Hp → Prop} {R : Nat → Option V → Prop} {H : Hp} (p : P 0 (upd H D (.lst []))) : LcP D P R 0 (upd H D (.lst [])) := ⟨[], rfl, fun j v e => by simp at e, upd_same, p⟩
theorem rows_snoc {R : Nat → Option V → Prop} {ys : List (Option V)} {v : Option V} (h : ∀ (j : Nat) (v : Option V), ys[j]? = some v → R j v) (r : R ys.length v) : ∀ (j : Nat) (u : Option V), (ys ++ [v])[j]? = some u → R j u := fun j u e => by
  rw [List.getElem?_append] at e
  split at e
  · exact h j u e
  · rename_i q
    have : j - ys.length = 0 := by
      cases z : j - ys.length with
      | zero => rfl
      | succ m => rw [z] at e; simp at e
    rw [this] at e
    have ej : j = ys.length := by omega
    subst ej
    simp at e
    exact e ▸ r
theorem lcp_some {D : Addr} {P : Nat → Hp → Prop} {R : Nat → Option V → Prop} {i : Nat} {ys : List (Option V)} {H : Hp} {y : V} (hl : ys.length = i) (h : ∀ (j : Nat) (v : Option V), ys[j]? = some v → R j v) (hD : H D = some (.lst (ys.filterMap id))) (hi : i < 1000000) (r : R i (some y))
    (p : P (i + 1) (upd H D (.lst (ys.filterMap id ++ [y])))) : ∃ acc, H D = some (.lst acc) ∧ acc.length < sizeLine ∧ LcP D P R (i + 1) (upd H D (.lst (acc ++ [y]))) := by
  subst hl
  refine ⟨_, hD, lt_sz (Nat.le_trans (List.length_filterMap_le _ _) (Nat.le_of_lt hi)), ys ++ [some y], by simp, rows_snoc h r, ?_, p⟩
  rw [upd_same, List.filterMap_append]; rfl
theorem lcp_none {D : Addr} {P : Nat → Hp → Prop} {R : Nat → Option V → Prop} {i : Nat} {ys : List (Option V)} {H : Hp} (hl : ys.length = i) (h : ∀ (j : Nat) (v : Option V), ys[j]? = some v → R j v) (hD : H D = some (.lst (ys.filterMap id))) (r : R i none) (p : P (i + 1) H) : LcP D P R (i + 1) H := by
  subst hl
  refine ⟨ys ++ [none], by simp, rows_snoc h r, ?_, p⟩
  rw [hD, List.filterMap_append]; simp
/-- the list of what is given by a function -/
theorem rows_fn {f : Nat → Option V} {n : Nat} : ∀ {ys : List (Option V)}, ys.length = n → (∀ (j : Nat) (v : Option V), ys[j]? = some v → v = f j) → ys = (List.range n).map f := by
  intro ys hl h
  refine List.ext_getElem? fun j => ?_
  rw [List.getElem?_map]
  by_cases q : j < n
  · obtain ⟨v, e⟩ : ∃ v, ys[j]? = some v := ⟨_, List.getElem?_eq_getElem (by omega)⟩
    rw [List.getElem?_range q, e, h j v e]; rfl
  · rw [List.getElem?_eq_none (by omega), List.getElem?_eq_none (by rw [List.length_range]; omega)]; rfl
/-- .. of an array's items by a function of theirs -/
theorem rows_map {α : Type} {f : α → Option V} {l : List α} {ys : List (Option V)} (hl : ys.length = l.length) (h : ∀ (j : Nat) (v : Option V), ys[j]? = some v → ∃ a, l[j]? = some a ∧ v = f a) : ys = l.map f := by
  refine List.ext_getElem? fun j => ?_
  rw [List.getElem?_map]
  by_cases q : j < ys.length
  · obtain ⟨v, e⟩ : ∃ v, ys[j]? = some v := ⟨_, List.getElem?_eq_getElem q⟩
    obtain ⟨a, e1, e2⟩ := h j v e
    rw [e, e1, e2]; rfl
  · rw [List.getElem?_eq_none (by omega), List.getElem?_eq_none (by omega)]; rfl
/-! ### signs and texts -/
def isLow (c : Nat) : Bool := decide (c ∈ (Str.ofString "abcdefghijklmnopqrstuvwxyz").cps.toList)
def isTextD : PyData → Bool
  | .str x => x.cps.toList.all isLow
  | _ => false
/-- sizes of data that may be looked at -/
def Sz (d : PyData) : Prop := d.bulk ≤ 500000
theorem str_len (x : Str) : x.length = x.cps.toList.length := by rw [Array.length_toList]; rfl
theorem str_ext {x y : Str} (h : x.cps.toList = y.cps.toList) : x = y := by
  obtain ⟨a⟩ := x
  obtain ⟨b⟩ := y
  have : a = b := by
    apply Array.ext'
    exact h
  rw [this]
theorem str_inj {x y : Str} : x = y ↔ x.cps.toList = y.cps.toList := ⟨fun e => by rw [e], str_ext⟩
/-- a built-in's name is as it was -/
abbrev StrAt (mg : Str → Option Value) (x y : Str) : Prop := ∃ t, mg x = some (.str y t)
section
variable {X : Cx} {x : Str} {pos : Pos}
theorem pe_tyN {n : String} (hm : X.mg x = none) (hv : bootBuiltins x = some (.type n)) (hg : Gl X x := by rfl) (hn : x ≠ "__name__" := by decide) (hd : (x == ("__debug__" : Str)) = false := by decide) : PE X (.Name x pos) (tC (.ty n)) :=
  pe_bltn (v := .ty n) hg hm hv (show Value.type n = Value.type n from rfl) hn hd
theorem pe_gstr {y : Str} (hm : StrAt X.mg x y) (hg : Gl X x := by rfl) (hd : (x == ("__debug__" : Str)) = false := by decide) : PE X (.Name x pos) (tC (.str y)) := by
  obtain ⟨t, e⟩ := hm
  exact pe_glob (v := .str y) hg e ⟨t, rfl⟩ hd
end
end EL
/-! x[::-1] of texts and of tuples. -/
namespace EL
open PySem PySem.Spec PyProof.Rows L2
section
variable {prog : Program} {w : World} {A : Around} {E : Value → Shared → Prop} {s : Shared}
theorem adjust_rev (n : Nat) : Builtin.Slice.sliceAdjust none none (-1) (n : Int) = ((n : Int) - 1, -1) := by
  simp [Builtin.Slice.sliceAdjust]
theorem places_rev (n : Nat) : Builtin.Slice.slicePlaces ((n : Int) - 1) (-1) (-1) = n := by
  unfold Builtin.Slice.slicePlaces
  rw [if_neg (by decide)]
  by_cases h : n = 0
  · subst h; rfl
  · rw [if_pos (by omega)]
    have e : ((n : Int) - 1 - -1 - 1) / (- -1) + 1 = n := by
      have : (- -1 : Int) = 1 := by decide
      rw [this, Int.ediv_one]; omega
    rw [e, Int.toNat_natCast]
theorem pick_rev (xs : Array Value) : ((List.range xs.size).filterMap fun (k : Nat) => xs[(((xs.size : Nat) : Int) - 1 + (k : Int) * (-1)).toNat]?).toArray = xs.toList.reverse.toArray := by
  have e := PySem.W.krv_all xs
  congr 1
  have e2 : (List.range xs.size).filterMap (fun (k : Nat) => xs[(((xs.size : Nat) : Int) - 1 + (k : Int) * (-1)).toNat]?) = ((List.range xs.size).map fun k => xs.size - 1 - k).filterMap (xs[·]?) := by
    rw [List.filterMap_map]
    have cg : ∀ (l : List Nat) (f g : Nat → Option Value), (∀ k ∈ l, f k = g k) → l.filterMap f = l.filterMap g := by
      intro l f g
      induction l with
      | nil => exact fun _ => rfl
      | cons a r ih =>
        intro h
        rw [List.filterMap_cons, List.filterMap_cons, h a List.mem_cons_self, ih fun k hk => h k (List.mem_cons_of_mem _ hk)]
    refine cg _ _ _ fun k hk => ?_
    have hk' := List.mem_range.mp hk
    show xs[(((xs.size : Nat) : Int) - 1 + (k : Int) * (-1)).toNat]? = xs[xs.size - 1 - k]?
    congr 1
    omega
  rw [e2, PySem.W.krv_range, List.filterMap_reverse, e]
theorem applied_rev {sl : Addr} {u : Tok} {n : Nat} {Q : Int × Int × Nat → Shared → Prop} (hs : s.heap.IsSliceOf sl .none .none (.int (-1) u)) (h : Q ((n : Int) - 1, -1, n) s) : wpAny (model prog w) A (Builtin.Slice.sliceApplied (.ref sl) (pure (n : Int))) Q E s := by
  obtain ⟨o, ho, hc, hd⟩ := id hs
  unfold Builtin.Slice.sliceApplied Builtin.Slice.sliceFields
  refine wpAny_bind (wpAny_bind (wpAny_field ho hd (x := .none) rfl (wpAny_bind (wpAny_field ho hd (x := .none) rfl (wpAny_bind (wpAny_field ho hd (x := .int (-1) u) rfl (wpAny_pure ?_)))))))
  refine wpAny_bind (HT.slicePart_ (IsPart.int (-1) u) ?_)
  show wpAny _ _ (if ((-1 : Int) == 0) = true then _ else _) _ _ s
  rw [if_neg (by decide)]
  refine wpAny_bind (HT.slicePart_ IsPart.none (wpAny_bind (HT.slicePart_ IsPart.none (wpAny_bind (wpAny_pure ?_)))))
  show wpAny _ _ (match Builtin.Slice.sliceAdjust none none (-1) (n : Int) with | (lo, hi) => pure (lo, (-1 : Int), Builtin.Slice.slicePlaces lo hi (-1))) _ _ s
  rw [adjust_rev]
  show wpAny _ _ (pure ((n : Int) - 1, (-1 : Int), Builtin.Slice.slicePlaces ((n : Int) - 1) (-1) (-1))) _ _ s
  rw [places_rev]
  exact wpAny_pure h
theorem item_tuple_rev {t sl : Addr} {items : Array Value} {u : Tok} {Q : Value → Shared → Prop} (ht : IsTup s.heap t items) (hs : s.heap.IsSliceOf sl .none .none (.int (-1) u)) (hz : items.size ≤ sizeLine)
    (h : Q (.ref s.heap.objs.size) { s with heap := s.heap.push { cls := .type "tuple", data := .seq items.toList.reverse.toArray } }) : wpAny (model prog w) A (getItem (.ref t) (.ref sl)) Q E s := by
  obtain ⟨o, ho, hc, hd⟩ := id hs
  have ty : s.TypeIs (.ref sl) "slice" := ⟨o, ho, hc⟩
  unfold getItem
  try with_reducible refine wpAny_holding ?_
  first | refine wpAny_bind (wpAny_pure ?_) | skip
  refine wpAny_bind (wpAny_sequenceKey ht.typeIs (by decide) ?_)
  refine wpAny_bind (wpAny_callSpecial?_slot (name := Str.ofString "__getitem__") ht.typeIs PyProof.Rows.slot_tuple_getitem
    (wpAny_call_entry PyProof.Rows.slot_tuple_getitem ht.typeIs PyProof.Rows.entry_tuple_getitem ?_ (PyProof.Rows.args_tuple_getitem _ _)))
  show wpAny _ _ (Builtin.Tuple.tupleItemsOf (.ref t) >>= _) _ _ s
  refine wpAny_bind (tupleItemsOf_ ht ?_)
  refine wpAny_bind (wpAny_typeOf ty ?_)
  rw [if_pos (by decide)]
  refine wpAny_bind (applied_rev hs ?_)
  show wpAny _ _ (if ((((items.size : Nat) : Int) - 1 == 0) && ((-1 : Int) == 1) && (items.size == items.size)) = true then _ else _) _ _ s
  rw [if_neg (by simp)]
  rw [pick_rev]
  refine wpAny_bind ?_
  unfold Builtin.Tuple.tupleExact
  refine wpAny_newObj_type ?_ (by show items.toList.reverse.toArray.size ≤ sizeLine; simpa using hz)
  first
    | exact wpAny_pure ⟨_, rfl, wpAny_pure h⟩
    | exact wpAny_pure ⟨_, rfl, h⟩
    | exact wpAny_bind (wpAny_pure (wpAny_pure ⟨_, rfl, wpAny_pure h⟩))
end
section
variable {X : Cx} {e : Expr} {te : TE} {k : Nat} {p1 p2 p3 pos : Pos}
def tRevT (K : PySem.W.Frag) (te : TE) : TE := fun σ H Q => te σ H fun x H1 => ∃ a xs, x = .ref a ∧ SqT K H1 a xs ∧ ∀ p, H1 p = none → Q (.ref p) (upd H1 p (.tup xs.reverse))
theorem pe_revT (he : PE X e te) : PE X (.Subscript e (.Slice none none (some (.UnaryOp .USub (.Constant (.int 1) k p1) p2)) p3) pos) (tRevT X.K te) := by
  refine ⟨fun pins s σ H Q I h => ?_⟩
  refine Subscript_ (thn (he.run pins s σ H _ I h) fun v s1 hh => ?_)
  obtain ⟨x, H1, I1, r1, a, xs, rfl, hx, q⟩ := hh
  cases r1
  refine wpAny_Slice (wpAny_pure (wpAny_pure ?_))
  have neg : PE X (.UnaryOp .USub (.Constant (.int 1) k p1) p2) (tUn (rU fun i => .int (-i)) (tC (.int 1))) := pe_un un_neg pe_int
  refine thn (neg.run pins s1 σ H1 (fun v H2 => v = .int (-1) ∧ H2 = H1) I1 ⟨1, rfl, rfl, rfl⟩) fun vs s2 hh => ?_
  obtain ⟨v2, H2, I2, r2, rfl, rfl⟩ := hh
  obtain ⟨u, rfl⟩ := r2
  have I5 : Inv X pins σ H2 { s2 with heap := s2.heap.push { cls := .type "slice", data := .fields #[.none, .none, .int (-1) u] } } := I2.kept (t' := s2.toks) fun b ob q => Heap.get?_push_of_some _ q
  obtain ⟨its, r, ht, hz⟩ := I5.tuple hx
  have hlen := r.length
  show wpAny (model X.prog X.w) X.A (subscriptTail e (.Slice none none (some (.UnaryOp .USub (.Constant (.int 1) k p1) p2)) p3) (.ref a) (.ref s2.heap.objs.size)) (EP X pins σ Q) X.xe { s2 with heap := s2.heap.push { cls := .type "slice", data := .fields #[.none, .none, .int (-1) u] } }
  refine tail_any (ops := [.ref a, .ref s2.heap.objs.size]) ht.typeIs PyProof.Rows.slot_tuple_getitem.lookup ?_ (by with_unfolding_all rfl)
  refine item_tuple_rev ht (Heap.IsSliceOf.new _ _ _ _) (by rw [List.size_toArray]; omega) ?_
  refine ⟨.ref _, _, I5.laid (t' := s2.toks) (o := .tup xs.reverse) (fun b ob q => Heap.get?_push_of_some _ q) (Nat.le_refl _) ?_, rfl, q _ (I5.hok.fresh (Nat.le_refl _))⟩
  exact ⟨by rw [List.length_reverse]; exact hz, _, r.reverse, IsTup.new _ _⟩
/-- a text read from behind -/
def revS (x : Str) : Str := ⟨x.cps.toList.reverse.toArray⟩
def tRevS (te : TE) : TE := fun σ H Q => te σ H fun x H1 => ∃ z : Str, x = .str z ∧ z.length ≤ 1000000 ∧ Q (.str (revS z)) H1
theorem pick_revS (x : Str) : (⟨((Builtin.Str.strSliceIndices none none (-1) x.length).filterMap (x.cps[·]?)).toArray⟩ : Str) = revS x := by
  have e : Builtin.Str.strSliceIndices none none (-1) x.length = sliceRange ((x.length : Int) - 1) (-1) (-1) := by
    simp [Builtin.Str.strSliceIndices]
  unfold revS
  rw [e, PySem.W.krv_sliceRange, PySem.W.krv_range, List.filterMap_reverse]
  have e2 : (List.range x.length).filterMap (x.cps[·]?) = x.cps.toList := by
    have key : ∀ (xs : Array Nat), (List.range xs.size).filterMap (xs[·]?) = xs.toList := fun xs => PySem.W.krv_all xs
    exact key x.cps
  rw [e2]
theorem pe_revS (he : PE X e te) : PE X (.Subscript e (.Slice none none (some (.UnaryOp .USub (.Constant (.int 1) k p1) p2)) p3) pos) (tRevS te) := by
  refine ⟨fun pins s σ H Q I h => ?_⟩
  refine Subscript_ (thn (he.run pins s σ H _ I h) fun v s1 hh => ?_)
  obtain ⟨x, H1, I1, r1, z, rfl, hz, q⟩ := hh
  obtain ⟨t, rfl⟩ := r1
  refine wpAny_Slice (wpAny_pure (wpAny_pure ?_))
  have neg : PE X (.UnaryOp .USub (.Constant (.int 1) k p1) p2) (tUn (rU fun i => .int (-i)) (tC (.int 1))) := pe_un un_neg pe_int
  refine thn (neg.run pins s1 σ H1 (fun v H2 => v = .int (-1) ∧ H2 = H1) I1 ⟨1, rfl, rfl, rfl⟩) fun vs s2 hh => ?_
  obtain ⟨v2, H2, I2, r2, rfl, rfl⟩ := hh
  obtain ⟨u, rfl⟩ := r2
  have I5 : Inv X pins σ H2 { s2 with heap := s2.heap.push { cls := .type "slice", data := .fields #[.none, .none, .int (-1) u] } } := I2.kept (t' := s2.toks) fun b ob q => Heap.get?_push_of_some _ q
  show wpAny (model X.prog X.w) X.A (subscriptTail e (.Slice none none (some (.UnaryOp .USub (.Constant (.int 1) k p1) p2)) p3) (.str z t) (.ref s2.heap.objs.size)) (EP X pins σ Q) X.xe { s2 with heap := s2.heap.push { cls := .type "slice", data := .fields #[.none, .none, .int (-1) u] } }
  refine tail_any (ops := [.ref s2.heap.objs.size, .str z t]) (typeIs_str _ _ _) PySem.F.slot_str_getitem.lookup ?_ (by with_unfolding_all rfl)
  refine wpAny_getItem_str_slice (l := none) (u := none) (st := some (-1, u)) ⟨_, Heap.get?_push_size _ rfl, rfl, rfl⟩ rfl ?_
  have em : sliceMade z t none none (some (-1, u)) = Made.str (revS z) := by
    rw [← pick_revS]; rfl
  rw [em]
  exact ⟨by show z.cps.toList.reverse.toArray.size ≤ sizeLine; rw [List.size_toArray, List.length_reverse]; exact Nat.le_trans hz (by decide), .str (revS z), H2, I5.tok _, ⟨_, rfl⟩, q⟩
end
/-! ### a list == [], a list != [] -/
section
variable {X : Cx}
def rEqN (K : PySem.W.Frag) : R2 := fun x y H Q => ∃ a b xs, x = .ref a ∧ y = .ref b ∧ SqL K H a xs ∧ SqL K H b [] ∧ Q (.bl (decide (xs = []))) H
def rNeN (K : PySem.W.Frag) : R2 := fun x y H Q => ∃ a b xs, x = .ref a ∧ y = .ref b ∧ SqL K H a xs ∧ SqL K H b [] ∧ Q (.bl (!decide (xs = []))) H
theorem op_eqN (hu : X.A.units < cLine) : OpR X (compareOp .Eq) (rEqN X.K) := by
  intro pins s σ H x y v u Q I rx ry h
  obtain ⟨a, b, xs, rfl, rfl, ha, hb, q⟩ := h
  cases rx
  cases ry
  obtain ⟨its, r1, ⟨o, n, ho, hc, _, hd⟩, _⟩ := I.list ha
  obtain ⟨its2, r2, ⟨o2, n2, ho2, hc2, _, hd2⟩, _⟩ := I.list hb
  cases r2
  cases r1 with
  | nil => exact SeqAt.RcAt.lists (e := fun _ => true) ⟨o, ho, hc, n, hd⟩ ⟨o2, ho2, hc2, n2, hd2⟩ rfl hu (fun j h1 _ => absurd h1 (by simp)) _ _ _ _ ⟨.bl _, H, I, rfl, q⟩
  | cons r rr => exact SeqAt.RcAt.lists_lengths ⟨o, ho, hc, n, hd⟩ ⟨o2, ho2, hc2, n2, hd2⟩ (by simp) hu _ _ _ _ ⟨.bl _, H, I, rfl, q⟩
theorem op_neN (hu : X.A.units < cLine) : OpR X (compareOp .NotEq) (rNeN X.K) := by
  intro pins s σ H x y v u Q I rx ry h
  obtain ⟨a, b, xs, rfl, rfl, ha, hb, q⟩ := h
  cases rx
  cases ry
  obtain ⟨its, r1, ⟨o, n, ho, hc, _, hd⟩, _⟩ := I.list ha
  obtain ⟨its2, r2, ⟨o2, n2, ho2, hc2, _, hd2⟩, _⟩ := I.list hb
  cases r2
  cases r1 with
  | nil => exact SeqAt.RcNeAt.lists (e := fun _ => true) ⟨o, ho, hc, n, hd⟩ ⟨o2, ho2, hc2, n2, hd2⟩ rfl hu (fun j h1 _ => absurd h1 (by simp)) _ _ _ _ ⟨.bl _, H, I, rfl, q⟩
  | cons r rr => exact SeqAt.RcNeAt.lists_lengths ⟨o, ho, hc, n, hd⟩ ⟨o2, ho2, hc2, n2, hd2⟩ (by simp) hu _ _ _ _ ⟨.bl _, H, I, rfl, q⟩
end
end EL
/-! Calls by keywords alone: one parameter, two parameters the other way round. -/
namespace EL
open PySem PySem.Spec PyProof.Rows L2
def kw1 {α : Type} : List α → List α → List α
  | [], [z] => [z]
  | _, _ => []
def kw2r {α : Type} : List α → List α → List α
  | [], [z, y] => [y, z]
  | _, _ => []
theorem kw1_rel {vs : List V} {us : List Value} {zs : List V} {ws : List Value} (h1 : Vals vs us) (h2 : Vals zs ws) : Vals (kw1 vs zs) (kw1 us ws) := by
  cases h1 with
  | cons _ _ => exact .nil
  | nil =>
    cases h2 with
    | nil => exact .nil
    | cons r rr =>
      cases rr with
      | nil => exact .cons r .nil
      | cons _ _ => exact .nil
theorem kw2r_rel {vs : List V} {us : List Value} {zs : List V} {ws : List Value} (h1 : Vals vs us) (h2 : Vals zs ws) : Vals (kw2r vs zs) (kw2r us ws) := by
  cases h1 with
  | cons _ _ => exact .nil
  | nil =>
    cases h2 with
    | nil => exact .nil
    | cons r rr =>
      cases rr with
      | nil => exact .nil
      | cons r2 rr2 =>
        cases rr2 with
        | nil => exact .cons r2 (.cons r .nil)
        | cons _ _ => exact .nil
theorem Fun.kw1 {K : PySem.W.Frag} {x qual : Str} {st : Stmt} {f : Addr} {fd : FuncData} {p : Str} (F : Fun K x qual st f fd)
    (h : ∀ (kV doc pm : Value) (an : Option Addr) (cdv ct : Value) (u : Value), bindArgs (PySem.W.fnOf x qual (defArgs st) (defBody st) (defScope st) .none kV doc pm an cdv ct) ⟨[], [(p, u)]⟩ = pure [(p, u)]) : KBinds K fd [p] [p] EL.kw1 EL.kw1 := by
  obtain ⟨oc, od, kV, doc, pm, an, cdv, ct, osl, rfl, lk, hcd⟩ := F.ex
  refine ⟨fun s us ws _ hl => ?_, kw1_rel⟩
  match us, ws, hl with
  | [], [u], _ => exact .of_eq (h kV doc pm an cdv ct u)
  | [], [], hl => exact absurd hl (by simp [EL.kw1])
  | [], _ :: _ :: _, hl => exact absurd hl (by simp [EL.kw1])
  | _ :: _, _, hl => exact absurd hl (by simp [EL.kw1])
theorem Fun.kw2r {K : PySem.W.Frag} {x qual : Str} {st : Stmt} {f : Addr} {fd : FuncData} {p q : Str} (F : Fun K x qual st f fd)
    (h : ∀ (kV doc pm : Value) (an : Option Addr) (cdv ct : Value) (u v : Value), bindArgs (PySem.W.fnOf x qual (defArgs st) (defBody st) (defScope st) .none kV doc pm an cdv ct) ⟨[], [(q, u), (p, v)]⟩ = pure [(p, v), (q, u)]) : KBinds K fd [p, q] [q, p] EL.kw2r EL.kw2r := by
  obtain ⟨oc, od, kV, doc, pm, an, cdv, ct, osl, rfl, lk, hcd⟩ := F.ex
  refine ⟨fun s us ws _ hl => ?_, kw2r_rel⟩
  match us, ws, hl with
  | [], [u, v], _ => exact .of_eq (h kV doc pm an cdv ct u v)
  | [], [], hl => exact absurd hl (by simp [EL.kw2r])
  | [], [_], hl => exact absurd hl (by simp [EL.kw2r])
  | [], _ :: _ :: _ :: _, hl => exact absurd hl (by simp [EL.kw2r])
  | _ :: _, _, hl => exact absurd hl (by simp [EL.kw2r])
end EL
namespace KP
open PySem PySem.Spec PyProof.Rows L2 EL
open Evl (pss_cut)
def topS (i : Nat) : Stmt := PySem.Challenge.pw_evenlead_k09_texts_that_are_none.main.body.getD i (.Pass ⟨0, 0, 0, 0⟩)
abbrev sIsText : Stmt := topS 7
theorem scIsText : FnScope ["thing", "letter"] ["thing"] (defScope sIsText) := ⟨rfl, rfl, rfl, by decide +kernel, rfl, by decide +kernel, by decide +kernel⟩
abbrev sIsInteger : Stmt := topS 12
theorem scIsInteger : FnScope ["thing"] ["thing"] (defScope sIsInteger) := ⟨rfl, rfl, rfl, by decide +kernel, rfl, by decide +kernel, by decide +kernel⟩
abbrev sIsSize : Stmt := topS 13
theorem scIsSize : FnScope ["thing"] ["thing"] (defScope sIsSize) := ⟨rfl, rfl, rfl, by decide +kernel, rfl, by decide +kernel, by decide +kernel⟩
abbrev sIsState : Stmt := topS 14
theorem scIsState : FnScope ["thing", "size"] ["thing", "size"] (defScope sIsState) := ⟨rfl, rfl, rfl, by decide +kernel, rfl, by decide +kernel, by decide +kernel⟩
abbrev sIsTupleOfStates : Stmt := topS 15
theorem scIsTupleOfStates : FnScope ["thing", "size", "low", "high", "part"] ["thing", "size"] (defScope sIsTupleOfStates) := ⟨rfl, rfl, rfl, by decide +kernel, rfl, by decide +kernel, by decide +kernel⟩
abbrev sIsMove : Stmt := topS 27
theorem scIsMove : FnScope ["thing", "size", "state", "left", "right", "further"] ["thing", "size"] (defScope sIsMove) := ⟨rfl, rfl, rfl, by decide +kernel, rfl, by decide +kernel, by decide +kernel⟩
abbrev sIsTupleOfMoves : Stmt := topS 28
theorem scIsTupleOfMoves : FnScope ["thing", "size", "part"] ["thing", "size"] (defScope sIsTupleOfMoves) := ⟨rfl, rfl, rfl, by decide +kernel, rfl, by decide +kernel, by decide +kernel⟩
abbrev rLenK (K : PySem.W.Frag) : List V → Hp → VK → Prop := fun xs H Q => ∃ x n, xs = [x] ∧ LenV K x H n ∧ Q (V.int (n : Nat)) H
/-- a look at data: True or False by a function of it -/
def spLook (K : PySem.W.Frag) (f : PyData → Bool) : Sp := fun vs H Q _ => ∃ (v : V) (d : PyData), vs = [v] ∧ Dq K H v d ∧ Sz d ∧ ∀ H', Same H H' → Q (.bl (f d)) H'
/-- .. with a number beside -/
def spLookN (K : PySem.W.Frag) (f : Int → PyData → Bool) : Sp := fun vs H Q _ => ∃ (v : V) (d : PyData) (n : Int), vs = [v, .int n] ∧ Dq K H v d ∧ Sz d ∧ ∀ H', Same H H' → Q (.bl (f n d)) H'
def isIntD : PyData → Bool
  | .int _ => true
  | _ => false
def sizeD : PyData → Bool
  | .int i => decide (i ≥ 1)
  | _ => false
def stateD (n : Int) : PyData → Bool
  | .int i => decide (0 ≤ i) && decide (i < n)
  | _ => false
def intOf : PyData → Int
  | .int i => i
  | _ => 0
/-- ascending -/
def ascI : List Int → Bool
  | [] => true
  | [_] => true
  | a :: b :: r => decide (a < b) && ascI (b :: r)
def statesD (n : Int) : PyData → Bool
  | .tuple ds => ds.all (stateD n) && ascI (ds.map intOf)
  | _ => false
def moveD (n : Int) : PyData → Bool
  | .tuple ds => match ds with
    | [a, b, c, d] => stateD n a && (isTextD b && (isTextD c && stateD n d))
    | _ => false
  | _ => false
def movesD (n : Int) : PyData → Bool
  | .tuple ds => ds.all (moveD n)
  | _ => false
theorem kitL_int : ∀ n ∈ tyNs, kitB n "int" = some (decide (n = "int" ∨ n = "bool")) := by decide +kernel
theorem kit_int (d : PyData) : kitB (tyN d) "int" = some (decide (tyN d = "int" ∨ tyN d = "bool")) := kitL_int _ (tyN_mem d)
theorem kitL_bool : ∀ n ∈ tyNs, kitB n "bool" = some (decide (n = "bool")) := by decide +kernel
theorem kit_bool (d : PyData) : kitB (tyN d) "bool" = some (decide (tyN d = "bool")) := kitL_bool _ (tyN_mem d)
theorem sz_mem {ds : List PyData} (h : PyData.bulkAll ds ≤ 500000) : ∀ d ∈ ds, Sz d := by
  induction ds with
  | nil => exact fun _ m => (List.not_mem_nil m).elim
  | cons x r ih =>
    simp only [PyData.bulkAll] at h
    intro d m
    rcases List.mem_cons.mp m with rfl | m
    · unfold Sz; omega
    · exact ih (by omega) d m
theorem bulk_len : ∀ ds : List PyData, ds.length ≤ PyData.bulkAll ds
  | [] => Nat.le_refl _
  | x :: r => by
    simp only [PyData.bulkAll, List.length_cons]
    have := bulk_len r
    omega
section
variable {P : Program} {w : World} {K : PySem.W.Frag} {mg : Str → Option Value} {base : Heap}
theorem ok_IsText {f : Addr} {fd : FuncData} {k : Nat} (F : Fun K "is_text" "is_text" sIsText f fd) (nall : mg "all" = none) (nisinstance : mg "isinstance" = none) (nstr : mg "str" = none) (m_LETTERS : StrAt mg "LETTERS" "abcdefghijklmnopqrstuvwxyz") : FnOk P w K mg base CX0 (k + 1) f fd ["thing"] (spLook K isTextD) := by
  refine F.ok scIsText (fun vs H Q E h => ?_) (fun cdv A outer s H vs Q E hr h => ?_)
  · obtain ⟨v, d, rfl, _⟩ := h; rfl
  · obtain ⟨v, d, rfl, hd, hz, q⟩ := h
    have hu := hr.units
    refine ⟨_, (pss_one (ps_ret (pe_and (pe_callB call_isi (by rfl) nisinstance boot_isinstance (pa_cons (pv 0) (pa_cons (pe_tyN nstr boot_str) pa_nil))) (pe_one (pe_callB (cr_all rfl) (by rfl) nall (by decide +kernel) (pa_cons (pe_lc (own := [("letter", 1)]) (g := gName 1) (by rfl) scIsText.nd (pi_str (pv 0)) (blkOk_by (own := [("letter", 1)]) (N := ["thing", "letter"]) (sc := defScope sIsText) (by decide +kernel)) (fun _ _ _ _ _ => (pg_name (i := 1) scIsText.nd rfl (by first | exact Or.inl rfl | exact Or.inr rfl))) (fun _ _ _ _ _ => pts_nil) (fun _ _ _ _ _ => (pe_cmpR op_in_sign (pv 1) (pe_gstr m_LETTERS) (by rfl)))) pa_nil)))))), ?_⟩
    refine ⟨v, rfl, v, .ty "str", _, _, _, rfl, .ty "str", tyx_of hd, kit_ty (kit_str d), _, rfl, ?_⟩
    cases d with
    | str x =>
      cases hd
      refine iteT ⟨.str x, rfl, x, rfl, fun D nD => ?_⟩
      have hlen : x.cps.size ≤ 500000 := hz
      refine lc_it walk_str (LcP D (fun _ H' => ∀ b o, b ≠ D → H b = some o → H' b = some o) (fun j v => ∃ c, x.cps.toList[j]? = some c ∧ v = some (.bl (isLow c)))) (LcP.start fun b o hb e => by rw [upd_ne hb]; exact e) (fun _ _ _ _ => trivial) ?_ ?_
      · rintro i y H1 H2 hi ⟨ys, hl, hR, hD, hP⟩ ⟨rfl, c, hc, rfl⟩
        refine ⟨rfl, ?_⟩
        dsimp only [tYes]
        refine iteT ?_
        refine ⟨_, rfl, c, _, rfl, rfl, ?_⟩
        exact lcp_some hl hR hD (by omega) ⟨c, by rw [Array.getElem?_toList]; exact hc, rfl⟩ fun b o hb e => by rw [upd_ne hb]; exact hP b o hb e
      · rintro H2 ⟨ys, hl, hR, hD, hP⟩
        have e := rows_map (f := fun c => some (V.bl (isLow c))) (l := x.cps.toList) (by rw [hl, Array.length_toList]) hR
        refine ⟨D, x.cps.toList.map isLow, rfl, sqOf (by rw [hD, e]; simp [List.filterMap_map, Function.comp_def]), ?_⟩
        have e2 : (x.cps.toList.map isLow).all id = isTextD (.str x) := by simp [isTextD, List.all_map, Function.comp_def]
        rw [e2]
        exact q H2 fun b o e => hP b o (ne_of_none e nD) e
    | _ => exact iteF (q H (Same.refl H))
theorem ok_IsInteger {f : Addr} {fd : FuncData} {k : Nat} (F : Fun K "is_integer" "is_integer" sIsInteger f fd) (nisinstance : mg "isinstance" = none) (nint : mg "int" = none) (nbool : mg "bool" = none)   : FnOk P w K mg base CX0 (k + 1) f fd ["thing"] (spLook K isIntD) := by
  refine F.ok scIsInteger (fun vs H Q E h => ?_) (fun cdv A outer s H vs Q E hr h => ?_)
  · obtain ⟨v, d, rfl, _⟩ := h; rfl
  · obtain ⟨v, d, rfl, hd, hz, q⟩ := h
    have hu := hr.units
    refine ⟨_, (pss_one (ps_ret (pe_and (pe_callB call_isi (by rfl) nisinstance boot_isinstance (pa_cons (pv 0) (pa_cons (pe_tyN nint boot_int) pa_nil))) (pe_one (pe_not (pe_callB call_isi (by rfl) nisinstance boot_isinstance (pa_cons (pv 0) (pa_cons (pe_tyN (n := "bool") nbool (by decide +kernel)) pa_nil)))))))), ?_⟩
    refine ⟨v, rfl, v, .ty "int", _, _, _, rfl, .ty "int", tyx_of hd, kit_ty (kit_int d), _, rfl, ?_⟩
    have qq := q H (Same.refl H)
    cases d with
    | int i => exact iteT ⟨v, rfl, v, .ty "bool", _, _, _, rfl, .ty "bool", tyx_of hd, kit_ty (kit_bool (.int i)), _, rfl, qq⟩
    | bool b => exact iteT ⟨v, rfl, v, .ty "bool", _, _, _, rfl, .ty "bool", tyx_of hd, kit_ty (kit_bool (.bool b)), _, rfl, qq⟩
    | _ => exact iteF qq
theorem ok_IsSize {f : Addr} {fd : FuncData} {k : Nat} (F : Fun K "is_size" "is_size" sIsSize f fd)   (CIsInteger : Cal P w K mg base k "is_integer" ["thing"] (spLook K isIntD)) : FnOk P w K mg base CX0 (k + 1) f fd ["thing"] (spLook K sizeD) := by
  refine F.ok scIsSize (fun vs H Q E h => ?_) (fun cdv A outer s H vs Q E hr h => ?_)
  · obtain ⟨v, d, rfl, _⟩ := h; rfl
  · obtain ⟨v, d, rfl, hd, hz, q⟩ := h
    have hu := hr.units
    refine ⟨_, (pss_one (ps_ret (pe_and (pe_cal CIsInteger hr (by rfl) pass0 (pa_cons (pv 0) pa_nil)) (pe_one (pe_cmpR op_ge (pv 0) pe_int (nomark _)))))), ?_⟩
    refine ⟨v, rfl, v, d, rfl, hd, hz, fun H1 s1 => ⟨_, rfl, ?_⟩⟩
    have qq := q H1 s1
    cases d with
    | int i =>
      cases hd
      exact iteT ⟨_, rfl, _, _, rfl, rfl, qq⟩
    | _ => exact iteF qq
theorem ok_IsState {f : Addr} {fd : FuncData} {k : Nat} (F : Fun K "is_state" "is_state" sIsState f fd)   (CIsInteger : Cal P w K mg base k "is_integer" ["thing"] (spLook K isIntD)) : FnOk P w K mg base CX0 (k + 1) f fd ["thing", "size"] (spLookN K stateD) := by
  refine F.ok scIsState (fun vs H Q E h => ?_) (fun cdv A outer s H vs Q E hr h => ?_)
  · obtain ⟨v, d, n, rfl, _⟩ := h; rfl
  · obtain ⟨v, d, n, rfl, hd, hz, q⟩ := h
    have hu := hr.units
    refine ⟨_, (pss_one (ps_ret (pe_and (pe_cal CIsInteger hr (by rfl) pass0 (pa_cons (pv 0) pa_nil)) (pe_one (pe_chain op_le op_lt pe_int (pv 0) (pv 1)))))), ?_⟩
    refine ⟨v, rfl, v, d, rfl, hd, hz, fun H1 s1 => ⟨_, rfl, ?_⟩⟩
    have qq := q H1 s1
    cases d with
    | int i =>
      cases hd
      refine iteT ⟨_, rfl, _, _, rfl, rfl, _, rfl, ?_⟩
      by_cases h0 : 0 ≤ i
      · simp only [stateD, decide_eq_true h0, Bool.true_and] at qq
        rw [decide_eq_true h0]
        exact iteT ⟨_, rfl, _, _, rfl, rfl, qq⟩
      · simp only [stateD, decide_eq_false h0, Bool.false_and] at qq
        rw [decide_eq_false h0]
        exact iteF qq
    | _ => exact iteF qq
end
end KP
/-! Slices and sums of tuples, told by what they hold; zip of two tuples as a walk. -/
namespace EL
open PySem PySem.Spec PyProof.Rows L2
theorem sl_of {K : PySem.W.Frag} {a : Addr} {H : Hp} {xs : List V} {lo hi : Option Int} {Q : VK} (h : SqT K H a xs) (k : ∀ b H', Same H H' → SqT K H' b (cutV xs lo hi) → Q (.ref b) H') : rSlA K (.ref a) lo hi H Q := by
  refine ⟨a, xs, rfl, h, fun hw => k a H (Same.refl H) ?_, fun _ p np => k p _ (same_upd np) (stOf upd_same)⟩
  have : cutV xs lo hi = xs := by
    unfold cutV
    rw [hw.1, hw.2, List.drop_zero, Nat.sub_zero, List.take_of_length_le (Nat.le_refl _)]
  rw [this]; exact h
theorem cat_of {K : PySem.W.Frag} {a b : Addr} {H : Hp} {xs ys : List V} {Q : VK} (h1 : SqT K H a xs) (h2 : SqT K H b ys) (hz : xs.length + ys.length ≤ 1000000) (k : ∀ c H', Same H H' → SqT K H' c (xs ++ ys) → Q (.ref c) H') : rCatA K (.ref a) (.ref b) H Q := by
  refine ⟨a, b, xs, ys, rfl, rfl, h1, h2, len_sz hz, fun e => k b H (Same.refl H) (by rw [e]; exact h2), fun _ e => k a H (Same.refl H) (by rw [e, List.append_nil]; exact h1), fun _ _ p np => k p _ (same_upd np) (stOf upd_same)⟩
theorem cut_tk (xs : List V) (n : Nat) : cutV xs none (some (n : Int)) = xs.take n := by
  unfold cutV
  rw [HT.sIx_nat, HT.sIx_none, List.drop_zero, Nat.sub_zero, List.take_eq_take_iff]
  omega
theorem cut_dp (xs : List V) (n : Nat) : cutV xs (some (n : Int)) none = xs.drop n := by
  unfold cutV
  rw [HT.sIx_nat, HT.sIx_none]
  by_cases h : n ≤ xs.length
  · rw [Nat.min_eq_left h, List.take_of_length_le (by rw [List.length_drop]; omega)]
  · rw [Nat.min_eq_right (by omega), List.drop_of_length_le (Nat.le_refl _), List.drop_of_length_le (by omega), List.take_nil]
theorem walk_zipT {K : PySem.W.Frag} {a b : Addr} {xs ys : List V} {n : Nat} (hn : n = min xs.length ys.length) : Walk (RZ.ItzT K a b) n (fun H => SqT K H a xs ∧ SqT K H b ys) (YPair (fun i => xs[i]?) (fun i => ys[i]?)) := by
  subst hn
  refine ⟨fun i _ hi q => ?_, fun _ q => ⟨xs, ys, q.1, q.2, by omega⟩, fun i H v H' _ q y => ?_⟩
  · have h1 : i < xs.length := by omega
    have h2 : i < ys.length := by omega
    exact ⟨xs, ys, xs[i], ys[i], q.1, q.2, by simp [h1], by simp [h2]⟩
  · obtain ⟨T, x, z, h1, h2, h3, h4, h5⟩ := y
    exact ⟨T, x, z, h1, h2, h3, h4 xs q.1, h5 ys q.2⟩
theorem dqAll_ints {K : PySem.W.Frag} {H : Hp} : ∀ {ns : List Int} {xs : List V}, DqAll K H xs (ns.map PyData.int) → xs = ns.map V.int
  | [], _, h => by cases h; rfl
  | n :: r, _, h => by
    cases h with
    | cons h1 h2 => cases h1; rw [dqAll_ints h2]; rfl
theorem ints_dqAll {K : PySem.W.Frag} {H : Hp} : ∀ ns : List Int, DqAll K H (ns.map V.int) (ns.map PyData.int)
  | [] => .nil
  | n :: r => .cons (.int n) (ints_dqAll r)
end EL
namespace KP
open PySem PySem.Spec PyProof.Rows L2 EL
open Evl (pss_cut)
theorem ascI_zip : ∀ l : List Int, ascI l = ((l.zip (l.drop 1)).map fun p => decide (p.1 < p.2)).all id
  | [] => rfl
  | [_] => rfl
  | a :: b :: r => by
    have ih := ascI_zip (b :: r)
    simp only [ascI, List.drop_succ_cons, List.drop_zero, List.zip_cons_cons, List.map_cons, List.all_cons, id_eq] at ih ⊢
    rw [ih]
theorem all_ints {n : Int} : ∀ {ds : List PyData}, ds.all (stateD n) = true → ds = (ds.map intOf).map PyData.int
  | [], _ => rfl
  | d :: r, h => by
    obtain ⟨h1, h2⟩ : stateD n d = true ∧ r.all (stateD n) = true := by simpa using h
    have := all_ints h2
    cases d with
    | int i => simp only [List.map_cons, intOf]; rw [← this]
    | _ => cases h1
section
variable {P : Program} {w : World} {K : PySem.W.Frag} {mg : Str → Option Value} {base : Heap}
theorem ok_IsTupleOfStates {f : Addr} {fd : FuncData} {k : Nat} (F : Fun K "is_tuple_of_states" "is_tuple_of_states" sIsTupleOfStates f fd) (nisinstance : mg "isinstance" = none) (ntuple : mg "tuple" = none) (nall : mg "all" = none) (nzip : mg "zip" = none)  (CIsState : Cal P w K mg base k "is_state" ["thing", "size"] (spLookN K stateD)) : FnOk P w K mg base CX0 (k + 1) f fd ["thing", "size"] (spLookN K statesD) := by
  refine F.ok scIsTupleOfStates (fun vs H Q E h => ?_) (fun cdv A outer s H vs Q E hr h => ?_)
  · obtain ⟨v, d, n, rfl, _⟩ := h; rfl
  · obtain ⟨v, d, n, rfl, hd, hz, q⟩ := h
    have hu := hr.units
    refine ⟨_, (pss_cons (ps_if (PW.pt (pw_or (pt_not (pt_val (pe_callB call_isi (by rfl) nisinstance boot_isinstance (pa_cons (pv 0) (pa_cons (pe_tyN ntuple boot_tuple) pa_nil))))) (pw_or1 (pt_not (pt_val (pe_callB (cr_all rfl) (by rfl) nall (by decide +kernel) (pa_cons (pe_lc (own := [("part", 4)]) (g := (gName 4)) (by rfl) scIsTupleOfStates.nd (pi_tup (pv 0)) (blkOk_by (own := [("part", 4)]) (N := ["thing", "size", "low", "high", "part"]) (sc := defScope sIsTupleOfStates) (by decide +kernel)) (fun _ _ _ _ _ => (pg_name (i := 4) scIsTupleOfStates.nd rfl (by first | exact Or.inl rfl | exact Or.inr rfl))) (fun _ _ _ _ _ => pts_nil) (fun _ _ _ _ _ => (pe_cal CIsState hr (by rfl) pass0 (pa_cons (pv 4) (pa_cons (pv 1) pa_nil))))) pa_nil))))))) (pss_one (ps_ret pe_bl)) pss_nil)
      (pss_one (ps_ret (pe_callB (cr_all rfl) (by rfl) nall (by decide +kernel) (pa_cons (pe_lc (own := [("low", 2), ("high", 3)]) (g := (gTup K 2 (gCons (gName 2) (gCons (gName 3) gNil)))) (by rfl) scIsTupleOfStates.nd (RZ.pi_zipA (by rfl) nzip (pa_cons (pv 0) (pa_cons (pe_slice sl_tupA (pv 0) (po_some pe_int) po_none) pa_nil))) (blkOk_by (own := [("low", 2), ("high", 3)]) (N := ["thing", "size", "low", "high", "part"]) (sc := defScope sIsTupleOfStates) (by decide +kernel)) (fun _ _ _ _ _ => (pg_tup (by rfl) (pgs_cons (pg_name (i := 2) scIsTupleOfStates.nd rfl (by first | exact Or.inl rfl | exact Or.inr rfl)) (pgs_cons (pg_name (i := 3) scIsTupleOfStates.nd rfl (by first | exact Or.inl rfl | exact Or.inr rfl)) pgs_nil)))) (fun _ _ _ _ _ => pts_nil) (fun _ _ _ _ _ => (pe_cmpR op_lt (pv 2) (pv 3) (nomark _)))) pa_nil))))), ?_⟩
    refine ⟨v, rfl, v, .ty "tuple", _, _, _, rfl, .ty "tuple", tyx_of hd, kit_ty (kit_tuple d), _, rfl, ?_⟩
    cases d with
    | tuple ds =>
      cases hd with
      | tup hs ha =>
      rename_i a xs
      have hzz : PyData.bulkAll ds ≤ 500000 := hz
      have hlen : xs.length ≤ 500000 := by rw [ha.len]; exact Nat.le_trans (bulk_len ds) hzz
      refine iteF ?_
      refine ⟨.ref a, rfl, a, rfl, ⟨xs, hs⟩, fun D nD => ?_⟩
      refine lc_it walk_tup (LcP D (fun _ H' => Same H H') (fun j v => ∃ e, ds[j]? = some e ∧ v = some (.bl (stateD n e)))) (LcP.start (same_upd nD)) (fun i H' _ p => by obtain ⟨_, _, _, _, sm⟩ := p; exact ex_t' sm hs) ?_ ?_
      · rintro i y H1 H2 hi ⟨ys, hl, hR, hD, sm⟩ ⟨rfl, hy⟩
        obtain ⟨e, ee, he⟩ := ha.at hy
        refine ⟨rfl, ?_⟩
        dsimp only [tYes]
        refine iteT ?_
        refine ⟨y, rfl, _, rfl, y, e, n, rfl, he.up sm, sz_mem hzz e (List.mem_of_getElem? ee), fun H3 sm3 => ?_⟩
        exact lcp_some hl hR (sm3 _ _ hD) (by omega) ⟨e, ee, rfl⟩ fun b o q => by rw [upd_ne (ne_of_none q nD)]; exact sm3 _ _ (sm b o q)
      rintro H1 ⟨ys, hl, hR, hD, sm⟩
      have e1 := rows_map (f := fun e => some (V.bl (stateD n e))) (l := ds) (by rw [hl, ha.len]) hR
      refine ⟨D, ds.map (stateD n), rfl, sqOf (by rw [hD, e1]; simp [List.filterMap_map, Function.comp_def]), _, rfl, ?_⟩
      have e2 : (ds.map (stateD n)).all id = ds.all (stateD n) := by simp [List.all_map, Function.comp_def]
      rw [e2]
      cases hall : ds.all (stateD n) with
      | false =>
        refine iteT ?_
        have := q H1 sm
        simp only [statesD, hall, Bool.false_and] at this
        exact this
      | true =>
        refine iteF ?_
        have hds := all_ints hall
        simp only [statesD, hall, Bool.true_and] at q
        generalize ds.map intOf = ns at hds q
        subst hds
        obtain rfl := dqAll_ints ha
        have hnl : ns.length ≤ 500000 := by simpa using hlen
        refine ⟨.ref a, rfl, .ref a, rfl, 1, rfl, ?_⟩
        dsimp only [tNoPart]
        refine sl_of (ex_t' sm hs) fun b H2 s2 h2 => ?_
        rw [show cutV (ns.map V.int) (some 1) none = (ns.drop 1).map V.int by rw [show (1 : Int) = ((1 : Nat) : Int) from rfl, cut_dp, List.map_drop]] at h2
        have h3 := ex_t' s2 (ex_t' sm hs)
        refine ⟨a, b, _, _, rfl, .inr ⟨h3, h2, fun D2 nD2 => ?_⟩⟩
        have hn : (ns.zip (ns.drop 1)).length = min (ns.map V.int).length ((ns.drop 1).map V.int).length := by simp
        refine lc_it (walk_zipT hn) (LcP D2 (fun _ H' => Same H2 H') (fun j v => ∃ p, (ns.zip (ns.drop 1))[j]? = some p ∧ v = some (.bl (decide (p.1 < p.2))))) (LcP.start (same_upd nD2)) (fun i H' _ p => by obtain ⟨_, _, _, _, sm⟩ := p; exact ⟨ex_t' sm h3, ex_t' sm h2⟩) ?_ ?_
        · rintro i y H3 H4 hi ⟨ys, hl, hR, hD2, sm2⟩ ⟨T, x, z, rfl, nT, rfl, hx, hy⟩
          obtain ⟨x', ex, rfl⟩ := get_map_int hx
          obtain ⟨z', ez, rfl⟩ := get_map_int hy
          have eT : SqT K (upd H3 T (.tup [.int x', .int z'])) T [.int x', .int z'] := stOf upd_same
          have lz : (ns.zip (ns.drop 1)).length ≤ 500000 := by rw [List.length_zip]; omega
          refine ⟨T, _, rfl, eT, rfl, _, _, rfl, _, _, rfl, rfl, rfl, ?_⟩
          dsimp only [tYes]
          refine iteT ⟨_, rfl, _, rfl, _, _, rfl, rfl, ?_⟩
          refine lcp_some hl hR (by rw [upd_ne (ne_of_none hD2 nT)]; exact hD2) (by omega) ⟨(x', z'), List.getElem?_zip_eq_some.mpr ⟨ex, ez⟩, rfl⟩ fun b o q => ?_
          rw [upd_ne (ne_of_none q nD2), upd_ne (ne_of_none (sm2 b o q) nT)]; exact sm2 b o q
        · rintro H3 ⟨ys, hl, hR, hD2, sm2⟩
          have e4 := rows_map (f := fun p : Int × Int => some (V.bl (decide (p.1 < p.2)))) (l := ns.zip (ns.drop 1)) hl hR
          refine ⟨D2, (ns.zip (ns.drop 1)).map (fun p => decide (p.1 < p.2)), rfl, sqOf (by rw [hD2, e4]; simp [List.filterMap_map, Function.comp_def]), ?_⟩
          rw [← ascI_zip]
          exact q H3 (sm.trans (s2.trans sm2))
    | _ => exact iteT (q H (Same.refl H))
theorem ok_IsMove {f : Addr} {fd : FuncData} {k : Nat} (F : Fun K "is_move" "is_move" sIsMove f fd) (nisinstance : mg "isinstance" = none) (ntuple : mg "tuple" = none) (nlen : mg "len" = none)  (CIsState : Cal P w K mg base k "is_state" ["thing", "size"] (spLookN K stateD)) (CIsText : Cal P w K mg base k "is_text" ["thing"] (spLook K isTextD)) : FnOk P w K mg base CX0 (k + 1) f fd ["thing", "size"] (spLookN K moveD) := by
  refine F.ok scIsMove (fun vs H Q E h => ?_) (fun cdv A outer s H vs Q E hr h => ?_)
  · obtain ⟨v, d, n, rfl, _⟩ := h; rfl
  · obtain ⟨v, d, n, rfl, hd, hz, q⟩ := h
    have hu := hr.units
    refine ⟨_, (pss_cons (ps_if (PW.pt (pw_or (pt_not (pt_val (pe_callB call_isi (by rfl) nisinstance boot_isinstance (pa_cons (pv 0) (pa_cons (pe_tyN ntuple boot_tuple) pa_nil))))) (pw_or1 (pt_cmpR op_ne (pe_callB call_len (by rfl) nlen boot_len (pa_cons (pv 0) pa_nil)) pe_int (nomark _))))) (pss_one (ps_ret pe_bl)) pss_nil)
      (pss_cons (ps_asg (pv 0) (pg_tup (by rfl) (pgs_cons (pg_name (i := 2) scIsMove.nd rfl (by first | exact Or.inl rfl | exact Or.inr rfl)) (pgs_cons (pg_name (i := 3) scIsMove.nd rfl (by first | exact Or.inl rfl | exact Or.inr rfl)) (pgs_cons (pg_name (i := 4) scIsMove.nd rfl (by first | exact Or.inl rfl | exact Or.inr rfl)) (pgs_cons (pg_name (i := 5) scIsMove.nd rfl (by first | exact Or.inl rfl | exact Or.inr rfl)) pgs_nil))))))
      (pss_one (ps_ret (pe_and (pe_cal CIsState hr (by rfl) pass0 (pa_cons (pv 2) (pa_cons (pv 1) pa_nil))) (pe_and (pe_cal CIsText hr (by rfl) pass0 (pa_cons (pv 3) pa_nil)) (pe_and (pe_cal CIsText hr (by rfl) pass0 (pa_cons (pv 4) pa_nil)) (pe_one (pe_cal CIsState hr (by rfl) pass0 (pa_cons (pv 5) (pa_cons (pv 1) pa_nil))))))))))), ?_⟩
    refine ⟨v, rfl, v, .ty "tuple", _, _, _, rfl, .ty "tuple", tyx_of hd, kit_ty (kit_tuple d), _, rfl, ?_⟩
    cases d with
    | tuple ds =>
      cases hd with
      | tup hs ha =>
      rename_i a xs
      have hzz : PyData.bulkAll ds ≤ 500000 := hz
      refine iteF ⟨.ref a, rfl, .ref a, (xs.length : Nat), rfl, .inr ⟨xs, hs, rfl⟩, rfl, _, rfl, ?_⟩
      by_cases e : V.int (xs.length : Nat) = V.int 4
      · rw [decide_eq_true e]
        refine iteF ?_
        have e2 : xs.length = 4 := by
          have := V.int.inj e
          exact_mod_cast this
        have e3 : ds.length = 4 := by rw [← ha.len, e2]
        obtain ⟨d0, d1, d2, d3, rfl⟩ : ∃ d0 d1 d2 d3, ds = [d0, d1, d2, d3] := by
          match ds, e3 with
          | [d0, d1, d2, d3], _ => exact ⟨d0, d1, d2, d3, rfl⟩
        obtain ⟨x0, x1, x2, x3, rfl⟩ : ∃ x0 x1 x2 x3, xs = [x0, x1, x2, x3] := by
          match xs, e2 with
          | [x0, x1, x2, x3], _ => exact ⟨x0, x1, x2, x3, rfl⟩
        have z := sz_mem hzz
        cases ha with
        | cons h0 ha =>
        cases ha with
        | cons h1 ha =>
        cases ha with
        | cons h2 ha =>
        cases ha with
        | cons h3 ha =>
        refine ⟨.ref a, rfl, a, _, rfl, hs, rfl, x0, _, rfl, x1, _, rfl, x2, _, rfl, x3, _, rfl, rfl, ?_⟩
        refine ⟨x0, rfl, _, rfl, x0, d0, n, rfl, h0, z d0 (by simp), fun H1 s1 => ⟨_, rfl, ?_⟩⟩
        simp only [moveD] at q
        cases b0 : stateD n d0 with
        | false => rw [b0] at q; exact iteF (q H1 s1)
        | true =>
        rw [b0] at q
        refine iteT ⟨x1, rfl, x1, d1, rfl, h1.up s1, z d1 (by simp), fun H2 s2 => ⟨_, rfl, ?_⟩⟩
        cases b1 : isTextD d1 with
        | false => rw [b1] at q; exact iteF (q H2 (s1.trans s2))
        | true =>
        rw [b1] at q
        refine iteT ⟨x2, rfl, x2, d2, rfl, (h2.up s1).up s2, z d2 (by simp), fun H3 s3 => ⟨_, rfl, ?_⟩⟩
        cases b2 : isTextD d2 with
        | false => rw [b2] at q; exact iteF (q H3 (s1.trans (s2.trans s3)))
        | true =>
        rw [b2] at q
        refine iteT ⟨x3, rfl, _, rfl, x3, d3, n, rfl, ((h3.up s1).up s2).up s3, z d3 (by simp), fun H4 s4 => ?_⟩
        exact q H4 (s1.trans (s2.trans (s3.trans s4)))
      · rw [decide_eq_false e]
        refine iteT ?_
        have e3 : moveD n (.tuple ds) = false := by
          match ds, ha with
          | [], _ => rfl
          | [_], _ => rfl
          | [_, _], _ => rfl
          | [_, _, _], _ => rfl
          | _ :: _ :: _ :: _ :: _ :: _, _ => rfl
          | [_, _, _, _], ha => exact absurd (by rw [ha.len]; rfl) e
        rw [← e3]
        exact q H (Same.refl H)
    | _ => exact iteT (q H (Same.refl H))
theorem ok_IsTupleOfMoves {f : Addr} {fd : FuncData} {k : Nat} (F : Fun K "is_tuple_of_moves" "is_tuple_of_moves" sIsTupleOfMoves f fd) (nisinstance : mg "isinstance" = none) (ntuple : mg "tuple" = none) (nall : mg "all" = none)  (CIsMove : Cal P w K mg base k "is_move" ["thing", "size"] (spLookN K moveD)) : FnOk P w K mg base CX0 (k + 1) f fd ["thing", "size"] (spLookN K movesD) := by
  refine F.ok scIsTupleOfMoves (fun vs H Q E h => ?_) (fun cdv A outer s H vs Q E hr h => ?_)
  · obtain ⟨v, d, n, rfl, _⟩ := h; rfl
  · obtain ⟨v, d, n, rfl, hd, hz, q⟩ := h
    have hu := hr.units
    refine ⟨_, (pss_one (ps_ret (pe_and (pe_callB call_isi (by rfl) nisinstance boot_isinstance (pa_cons (pv 0) (pa_cons (pe_tyN ntuple boot_tuple) pa_nil))) (pe_one (pe_callB (cr_all rfl) (by rfl) nall (by decide +kernel) (pa_cons (pe_lc (own := [("part", 2)]) (g := (gName 2)) (by rfl) scIsTupleOfMoves.nd (pi_tup (pv 0)) (blkOk_by (own := [("part", 2)]) (N := ["thing", "size", "part"]) (sc := defScope sIsTupleOfMoves) (by decide +kernel)) (fun _ _ _ _ _ => (pg_name (i := 2) scIsTupleOfMoves.nd rfl (by first | exact Or.inl rfl | exact Or.inr rfl))) (fun _ _ _ _ _ => pts_nil) (fun _ _ _ _ _ => (pe_cal CIsMove hr (by rfl) pass0 (pa_cons (pv 2) (pa_cons (pv 1) pa_nil))))) pa_nil)))))), ?_⟩
    refine ⟨v, rfl, v, .ty "tuple", _, _, _, rfl, .ty "tuple", tyx_of hd, kit_ty (kit_tuple d), _, rfl, ?_⟩
    cases d with
    | tuple ds =>
      cases hd with
      | tup hs ha =>
      rename_i a xs
      have hzz : PyData.bulkAll ds ≤ 500000 := hz
      have hlen : xs.length ≤ 500000 := by rw [ha.len]; exact Nat.le_trans (bulk_len ds) hzz
      refine iteT ?_
      refine ⟨.ref a, rfl, a, rfl, ⟨xs, hs⟩, fun D nD => ?_⟩
      refine lc_it walk_tup (LcP D (fun _ H' => Same H H') (fun j v => ∃ e, ds[j]? = some e ∧ v = some (.bl (moveD n e)))) (LcP.start (same_upd nD)) (fun i H' _ p => by obtain ⟨_, _, _, _, sm⟩ := p; exact ex_t' sm hs) ?_ ?_
      · rintro i y H1 H2 hi ⟨ys, hl, hR, hD, sm⟩ ⟨rfl, hy⟩
        obtain ⟨e, ee, he⟩ := ha.at hy
        refine ⟨rfl, ?_⟩
        dsimp only [tYes]
        refine iteT ?_
        refine ⟨y, rfl, _, rfl, y, e, n, rfl, he.up sm, sz_mem hzz e (List.mem_of_getElem? ee), fun H3 sm3 => ?_⟩
        exact lcp_some hl hR (sm3 _ _ hD) (by omega) ⟨e, ee, rfl⟩ fun b o q => by rw [upd_ne (ne_of_none q nD)]; exact sm3 _ _ (sm b o q)
      rintro H1 ⟨ys, hl, hR, hD, sm⟩
      have e1 := rows_map (f := fun e => some (V.bl (moveD n e))) (l := ds) (by rw [hl, ha.len]) hR
      refine ⟨D, ds.map (moveD n), rfl, sqOf (by rw [hD, e1]; simp [List.filterMap_map, Function.comp_def]), ?_⟩
      have e2 : (ds.map (moveD n)).all id = ds.all (moveD n) := by simp [List.all_map, Function.comp_def]
      rw [e2]
      exact q H1 sm
    | _ => exact iteF (q H (Same.refl H))
end
end KP
namespace KP
open PySem PySem.Spec PyProof.Rows L2 EL
open Evl (pss_cut)
abbrev sPacerInit : Stmt := inClass (topS 26) 0
abbrev sPacerTells : Stmt := inClass (topS 26) 1
abbrev sPacerEq : Stmt := inClass (topS 26) 7
theorem scPacerInit : FnScope ["self", "size", "begins", "moves", "ends"] ["self", "size", "begins", "moves", "ends"] (defScope sPacerInit) := ⟨rfl, rfl, rfl, by decide +kernel, rfl, by decide +kernel, by decide +kernel⟩
/-- a pacer's own dict -/
def pf (n : Int) (b m e : V) : List (Str × V) := [("size", .int n), ("begins", b), ("moves", m), ("ends", e)]
theorem pf_put (n : Int) (b m e : V) : putF "ends" e (putF "moves" m (putF "begins" b (putF "size" (.int n) []))) = pf n b m e := by
  have h1 : ¬ ("size" : Str) = "begins" := by decide +kernel
  have h2 : ¬ ("size" : Str) = "moves" := by decide +kernel
  have h3 : ¬ ("begins" : Str) = "moves" := by decide +kernel
  have h4 : ¬ ("size" : Str) = "ends" := by decide +kernel
  have h5 : ¬ ("begins" : Str) = "ends" := by decide +kernel
  have h6 : ¬ ("moves" : Str) = "ends" := by decide +kernel
  simp only [putF, if_neg h1, if_neg h2, if_neg h3, if_neg h4, if_neg h5, if_neg h6, pf]
theorem put3 (n : Int) (b : V) : putF "begins" b (putF "size" (.int n) []) = ([("size", .int n), ("begins", b)] : List (Str × V)) := by
  have h1 : ¬ ("size" : Str) = "begins" := by decide +kernel
  simp only [putF, if_neg h1]
theorem put4 (n : Int) (b m : V) : putF "moves" m (putF "begins" b (putF "size" (.int n) [])) = ([("size", .int n), ("begins", b), ("moves", m)] : List (Str × V)) := by
  have h2 : ¬ ("size" : Str) = "moves" := by decide +kernel
  have h3 : ¬ ("begins" : Str) = "moves" := by decide +kernel
  rw [put3]
  simp only [putF, if_neg h2, if_neg h3]
structure PTxt (K : PySem.W.Frag) (C : Addr) : Prop where
  cl : Cls K C
  nS : NoAttr K C "size"
  nB : NoAttr K C "begins"
  nM : NoAttr K C "moves"
  nE : NoAttr K C "ends"
/-- a pacer is made of what is right -/
def spPInit (K : PySem.W.Frag) (C : Addr) : Sp := fun vs H Q _ => ∃ (p dx : Addr) (n : Int) (b m e : V) (db dm de : PyData), vs = [.ref p, .int n, b, m, e] ∧ H p = some (.ins C dx []) ∧ Dq K H b db ∧ Dq K H m dm ∧ Dq K H e de ∧
  Sz db ∧ Sz dm ∧ Sz de ∧ 1 ≤ n ∧ statesD n db = true ∧ movesD n dm = true ∧ statesD n de = true ∧
  ∀ H', (∀ c o, c ≠ p → H c = some o → H' c = some o) → H' p = some (.ins C dx (pf n b m e)) → Q .non H'
section
variable {P : Program} {w : World} {K : PySem.W.Frag} {mg : Str → Option Value} {base : Heap}
theorem ok_PacerInit {f C : Addr} {fd : FuncData} {k : Nat} (F : Fun K "__init__" "Pacer.__init__" sPacerInit f fd) (T : PTxt K C) (CIsSize : Cal P w K mg base k "is_size" ["thing"] (spLook K sizeD)) (CIsTupleOfMoves : Cal P w K mg base k "is_tuple_of_moves" ["thing", "size"] (spLookN K movesD)) (CIsTupleOfStates : Cal P w K mg base k "is_tuple_of_states" ["thing", "size"] (spLookN K statesD)) : FnOk P w K mg base CX0 (k + 1) f fd ["self", "size", "begins", "moves", "ends"] (spPInit K C) := by
  refine F.ok scPacerInit (fun vs H Q E h => ?_) (fun cdv A outer s H vs Q E hr h => ?_)
  · obtain ⟨p, dx, n, b, m, e, db, dm, de, rfl, _⟩ := h; rfl
  · obtain ⟨p, dx, n, b, m, e, db, dm, de, rfl, hp, hb, hm, he, zb, zm, ze, hn, tb, tm, te, q⟩ := h
    have hu := hr.units
    refine ⟨_, (pss_cons (ps_if (pt_not (pt_val (pe_cal CIsSize hr (by rfl) pass0 (pa_cons (pv 1) pa_nil)))) (pss_one (ps_never)) pss_nil)
      (pss_cons (ps_if (pt_not (pt_val (pe_cal CIsTupleOfStates hr (by rfl) pass0 (pa_cons (pv 2) (pa_cons (pv 1) pa_nil))))) (pss_one (ps_never)) pss_nil)
      (pss_cons (ps_if (pt_not (pt_val (pe_cal CIsTupleOfMoves hr (by rfl) pass0 (pa_cons (pv 3) (pa_cons (pv 1) pa_nil))))) (pss_one (ps_never)) pss_nil)
      (pss_cons (ps_if (pt_not (pt_val (pe_cal CIsTupleOfStates hr (by rfl) pass0 (pa_cons (pv 4) (pa_cons (pv 1) pa_nil))))) (pss_one (ps_never)) pss_nil)
      (pss_cons (ps_fld (pv 0) (pv 1) rfl)
      (pss_cons (ps_fld (pv 0) (pv 2) rfl)
      (pss_cons (ps_fld (pv 0) (pv 3) rfl)
      (pss_one (ps_fld (pv 0) (pv 4) rfl))))))))), ?_⟩
    have sn : sizeD (.int n) = true := by simp [sizeD, hn]
    refine ⟨_, rfl, _, .int n, rfl, .int n, by show 0 ≤ 500000; decide, fun H1 s1 => ⟨_, rfl, ?_⟩⟩
    rw [sn]
    refine iteF ⟨b, rfl, _, rfl, b, db, n, rfl, hb.up s1, zb, fun H2 s2 => ⟨_, rfl, ?_⟩⟩
    rw [tb]
    refine iteF ⟨m, rfl, _, rfl, m, dm, n, rfl, (hm.up s1).up s2, zm, fun H3 s3 => ⟨_, rfl, ?_⟩⟩
    rw [tm]
    refine iteF ⟨e, rfl, _, rfl, e, de, n, rfl, ((he.up s1).up s2).up s3, ze, fun H4 s4 => ⟨_, rfl, ?_⟩⟩
    rw [te]
    have S := s1.trans (s2.trans (s3.trans s4))
    refine iteF ⟨_, rfl, _, rfl, p, C, dx, [], rfl, S _ _ hp, T.cl, T.nS, (by show 0 < 1000; decide), ?_⟩
    refine ⟨b, rfl, _, rfl, p, C, dx, _, rfl, upd_same, T.cl, T.nB, (by show 1 < 1000; decide), ?_⟩
    refine ⟨m, rfl, _, rfl, p, C, dx, _, rfl, upd_same, T.cl, T.nM, (by rw [put3]; show 2 < 1000; decide), ?_⟩
    refine ⟨e, rfl, _, rfl, p, C, dx, _, rfl, upd_same, T.cl, T.nE, (by rw [put4]; show 3 < 1000; decide), ?_⟩
    refine q _ (fun c o hc h => ?_) (by rw [upd_same, pf_put])
    rw [upd_ne hc, upd_ne hc, upd_ne hc, upd_ne hc]; exact S _ _ h
end
end KP
/-! The deck of draws beside a list that grows; rows of signs; numbers kept of a range. -/
namespace EL
open PySem PySem.Spec PyProof.Rows L2
theorem offNone {a q b : Addr} {m : Nat} {H H' : Hp} (o : Off a q H H') (d : Dw a q m H') (h : H' b = none) : H b = none := by
  cases e : H b with
  | none => rfl
  | some x =>
    obtain ⟨h1, h2⟩ := d.na h
    rw [o b x h1 h2 e] at h; cases h
theorem offUpd {a q b : Addr} {H H' : Hp} {x : HO} (o : Off a q H H') (h : H b = none) : Off a q H (upd H' b x) := fun c y h1 h2 e => by
  rw [upd_ne (ne_of_none e h)]; exact o c y h1 h2 e
theorem rows_signs {p : Nat → Prop} : ∀ {ys : List (Option V)}, (∀ (j : Nat) (v : Option V), ys[j]? = some v → ∃ c, p c ∧ v = some (.str ⟨#[c]⟩)) → ∃ cs : List Nat, ys.filterMap id = (cs.map fun c => (⟨#[c]⟩ : Str)).map V.str ∧ cs.length = ys.length ∧ ∀ c ∈ cs, p c
  | [], _ => ⟨[], rfl, rfl, fun _ m => (List.not_mem_nil m).elim⟩
  | y :: r, h => by
    obtain ⟨c, hc, e⟩ := h 0 y rfl
    obtain ⟨cs, e1, e2, e3⟩ := rows_signs (ys := r) fun j v e => h (j + 1) v (by rw [List.getElem?_cons_succ]; exact e)
    refine ⟨c :: cs, ?_, by rw [List.length_cons, List.length_cons, e2], fun d m => ?_⟩
    · subst e; rw [List.filterMap_cons]; simp only [id_eq, List.map_cons, e1]
    · rcases List.mem_cons.mp m with rfl | m
      · exact hc
      · exact e3 d m
theorem join_cps : ∀ cs : List Nat, (Str.join (Str.ofString "") (cs.map fun c => (⟨#[c]⟩ : Str))).cps.toList = cs
  | [] => rfl
  | [c] => rfl
  | c :: d :: r => by
    have ih := join_cps (d :: r)
    show ((⟨#[c]⟩ : Str) ++ Str.ofString "" ++ Str.join (Str.ofString "") ((d :: r).map fun c => (⟨#[c]⟩ : Str))).cps.toList = c :: d :: r
    rw [show ((⟨#[c]⟩ : Str) ++ Str.ofString "" ++ Str.join (Str.ofString "") ((d :: r).map fun c => (⟨#[c]⟩ : Str))).cps = #[c] ++ #[] ++ (Str.join (Str.ofString "") ((d :: r).map fun c => (⟨#[c]⟩ : Str))).cps from rfl, Array.toList_append, ih]
    rfl
theorem join_signs (cs : List Nat) : Txt.join (Str.ofString "") (cs.map fun c => (⟨#[c]⟩ : Str)) = ⟨cs.toArray⟩ := by
  refine str_ext ?_
  unfold Txt.join
  rw [StrLaws.glued_eq_join, join_cps]
theorem ones (cs : List Nat) : ((cs.map fun c => (⟨#[c]⟩ : Str)).map (·.length)).sum = cs.length := by
  induction cs with
  | nil => rfl
  | cons c r ih => rw [List.map_cons, List.map_cons, List.sum_cons, ih, List.length_cons, show (⟨#[c]⟩ : Str).length = 1 from rfl]; omega
theorem hid_upd {l : Addr} {H : Hp} {o : HO} : hid l l (upd H l o) = hid l l H := by
  funext b
  by_cases h : b = l
  · subst h; unfold hid; simp
  · rw [hid_ne h h, hid_ne h h, upd_ne h]
theorem hid_fresh {l p : Addr} {H : Hp} {o : HO} (h : H p = none) : Same (hid l l H) (hid l l (upd H p o)) := fun b x e => by
  obtain ⟨h1, _, h3⟩ := hid_some e
  rw [hid_ne h1 h1, upd_ne (ne_of_none h3 h)]; exact h3
theorem DqAll.snoc {K : PySem.W.Frag} {H : Hp} {v : V} {d : PyData} : ∀ {ds : List PyData} {vs : List V}, DqAll K H vs ds → Dq K H v d → DqAll K H (vs ++ [v]) (ds ++ [d])
  | [], _, h, e => by cases h; exact .cons e .nil
  | _ :: _, _, h, e => by
    cases h with
    | cons h1 h2 => exact .cons h1 (DqAll.snoc h2 e)
theorem same_hid {a q : Addr} {H H' : Hp} (s : Same H H') {m : Nat} (d : Dw a q m H) : Same (hid a q H) (hid a q H') := fun b o h => by
  obtain ⟨h1, h2, h3⟩ := hid_some h
  rw [hid_ne h1 h2]; exact s b o h3
theorem hid_of {a q p : Addr} {m : Nat} {H G : Hp} {o : HO} (d : Dw a q m H) (np : H p = none) (h : G p = some o) : hid a q G p = some o := by
  obtain ⟨h1, h2⟩ := d.na np
  rw [hid_ne h1 h2]; exact h
def hi (a q z : Addr) (H : Hp) : Hp := hid z z (hid a q H)
structure Dx (a q z : Addr) (m : Nat) (H : Hp) : Prop where
  dw : Dw a q m H
  li : z = a ∨ (z ≠ a ∧ z ≠ q ∧ ∃ ys, H z = some (.lst ys))
theorem Dx.step {a q z : Addr} {m n : Nat} {H H' : Hp} (d : Dx a q z m H) (o : EL.Off a q H H') (d' : Dw a q n H') : Dx a q z n H' :=
  ⟨d', d.li.imp id fun ⟨h1, h2, ys, h3⟩ => ⟨h1, h2, ys, o _ _ h1 h2 h3⟩⟩
theorem Dx.same {a q z : Addr} {m : Nat} {H H' : Hp} (d : Dx a q z m H) (s : Same H H') : Dx a q z m H' := d.step (.of_same s) (d.dw.same s)
theorem Dx.nz {a q z p : Addr} {m : Nat} {H : Hp} (d : Dx a q z m H) (h : H p = none) : p ≠ z := by
  rcases d.li with rfl | ⟨_, _, ys, h3⟩
  · exact (d.dw.na h).1
  · exact (ne_of_none h3 h).symm
theorem hi_sub {a q z : Addr} {H : Hp} : Same (hi a q z H) H := hid_sub.trans hid_sub
theorem hid_hid {z : Addr} {H H' : Hp} (s : Same H H') : Same (hid z z H) (hid z z H') := fun b o h => by
  obtain ⟨h1, _, h3⟩ := hid_some h
  rw [hid_ne h1 h1]; exact s b o h3
theorem off_hi {a q z : Addr} {H H' : Hp} (o : EL.Off a q H H') : Same (hi a q z H) (hi a q z H') := hid_hid o.hid
theorem hi_ne {a q z b : Addr} {H : Hp} (h1 : b ≠ a) (h2 : b ≠ q) (h3 : b ≠ z) : hi a q z H b = H b := by
  unfold hi; rw [hid_ne h3 h3, hid_ne h1 h2]
theorem same_hi {a q z : Addr} {H H' : Hp} (s : Same H H') {m : Nat} (d : Dx a q z m H) : Same (hi a q z H) (hi a q z H') := off_hi (.of_same s)
theorem hi_of {a q z p : Addr} {m : Nat} {H G : Hp} {o : HO} (d : Dx a q z m H) (np : H p = none) (h : G p = some o) : hi a q z G p = some o := by
  obtain ⟨h1, h2⟩ := d.dw.na np
  rw [hi_ne h1 h2 (d.nz np)]; exact h
theorem sqt_hid {K : PySem.W.Frag} {a q b : Addr} {m : Nat} {H : Hp} {xs : List V} (d : Dw a q m H) (h : SqT K H b xs) : SqT K (hid a q H) b xs := by
  obtain ⟨c, _, k⟩ := d
  obtain ⟨i, _, _, h3⟩ := k.top
  obtain ⟨ns, _, h5⟩ := k.que
  have ne : ∀ o, H b = some o → (∀ ys, o ≠ .lst ys) → b ≠ a ∧ b ≠ q := fun o e n => ⟨fun z => by subst z; rw [h3] at e; exact n _ (Option.some.inj e).symm, fun z => by subst z; rw [h5] at e; exact n _ (Option.some.inj e).symm⟩
  rcases h with (h | ⟨o, h⟩) | h
  · obtain ⟨n1, n2⟩ := ne _ h (fun _ z => nomatch z)
    exact .inl (.inl (by rw [hid_ne n1 n2]; exact h))
  · obtain ⟨n1, n2⟩ := ne _ h (fun _ z => nomatch z)
    exact .inl (.inr ⟨o, by rw [hid_ne n1 n2]; exact h⟩)
  · exact .inr h
theorem sqt_hi {K : PySem.W.Frag} {a q z b : Addr} {m : Nat} {H : Hp} {xs : List V} (d : Dx a q z m H) (h : SqT K H b xs) : SqT K (hi a q z H) b xs := by
  rcases d.li with rfl | ⟨_, _, ys, h3⟩
  · have e : hi z q z H = hid z q H := by
      funext b
      unfold hi
      by_cases hb : b = z
      · subst hb; unfold hid; simp
      · rw [hid_ne hb hb]
    rw [e]; exact sqt_hid d.dw h
  · have ne : ∀ o, H b = some o → (∀ ys, o ≠ .lst ys) → b ≠ z := fun o e n e2 => by subst e2; rw [h3] at e; exact n _ (Option.some.inj e).symm
    have h2 := sqt_hid d.dw h
    have key : ∀ o, (∀ ys, o ≠ .lst ys) → hid a q H b = some o → hi a q z H b = some o := fun o n e => by
      have := (hid_some e).2.2
      have nb := ne _ this n
      unfold hi; rw [hid_ne nb nb]; exact e
    rcases h2 with (h2 | ⟨o, h2⟩) | h2
    · exact .inl (.inl (key _ (fun _ z => nomatch z) h2))
    · exact .inl (.inr ⟨o, key _ (fun _ z => nomatch z) h2⟩)
    · exact .inr h2
theorem hi_upd {a q z : Addr} {H : Hp} {o : HO} : hi a q z (upd H z o) = hi a q z H := by
  funext b
  unfold hi
  by_cases h : b = z
  · subst h; unfold hid; simp
  · rw [hid_ne h h, hid_ne h h]
    unfold hid
    by_cases h2 : b = a ∨ b = q
    · rw [if_pos h2, if_pos h2]
    · rw [if_neg h2, if_neg h2, upd_ne h]
theorem rows_sub : ∀ (n0 : Nat) {ys : List (Option V)}, (∀ (j : Nat) (v : Option V), ys[j]? = some v → v = none ∨ v = some (.int ((n0 + j : Nat) : Int))) → ∃ ns : List Nat, ys.filterMap id = ns.map (fun (n : Nat) => V.int (n : Int)) ∧ ns.Pairwise (· < ·) ∧ (∀ x ∈ ns, n0 ≤ x ∧ x < n0 + ys.length) ∧ ns.length ≤ ys.length
  | _, [], _ => ⟨[], rfl, .nil, fun _ m => (List.not_mem_nil m).elim, Nat.le_refl _⟩
  | n0, y :: r, h => by
    obtain ⟨ns, e1, e2, e3, e4⟩ := rows_sub (n0 + 1) (ys := r) fun j v e => by
      have := h (j + 1) v (by rw [List.getElem?_cons_succ]; exact e)
      rwa [show n0 + (j + 1) = n0 + 1 + j by omega] at this
    rcases h 0 y rfl with rfl | rfl
    · refine ⟨ns, by rw [List.filterMap_cons]; simpa using e1, e2, fun x m => ?_, by rw [List.length_cons]; omega⟩
      have := e3 x m
      rw [List.length_cons]; omega
    · refine ⟨n0 :: ns, by rw [List.filterMap_cons]; simp only [id_eq, List.map_cons, e1, Nat.add_zero], .cons (fun x m => by have := e3 x m; omega) e2, fun x m => ?_, by rw [List.length_cons, List.length_cons]; omega⟩
      rw [List.length_cons]
      rcases List.mem_cons.mp m with rfl | m
      · omega
      · have := e3 x m; omega
end EL
namespace KP
open PySem PySem.Spec PyProof.Rows L2 EL
open Evl (pss_cut)
abbrev sDeck : Stmt := topS 36
theorem scDeck : FnScope ["_law_script", "_law_queue", "_law_blend", "_law_cell"] ["_law_script"] (defScope sDeck) := ⟨rfl, rfl, rfl, by decide +kernel, rfl, by decide +kernel, by decide +kernel⟩
abbrev sDraw : Stmt := topS 37
theorem scDraw : FnScope ["_law_deck_here", "_law_below", "_law_blend", "_law_cell"] ["_law_deck_here", "_law_below"] (defScope sDraw) := ⟨rfl, rfl, rfl, by decide +kernel, rfl, by decide +kernel, by decide +kernel⟩
abbrev sPick : Stmt := topS 38
theorem scPick : FnScope ["_law_deck_here", "_law_some_here"] ["_law_deck_here", "_law_some_here"] (defScope sPick) := ⟨rfl, rfl, rfl, by decide +kernel, rfl, by decide +kernel, by decide +kernel⟩
section
variable {P : Program} {w : World} {K : PySem.W.Frag} {mg : Str → Option Value} {base : Heap}
theorem ok_deck {f : Addr} {fd : FuncData} {k : Nat} (F : Fun K "_law_deck" "_law_deck" sDeck f fd) (nlist : mg "list" = none) (nint : mg "int" = none) : FnOk P w K mg base CX0 (k + 1) f fd ["_law_script"] (spDeck K) := by
  refine F.ok scDeck (fun vs H Q E h => ?_) (fun cdv A outer s H vs Q E hr h => ?_)
  · obtain ⟨a, ns, rfl, _⟩ := h; rfl
  · obtain ⟨a, ns, rfl, hS, hl, q⟩ := h
    refine ⟨_, pss_cons (ps_par (i := 1) (j := 2) (by rfl) scDeck.nd rfl rfl (by decide) rfl rfl (pa_cons (pe_revL (pe_callTy call_list_of (by rfl) nlist boot_list (pa_cons (pe_slice sl_list (pv 0) po_none (po_some pe_int)) pa_nil))) (pa_cons pe_int pa_nil)) (by rfl))
      (pss_cons (ps_for PassesOwn.never rfl (pi_list (pv 1)) (pg_name (i := 3) scDeck.nd rfl (.inl rfl))
        (pss_one (ps_set (i := 2) scDeck.nd rfl (.inl rfl) (pe_op op_mod (pe_callTy call_int1 (by rfl) nint boot_int (pa_cons (pe_op op_add (pe_op op_add (pe_op op_mul (pv 2) pe_int) (pe_op op_mod (pe_callTy call_int1 (by rfl) nint boot_int (pa_cons (pv 3) pa_nil)) pe_int)) pe_int) pa_nil)) pe_int))))
      (pss_one (ps_ret (pe_lst (pa_cons (pv 1) (pa_cons (pv 2) (pa_cons pe_int pa_nil))))))), ?_⟩
    refine ⟨.ref a, rfl, 63, rfl, a, ns.map V.int, rfl, hS, fun p np => ?_⟩
    have s1 : Same H (upd H p (.lst (cutV (ns.map V.int) none (some 63)))) := same_upd np
    refine ⟨p, cutV (ns.map V.int) none (some 63), rfl, .inl (.inl (.inl upd_same)), fun l nl => ?_⟩
    have s2 := s1.trans (same_upd (o := .lst (cutV (ns.map V.int) none (some 63))) nl)
    refine ⟨l, _, rfl, .inl (.inl upd_same), fun r nr => ?_⟩
    have s3 := s2.trans (same_upd (o := .lst (cutV (ns.map V.int) none (some 63)).reverse) nr)
    obtain ⟨ms, e1, e2⟩ : ∃ ms : List Int, (cutV (ns.map V.int) none (some 63)).reverse = ms.map V.int ∧ ms.length ≤ 63 := by
      refine ⟨(cutI ns 63).reverse, ?_, ?_⟩
      · rw [cutI_map, List.map_reverse]
      · rw [List.length_reverse]; exact cutI_len _ _ hl
    generalize hG : upd (upd (upd H p (.lst (cutV (ns.map V.int) none (some 63)))) l (.lst (cutV (ns.map V.int) none (some 63)))) r (.lst (cutV (ns.map V.int) none (some 63)).reverse) = G at s3 ⊢
    have hr0 : H r = none := (Same.free (s1.trans (same_upd nl)) nr)
    have hGr : G r = some (.lst (ms.map V.int)) := by rw [← hG, upd_same, e1]
    refine ⟨.ref r, .int 95861, rfl, .ref r, rfl, r, rfl, ⟨_, .inl (.inl hGr)⟩, for_list (K := K) (a := r) (xs := ms.map V.int) (fun i σ H' => ∃ (b : Int) (y : Option V), σ = [some (.ref a), some (.ref r), some (.int b), y] ∧ 0 ≤ b ∧ b < 2147483648 ∧ H' = G)
      ⟨_, none, rfl, by decide, by decide, rfl⟩ (fun i σ H' _ ⟨_, _, _, _, _, e⟩ => by rw [e]; exact .inl (.inl hGr)) ?_ ?_⟩
    · rintro i x σ H' hi ⟨b, y, rfl, h0, h1, rfl⟩
      obtain ⟨z, hz, rfl⟩ := get_map_int hi
      refine ⟨_, rfl, b, 40692, rfl, rfl, .inl ⟨by omega, by omega⟩, _, rfl, .inl ⟨_, rfl, _, _, rfl, rfl, (by show (0:Int) < _; decide), ?_⟩⟩
      refine ⟨_, _, rfl, rfl, _, _, rfl, rfl, .inl ⟨_, rfl, _, _, rfl, rfl, (by show (0:Int) < _; decide), ?_⟩⟩
      exact ⟨_, _, rfl, Int.emod_nonneg _ (by decide), Int.lt_trans (Int.emod_lt_of_pos _ (by decide)) (by decide), rfl⟩
    · rintro σ H' ⟨b, y, rfl, h0, h1, rfl⟩
      refine ⟨_, rfl, _, rfl, (by show 3 ≤ sizeLine; decide), fun t nt => ?_⟩
      have s4 := s3.trans (same_upd (o := .lst [.ref r, .int b, .int 0]) nt)
      have tr : r ≠ t := ne_of_none hGr nt
      refine q t r _ s4 ⟨0, Nat.le_refl _, tr.symm, ⟨b, h0, h1, upd_same⟩, ⟨ms, e2, by rw [upd_ne tr]; exact hGr⟩⟩ (s3.free nt) hr0
theorem ok_draw {f : Addr} {fd : FuncData} {k : Nat} (F : Fun K "_law_draw" "_law_draw" sDraw f fd) (nint : mg "int" = none) : FnOk P w K mg base CX0 (k + 1) f fd ["_law_deck_here", "_law_below"] spDraw := by
  refine F.ok scDraw (fun vs H Q E h => ?_) (fun cdv A outer s H vs Q E hr h => ?_)
  · obtain ⟨a, q, m, n, rfl, _⟩ := h; rfl
  · obtain ⟨a, q, m, n, rfl, ⟨c, hc, D⟩, hm, hn0, hn1, kQ⟩ := h
    have hu : _ := hr.units
    refine ⟨_, pss_cons (ps_asg (pe_op op_add (pe_ix ix_list (pv 0) pe_int (fun _ _ => rfl)) pe_int) (pg_sub (pv 0) pe_int set_list))
      (pss_cons (ps_set (i := 2) scDraw.nd rfl (.inl rfl) (pe_op op_add (pe_ix ix_list (pv 0) pe_int (fun _ _ => rfl)) (pe_op op_mul (pe_op op_mul pe_int (pe_ix ix_list (pv 0) pe_int (fun _ _ => rfl))) (pe_ix ix_list (pv 0) pe_int (fun _ _ => rfl)))))
      (pss_cut (ps_if (pt_cmpR (op_neD hu) (pe_ix ix_list (pv 0) pe_int (fun _ _ => rfl)) (pe_lst pa_nil) (nomark _))
        (pss_cons (ps_set (i := 3) scDraw.nd rfl (.inl rfl) (pe_bm0 PySem.F.plainAttrs_list PySem.F.slot_list_pop PySem.F.type_list_pop mt_pop (pe_ix ix_list (pv 0) pe_int (fun _ _ => rfl))))
        (pss_cons (ps_if (pt_cmpR op_ge (pv 3) (pe_op op_pow pe_int pe_int) (nomark _))
          (pss_cons (ps_expr (pe_bm PySem.F.plainAttrs_list PySem.F.slot_list_append PySem.F.type_list_append mt_append (pe_ix ix_list (pv 0) pe_int (fun _ _ => rfl)) (pa_cons (pe_op op_fdiv (pv 3) (pv 1)) pa_nil)))
          (pss_one (ps_ret (pe_op op_mod (pe_callTy call_int1 (by rfl) nint boot_int (pa_cons (pv 3) pa_nil)) (pv 1))))) pss_nil)
        (pss_one (ps_set (i := 2) scDraw.nd rfl (.inl rfl) (pe_op op_add (pv 2) (pv 3)))))) pss_nil)
      (pss_cons (ps_set (i := 2) scDraw.nd rfl (.inl rfl) (pe_op op_mod (pe_op op_mul (pe_op op_mod (pe_callTy call_int1 (by rfl) nint boot_int (pa_cons (pv 2) pa_nil)) pe_int) pe_int) pe_int))
      (pss_cons (ps_set (i := 2) scDraw.nd rfl (.inl rfl) (pe_op op_mod (pe_callTy call_int1 (by rfl) nint boot_int (pa_cons (pe_op op_add (pe_op op_add (pe_op op_mul (pv 2) (pv 2)) (pe_op op_mul pe_int (pe_ix ix_list (pv 0) pe_int (fun _ _ => rfl)))) pe_int) pa_nil)) pe_int))
      (pss_one (ps_ret (pe_op op_mod (pe_op op_fdiv (pe_op op_mod (pe_callTy call_int1 (by rfl) nint boot_int (pa_cons (pe_op op_mul (pv 2) pe_int) pa_nil)) pe_int) pe_int) (pv 1)))))))), ?_⟩
    obtain ⟨b, hb0, hb1, hA⟩ := D.top
    obtain ⟨ns, hns, hQ⟩ := D.que
    have hc2 : c < 1000000000 := by omega
    -- the count goes up
    refine ⟨.ref a, rfl, a, _, 2, .int c, rfl, rfl, sqOf hA, rfl, c, 1, rfl, rfl, .ref a, rfl, a, _, 2, 2, rfl, rfl, hA, rfl, ?_⟩
    generalize hG : L2.upd H a (.lst (([.ref q, .int b, .int (c : Int)] : List V).set 2 (.int ((c : Int) + 1)))) = G
    have hGa : G a = some (.lst [.ref q, .int b, .int ((c : Int) + 1)]) := by rw [← hG]; exact upd_same
    have hGq : G q = some (.lst (ns.map V.int)) := by rw [← hG, upd_ne D.ne.symm]; exact hQ
    have oG : EL.Off a q H G := fun x o h1 h2 h => by rw [← hG, upd_ne h1]; exact h
    have dkG : Dk a q (c + 1) G := ⟨D.ne, ⟨b, hb0, hb1, by rw [hGa]; rfl⟩, ⟨ns, hns, hGq⟩⟩
    -- blend
    refine ⟨.ref a, rfl, a, _, 1, .int b, rfl, rfl, sqOf hGa, rfl, .ref a, rfl, a, _, 2, .int ((c : Int) + 1), rfl, rfl, sqOf hGa, rfl, _, _, rfl, rfl, .inr ⟨by omega, by omega⟩,
      .ref a, rfl, a, _, 2, .int ((c : Int) + 1), rfl, rfl, sqOf hGa, rfl, _, _, rfl, rfl, .inr ⟨by omega, by omega⟩, _, _, rfl, rfl, ?_⟩
    generalize hbl : b + 72077 * ((c : Int) + 1) * ((c : Int) + 1) = bl
    refine ⟨fun σ H' => ∃ (z : Int) (y : Option V), σ = [some (.ref a), some (.int n), some (.int z), y] ∧ EL.Off a q H H' ∧ Dk a q (c + 1) H', ?_, ?_⟩
    · refine ⟨.ref a, rfl, a, _, 0, .ref q, rfl, rfl, sqOf hGa, rfl, Nat.zero_le _, fun l nl => ?_⟩
      have hlq : q ≠ l := ne_of_none hGq nl
      have hla : a ≠ l := ne_of_none hGa nl
      generalize hG2 : L2.upd G l (.lst []) = G2
      have s2 : Same G G2 := by rw [← hG2]; exact same_upd nl
      have dk2 := dkG.same s2
      have o2 : EL.Off a q H G2 := oG.trans (.of_same s2)
      have hl2 : G2 l = some (.lst []) := by rw [← hG2]; exact upd_same
      have hq2 := s2 _ _ hGq
      have ha2 := s2 _ _ hGa
      refine ⟨.list (ns.map PyData.int), .list [], .lst (sqOf hq2) (dpInts ns), .lst (sqOf hl2) .nil, shaped_ints ns, rfl, _, rfl, ?_⟩
      rw [eqv_nil]
      by_cases hz : ns = []
      · rw [decide_eq_true hz]
        exact iteF ⟨_, none, rfl, o2, dk2⟩
      · rw [decide_eq_false hz]
        refine iteT ?_
        obtain ⟨y, hy⟩ := last_int hz
        refine ⟨.ref a, rfl, a, _, 0, .ref q, rfl, rfl, sqOf ha2, rfl, .inl ⟨rfl, _, sqOf hq2⟩, q, _, .int y, rfl, rfl, hq2, hy, ?_⟩
        generalize hG3 : L2.upd G2 q (.lst (ns.map V.int).dropLast) = G3
        have o3 : EL.Off a q H G3 := o2.trans fun x o h1 h2 h => by rw [← hG3, upd_ne h2]; exact h
        have ha3 : G3 a = some (.lst [.ref q, .int b, .int ((c : Int) + 1)]) := by rw [← hG3, upd_ne D.ne]; exact ha2
        have hq3 : G3 q = some (.lst (ns.dropLast.map V.int)) := by rw [← hG3, upd_same, List.map_dropLast]
        have hl3 : ns.dropLast.length ≤ 62 := by rw [List.length_dropLast]; omega
        have dk3 : Dk a q (c + 1) G3 := ⟨D.ne, ⟨b, hb0, hb1, by rw [ha3]; rfl⟩, ⟨_, by omega, hq3⟩⟩
        refine ⟨_, rfl, 10, 18, rfl, rfl, ⟨by decide, by decide, by decide⟩, y, _, rfl, rfl, _, rfl, ite2 (fun _ => ?_) (fun _ => ?_)⟩
        · refine ⟨.ref a, rfl, a, _, 0, .ref q, rfl, rfl, sqOf ha3, rfl, .inl ⟨rfl, _, sqOf hq3⟩, _, rfl, _, rfl, y, n, rfl, rfl, ⟨by omega, by omega⟩, q, _, _, rfl, rfl, hq3, (by rw [List.length_map]; exact lt_sz (by omega)), ?_⟩
          generalize hG4 : L2.upd G3 q (.lst (ns.dropLast.map V.int ++ [V.int (y / n)])) = G4
          have o4 : EL.Off a q H G4 := o3.trans fun x o h1 h2 h => by rw [← hG4, upd_ne h2]; exact h
          have ha4 : G4 a = some (.lst [.ref q, .int b, .int ((c : Int) + 1)]) := by rw [← hG4, upd_ne D.ne]; exact ha3
          have hq4 : G4 q = some (.lst ((ns.dropLast ++ [y / n]).map V.int)) := by rw [← hG4, upd_same, List.map_append]; rfl
          have dk4 : Dk a q (c + 1) G4 := ⟨D.ne, ⟨b, hb0, hb1, by rw [ha4]; rfl⟩, ⟨_, by rw [List.length_append]; show _ + 1 ≤ 63; omega, hq4⟩⟩
          refine ⟨_, rfl, .inl ⟨_, rfl, _, rfl, _, _, rfl, rfl, hn0, ?_⟩⟩
          exact kQ _ _ (Int.emod_nonneg _ (by omega)) (Int.emod_lt_of_pos _ hn0) o4 ⟨c + 1, by omega, dk4⟩
        · exact ⟨_, rfl, _, rfl, _, _, rfl, rfl, _, some (.int y), rfl, o3, dk3⟩
    · rintro σ H' ⟨z, y, rfl, o5, D5⟩
      obtain ⟨b5, hb0', hb1', hA5⟩ := D5.top
      refine ⟨_, rfl, .inl ⟨_, rfl, _, _, rfl, rfl, (by show (0:Int) < _; decide), _, _, rfl, rfl, .inr ⟨by omega, by omega⟩, _, _, rfl, rfl, (by show (0:Int) < _; decide), ?_⟩⟩
      refine ⟨_, rfl, _, rfl, _, _, rfl, rfl, .inl ⟨by omega, by omega⟩, .ref a, rfl, a, _, 2, .int ((c + 1 : Nat) : Int), rfl, rfl, sqOf hA5, rfl, _, _, rfl, rfl, .inl ⟨by omega, by omega⟩, _, _, rfl, rfl, _, _, rfl, rfl, .inl ⟨_, rfl, _, _, rfl, rfl, (by show (0:Int) < _; decide), ?_⟩⟩
      refine ⟨_, rfl, _, _, rfl, rfl, .inr ⟨by omega, by omega⟩, .inl ⟨_, rfl, _, _, rfl, rfl, (by show (0:Int) < _; decide), _, _, rfl, rfl, ⟨by omega, by omega⟩, _, rfl, _, _, rfl, rfl, hn0, ?_⟩⟩
      exact kQ _ _ (Int.emod_nonneg _ (by omega)) (Int.emod_lt_of_pos _ hn0) o5 ⟨c + 1, by omega, D5⟩
theorem ok_pick {f : Addr} {fd : FuncData} {k : Nat} (F : Fun K "_law_pick" "_law_pick" sPick f fd) (nlen : mg "len" = none) (C : Cal P w K mg base (k + 1) "_law_draw" ["_law_deck_here", "_law_below"] spDraw) :
    FnOk P w K mg base CX0 (k + 2) f fd ["_law_deck_here", "_law_some_here"] (spPick K) := by
  refine F.ok scPick (fun vs H Q E h => ?_) (fun cdv A outer s H vs Q E hr h => ?_)
  · obtain ⟨a, q, m, y, rfl, _⟩ := h; rfl
  · obtain ⟨a, q, m, y, rfl, hD, hm, h⟩ := h
    refine ⟨_, pss_one (ps_ret (pe_ix ix_seq (pv 1) (pe_cal C hr (by rfl) pass0 (pa_cons (pv 0) (pa_cons (pe_callB call_len (by rfl) nlen boot_len (pa_cons (pv 1) pa_nil)) pa_nil))) (fun _ _ => rfl))), ?_⟩
    refine ⟨y, rfl, .ref a, rfl, y, rfl, ?_⟩
    rcases h with ⟨l, xs, rfl, hS, hne, hlen, kQ⟩ | ⟨z, rfl, hne, hlen, kQ⟩
    · have hS' : SqL K H l xs := ex_l' hid_sub hS
      have hp : 0 < xs.length := List.length_pos_iff.mpr hne
      refine ⟨_, _, rfl, .inl ⟨_, hS', rfl⟩, a, q, m, _, rfl, hD, hm, by omega, by omega, fun j H' h0 h1 o D' => ?_⟩
      obtain ⟨i, rfl⟩ := Int.eq_ofNat_of_zero_le h0
      have hi : i < xs.length := by omega
      refine .inl ⟨l, xs, (i : Int), xs[i], rfl, rfl, ex_l' hid_sub (ex_l' o.hid hS), atI_nat (List.getElem?_eq_getElem hi), ?_⟩
      exact kQ i _ H' (List.getElem?_eq_getElem hi) o D'
    · refine ⟨_, _, rfl, ⟨len_sz hlen, rfl⟩, a, q, m, _, rfl, hD, hm, by omega, by omega, fun j H' h0 h1 o D' => ?_⟩
      obtain ⟨i, rfl⟩ := Int.eq_ofNat_of_zero_le h0
      have hi : i < z.cps.toList.length := by
        have e : z.cps.toList.length = z.length := by rw [Array.length_toList]; rfl
        omega
      refine .inr (.inr ⟨z, (i : Int), z.cps.toList[i], rfl, rfl, len_sz hlen, atI_nat (List.getElem?_eq_getElem hi), ?_⟩)
      exact kQ i _ H' (List.getElem?_eq_getElem hi) o D'

end
abbrev sLWord : Stmt := topS 39
theorem scLWord : FnScope ["_law_deck_here", "_law_signs", "_law_top", "_law_turn"] ["_law_deck_here", "_law_signs", "_law_top"] (defScope sLWord) := ⟨rfl, rfl, rfl, by decide +kernel, rfl, by decide +kernel, by decide +kernel⟩
abbrev sLPlan : Stmt := topS 40
theorem scLPlan : FnScope ["_law_deck_here", "_law_top", "_law_many", "_law_long", "_law_wide", "_law_ways", "_law_turn", "_law_near", "_law_goals", "_law_k"] ["_law_deck_here", "_law_top", "_law_many", "_law_long"] (defScope sLPlan) := ⟨rfl, rfl, rfl, by decide +kernel, rfl, by decide +kernel, by decide +kernel⟩
/-- a word of given signs -/
def spWord : Sp := fun vs H Q _ => ∃ (a q : Addr) (m t : Nat) (z : Str), vs = [.ref a, .str z, .int (t : Int)] ∧ Dw a q m H ∧ m + 1000 < 1000000000 ∧ t ≤ 100 ∧ z.length ≠ 0 ∧ z.length ≤ 1000 ∧
  ∀ (cs : List Nat) H', cs.length ≤ t → (∀ c ∈ cs, c ∈ z.cps.toList) → Off a q H H' → Dw a q (m + t + 1) H' → Q (.str ⟨cs.toArray⟩) H'
/-- a move: from, left word, right word, to -/
structure Mv where
  s : Nat
  l : List Nat
  r : List Nat
  t : Nat
abbrev mvD (m : Mv) : PyData := .tuple [.int m.s, .str ⟨m.l.toArray⟩, .str ⟨m.r.toArray⟩, .int m.t]
structure Plan where
  wide : Nat
  ins : List Nat
  ways : List Mv
  outs : List Nat
/-- ascending numbers below n -/
def Asc (n : Nat) (ns : List Nat) : Prop := ns.Pairwise (· < ·) ∧ ∀ x ∈ ns, x < n
structure Plan.Ok (p : Plan) (top many long : Nat) : Prop where
  w1 : 1 ≤ p.wide
  w2 : p.wide ≤ top
  i : Asc p.wide p.ins
  o : Asc p.wide p.outs
  n : p.ways.length ≤ many
  m : ∀ m ∈ p.ways, m.s < p.wide ∧ m.t < p.wide ∧ m.l.length ≤ long ∧ m.r.length ≤ long ∧ (∀ c ∈ m.l, c = 97 ∨ c = 98) ∧ ∀ c ∈ m.r, c = 97 ∨ c = 98
abbrev nats (ns : List Nat) : List PyData := ns.map fun (n : Nat) => PyData.int (n : Int)
structure PlanAt (K : PySem.W.Frag) (H : Hp) (p : Addr) (pl : Plan) : Prop where
  at' : ∃ vi vw vo : Addr, H p = some (.dK [(.inr "wide", .int (pl.wide : Int)), (.inr "in", .ref vi), (.inr "ways", .ref vw), (.inr "out", .ref vo)]) ∧
    Dq K H (.ref vi) (.tuple (nats pl.ins)) ∧ Dq K H (.ref vw) (.list (pl.ways.map mvD)) ∧ Dq K H (.ref vo) (.tuple (nats pl.outs))
theorem PlanAt.up {K : PySem.W.Frag} {H H' : Hp} {p : Addr} {pl : Plan} (h : PlanAt K H p pl) (s : Same H H') : PlanAt K H' p pl := by
  obtain ⟨vi, vw, vo, h1, h2, h3, h4⟩ := h.at'
  exact ⟨vi, vw, vo, s _ _ h1, h2.up s, h3.up s, h4.up s⟩
/-- a plan, drawn -/
def spPlan (K : PySem.W.Frag) : Sp := fun vs H Q _ => ∃ (a q : Addr) (m top many long : Nat), vs = [.ref a, .int (top : Int), .int (many : Int), .int (long : Int)] ∧ Dw a q m H ∧ m + 100000 < 1000000000 ∧ 1 ≤ top ∧ top ≤ 50 ∧ many ≤ 50 ∧ long ≤ 50 ∧
  ∀ (p : Addr) (pl : Plan) H', pl.Ok top many long → PlanAt K (hid a q H') p pl → Off a q H H' → Dw a q (m + 20000) H' → Q (.ref p) H'
theorem nats_dqAll {K : PySem.W.Frag} {H : Hp} : ∀ ns : List Nat, DqAll K H (ns.map fun (n : Nat) => V.int (n : Int)) (nats ns)
  | [] => .nil
  | n :: r => .cons (.int _) (nats_dqAll r)
section
variable {P : Program} {w : World} {K : PySem.W.Frag} {mg : Str → Option Value} {base : Heap}
theorem ok_LWord {f : Addr} {fd : FuncData} {k : Nat} (F : Fun K "_law_word" "_law_word" sLWord f fd) (nrange : mg "range" = none)  (CLDraw : Cal P w K mg base k "_law_draw" ["_law_deck_here", "_law_below"] spDraw) (CLPick : Cal P w K mg base k "_law_pick" ["_law_deck_here", "_law_some_here"] (spPick K)) : FnOk P w K mg base CX0 (k + 1) f fd ["_law_deck_here", "_law_signs", "_law_top"] spWord := by
  refine F.ok scLWord (fun vs H Q E h => ?_) (fun cdv A outer s H vs Q E hr h => ?_)
  · obtain ⟨a, q, m, t, z, rfl, _⟩ := h; rfl
  · obtain ⟨a, q, m, t, z, rfl, hD, hm, ht, hz0, hz1, kQ⟩ := h
    have hu := hr.units
    refine ⟨_, (pss_one (ps_ret (pe_join pe_str (pe_lc (own := [("_law_turn", 3)]) (g := (gName 3)) (by rfl) scLWord.nd (pi_range1 rfl nrange (pa_cons (pe_cal CLDraw hr (by rfl) pass0 (pa_cons (pv 0) (pa_cons (pe_op op_add (pv 2) pe_int) pa_nil))) pa_nil)) (blkOk_by (own := [("_law_turn", 3)]) (N := ["_law_deck_here", "_law_signs", "_law_top", "_law_turn"]) (sc := defScope sLWord) (by decide +kernel)) (fun _ _ _ _ _ => (pg_name (i := 3) scLWord.nd rfl (by first | exact Or.inl rfl | exact Or.inr rfl))) (fun _ _ _ _ _ => pts_nil) (fun _ _ _ _ _ => (pe_cal CLPick hr (by rfl) pass0 (pa_cons (pv 0) (pa_cons (pv 1) pa_nil)))))))), ?_⟩
    refine ⟨⟨_, rfl⟩, .ref a, rfl, _, rfl, _, _, rfl, rfl, a, q, m, _, rfl, hD, by omega, by omega, by omega, fun n H1 h0 h1 o1 D1 => ?_⟩
    obtain ⟨n, rfl⟩ := Int.eq_ofNat_of_zero_le h0
    have hn : n ≤ t := by omega
    refine ⟨_, rfl, by omega, by omega, fun D nD => ?_⟩
    have nH : H D = none := offNone o1 D1 nD
    have na := D1.na nD
    rw [show (n : Int).toNat = n from Int.toNat_natCast n]
    refine lc_it walk_range (LcP D (fun i H' => Off a q H H' ∧ Dw a q (m + 1 + i) H') (fun j v => ∃ c, c ∈ z.cps.toList ∧ v = some (.str ⟨#[c]⟩))) (LcP.start ⟨offUpd o1 nH, D1.upd na.1 na.2⟩) (fun _ _ _ _ => trivial) ?_ ?_
    · rintro i y H2 H3 hi ⟨ys, hl, hR, hD2, o2, D2⟩ ⟨rfl, rfl⟩
      refine ⟨rfl, ?_⟩
      dsimp only [tYes]
      refine iteT ?_
      refine ⟨.ref a, rfl, _, rfl, a, q, m + 1 + i, _, rfl, D2, by omega, .inr ⟨z, rfl, hz0, by omega, fun j c H4 hc o4 D4 => ?_⟩⟩
      have o5 := o2.trans o4
      exact lcp_some hl hR (o4 _ _ na.1 na.2 hD2) (by omega) ⟨c, List.mem_of_getElem? hc, rfl⟩ ⟨offUpd o5 nH, D4.upd na.1 na.2⟩
    rintro H2 ⟨ys, hl, hR, hD2, o2, D2⟩
    obtain ⟨cs, e1, e2, e3⟩ := rows_signs hR
    rw [e1] at hD2
    refine ⟨_, D, cs.map (fun c => (⟨#[c]⟩ : Str)), rfl, rfl, .inl (sqOf hD2), ?_, ?_⟩
    · rw [ones, List.length_map]
      show _ + _ * 0 ≤ _
      omega
    · rw [join_signs]
      exact kQ cs H2 (by omega) e3 o2 (D2.mono (by omega))
end
end KP
namespace KP
open PySem PySem.Spec PyProof.Rows L2 EL
open Evl (pss_cut)
/-- within a loop of draws: the moves so far -/
def okMv (wide long : Nat) (m : Mv) : Prop := m.s < wide ∧ m.t < wide ∧ m.l.length ≤ long ∧ m.r.length ≤ long ∧ (∀ c ∈ m.l, c = 97 ∨ c = 98) ∧ ∀ c ∈ m.r, c = 97 ∨ c = 98
theorem merge4 (x y z u : V) : mergeK [] [(.inr "wide", x), (.inr "in", y), (.inr "ways", z), (.inr "out", u)] = ([(.inr "wide", x), (.inr "in", y), (.inr "ways", z), (.inr "out", u)] : List (Key × V)) := by
  have h1 : ¬ ("wide" : Str) = "in" := by decide +kernel
  have h2 : ¬ ("wide" : Str) = "ways" := by decide +kernel
  have h3 : ¬ ("in" : Str) = "ways" := by decide +kernel
  have h4 : ¬ ("wide" : Str) = "out" := by decide +kernel
  have h5 : ¬ ("in" : Str) = "out" := by decide +kernel
  have h6 : ¬ ("ways" : Str) = "out" := by decide +kernel
  simp [mergeK, putK, h1, h2, h3, h4, h5, h6]
theorem ab_of {cs : List Nat} (h : ∀ c ∈ cs, c ∈ ("ab" : Str).cps.toList) : ∀ c ∈ cs, c = 97 ∨ c = 98 := fun c m => by
  have key : ∀ x ∈ ("ab" : Str).cps.toList, x = 97 ∨ x = 98 := by decide
  exact key c (h c m)
section
variable {P : Program} {w : World} {K : PySem.W.Frag} {mg : Str → Option Value} {base : Heap}
theorem ok_LPlan {f : Addr} {fd : FuncData} {k : Nat} (F : Fun K "_law_plan" "_law_plan" sLPlan f fd) (nrange : mg "range" = none) (ntuple : mg "tuple" = none)  (CLDraw : Cal P w K mg base k "_law_draw" ["_law_deck_here", "_law_below"] spDraw) (CLWord : Cal P w K mg base k "_law_word" ["_law_deck_here", "_law_signs", "_law_top"] spWord) : FnOk P w K mg base CX0 (k + 1) f fd ["_law_deck_here", "_law_top", "_law_many", "_law_long"] (spPlan K) := by
  refine F.ok scLPlan (fun vs H Q E h => ?_) (fun cdv A outer s H vs Q E hr h => ?_)
  · obtain ⟨a, q, m, top, many, long, rfl, _⟩ := h; rfl
  · obtain ⟨a, q, m, top, many, long, rfl, hD, hm, ht1, ht2, hmany, hlong, kQ⟩ := h
    have hu := hr.units
    refine ⟨_, (pss_cons (ps_set (i := 4) scLPlan.nd rfl (by first | exact Or.inl rfl | exact Or.inr rfl) (pe_op op_add pe_int (pe_cal CLDraw hr (by rfl) pass0 (pa_cons (pv 0) (pa_cons (pv 1) pa_nil)))))
      (pss_cons (ps_set (i := 5) scLPlan.nd rfl (by first | exact Or.inl rfl | exact Or.inr rfl) (pe_lst pa_nil))
      (pss_cons (ps_for PassesOwn.never rfl (pi_range1 rfl nrange (pa_cons (pe_cal CLDraw hr (by rfl) pass0 (pa_cons (pv 0) (pa_cons (pe_op op_add (pv 2) pe_int) pa_nil))) pa_nil)) (pg_name (i := 6) scLPlan.nd rfl (by first | exact Or.inl rfl | exact Or.inr rfl)) (pss_cons (ps_set (i := 7) scLPlan.nd rfl (by first | exact Or.inl rfl | exact Or.inr rfl) (pe_cal CLDraw hr (by rfl) pass0 (pa_cons (pv 0) (pa_cons (pv 4) pa_nil))))
      (pss_one (ps_expr (pe_bm PySem.F.plainAttrs_list PySem.F.slot_list_append PySem.F.type_list_append mt_append (pv 5) (pa_cons (pe_tup (pa_cons (pv 7) (pa_cons (pe_cal CLWord hr (by rfl) pass0 (pa_cons (pv 0) (pa_cons pe_str (pa_cons (pv 3) pa_nil)))) (pa_cons (pe_cal CLWord hr (by rfl) pass0 (pa_cons (pv 0) (pa_cons pe_str (pa_cons (pv 3) pa_nil)))) (pa_cons (pe_cal CLDraw hr (by rfl) pass0 (pa_cons (pv 0) (pa_cons (pv 4) pa_nil))) pa_nil))))) pa_nil))))))
      (pss_cons (ps_set (i := 8) scLPlan.nd rfl (by first | exact Or.inl rfl | exact Or.inr rfl) (pe_callTy call_tuple_of (by rfl) ntuple boot_tuple (pa_cons (pe_lc (own := [("_law_k", 9)]) (g := (gName 9)) (by rfl) scLPlan.nd (pi_range1 rfl nrange (pa_cons (pv 4) pa_nil)) (blkOk_by (own := [("_law_k", 9)]) (N := ["_law_deck_here", "_law_top", "_law_many", "_law_long", "_law_wide", "_law_ways", "_law_turn", "_law_near", "_law_goals", "_law_k"]) (sc := defScope sLPlan) (by decide +kernel)) (fun _ _ _ _ _ => (pg_name (i := 9) scLPlan.nd rfl (by first | exact Or.inl rfl | exact Or.inr rfl))) (fun _ _ _ _ _ => (pts_one (pt_cmpR op_eq (pe_cal CLDraw hr (by rfl) pass0 (pa_cons (pv 0) (pa_cons pe_int pa_nil))) pe_int (nomark _)))) (fun _ _ _ _ _ => (pv 9))) pa_nil)))
      (pss_one (ps_ret (pe_disp (pps_cons pe_str (pv 4) (pps_cons pe_str (pe_callTy call_tuple_of (by rfl) ntuple boot_tuple (pa_cons (pe_lc (own := [("_law_k", 9)]) (g := (gName 9)) (by rfl) scLPlan.nd (pi_range1 rfl nrange (pa_cons (pv 4) pa_nil)) (blkOk_by (own := [("_law_k", 9)]) (N := ["_law_deck_here", "_law_top", "_law_many", "_law_long", "_law_wide", "_law_ways", "_law_turn", "_law_near", "_law_goals", "_law_k"]) (sc := defScope sLPlan) (by decide +kernel)) (fun _ _ _ _ _ => (pg_name (i := 9) scLPlan.nd rfl (by first | exact Or.inl rfl | exact Or.inr rfl))) (fun _ _ _ _ _ => (pts_one (pt_cmpR op_eq (pe_cal CLDraw hr (by rfl) pass0 (pa_cons (pv 0) (pa_cons pe_int pa_nil))) pe_int (nomark _)))) (fun _ _ _ _ _ => (pv 9))) pa_nil)) (pps_cons pe_str (pv 5) (pps_cons pe_str (pv 8) pps_nil)))) rfl rfl (by simp) (by decide)))))))), ?_⟩
    refine ⟨.ref a, rfl, _, rfl, a, q, m, _, rfl, hD, by omega, by omega, by omega, fun j H1 j0 j1 o1 D1 => ⟨_, _, rfl, rfl, ?_⟩⟩
    obtain ⟨j, rfl⟩ := Int.eq_ofNat_of_zero_le j0
    show gName 4 (V.int (1 + (j : Int))) _ _ _
    rw [show (1 : Int) + (j : Int) = ((j + 1 : Nat) : Int) by omega]
    have hw2 : j + 1 ≤ top := by omega
    generalize hwd : j + 1 = wide at hw2
    have hw1 : 1 ≤ wide := by omega
    refine ⟨Nat.zero_le _, fun l nl => ?_⟩
    have nlH := offNone o1 D1 nl
    have na := D1.na nl
    have o2 : EL.Off a q H (upd H1 l (.lst [])) := offUpd o1 nlH
    have g2 : upd H1 l (.lst []) l = some (.lst []) := upd_same
    have D2 := D1.upd (o := .lst []) na.1 na.2
    generalize upd H1 l (.lst []) = H2 at o2 g2 D2 ⊢
    refine ⟨.ref a, rfl, _, rfl, _, _, rfl, rfl, a, q, _, _, rfl, D2, by omega, by omega, by omega, fun c H3 c0 c1 o3 D3 => ?_⟩
    obtain ⟨c, rfl⟩ := Int.eq_ofNat_of_zero_le c0
    have hc : c ≤ many := by omega
    refine ⟨_, rfl, by omega, by omega, ?_⟩
    rw [show (c : Int).toNat = c from Int.toNat_natCast c]
    refine for_it walk_range (fun i σ H' => ∃ y6 y7 vs ws, σ = [some (.ref a), some (.int (top : Int)), some (.int (many : Int)), some (.int (long : Int)), some (.int (wide : Int)), some (.ref l), y6, y7, none, none] ∧ Dw a q (m + 2 + 200 * i) H' ∧ EL.Off a q H H' ∧ H' l = some (.lst vs) ∧ DqAll K (hi a q l H') vs (List.map mvD ws) ∧ ws.length = i ∧ ∀ w ∈ ws, okMv wide long w)
      ⟨none, none, [], [], rfl, D3, o2.trans o3, o3 _ _ na.1 na.2 g2, .nil, rfl, fun _ m => (List.not_mem_nil m).elim⟩ (fun _ _ _ _ _ => trivial) ?_ ?_
    · rintro i y σ H4 H5 hil ⟨y6, y7, vs, ws, rfl, D4, o4, g4, A4, hws, hok⟩ ⟨rfl, rfl⟩
      have hvl : vs.length = i := by rw [A4.len, List.length_map, hws]
      refine ⟨.ref a, rfl, _, rfl, a, q, _, _, rfl, D4, by omega, by omega, by omega, fun s0 H6 s0a s0b o6 D6 => ?_⟩
      obtain ⟨s0, rfl⟩ := Int.eq_ofNat_of_zero_le s0a
      have g6 := o6 _ _ na.1 na.2 g4
      refine ⟨.ref l, rfl, .inl ⟨rfl, _, sqOf g6⟩, _, rfl, ?_⟩
      refine ⟨.ref a, rfl, _, rfl, a, q, _, long, "ab", rfl, D6, by omega, by omega, by decide, by decide, fun x1 H7 hx1 hx1c o7 D7 => ?_⟩
      refine ⟨.ref a, rfl, _, rfl, a, q, _, long, "ab", rfl, D7, by omega, by omega, by decide, by decide, fun x2 H8 hx2 hx2c o8 D8 => ?_⟩
      refine ⟨.ref a, rfl, _, rfl, a, q, _, _, rfl, D8, by omega, by omega, by omega, fun t0 H9 t0a t0b o9 D9 => ?_⟩
      obtain ⟨t0, rfl⟩ := Int.eq_ofNat_of_zero_le t0a
      have o69 := o6.trans (o7.trans (o8.trans o9))
      have O9 := o4.trans o69
      have g9 := o69 _ _ na.1 na.2 g4
      have X9 : Dx a q l _ H9 := ⟨D9, .inr ⟨na.1, na.2, _, g9⟩⟩
      refine ⟨len_sz (by show 4 ≤ 1000000; decide), fun p np => ?_⟩
      have s10 := same_upd (o := .tup [.int (s0 : Int), .str ⟨x1.toArray⟩, .str ⟨x2.toArray⟩, .int (t0 : Int)]) np
      have g10 : upd H9 p (.tup [.int (s0 : Int), .str ⟨x1.toArray⟩, .str ⟨x2.toArray⟩, .int (t0 : Int)]) p = some (.tup [.int (s0 : Int), .str ⟨x1.toArray⟩, .str ⟨x2.toArray⟩, .int (t0 : Int)]) := upd_same
      generalize upd H9 p (.tup [.int (s0 : Int), .str ⟨x1.toArray⟩, .str ⟨x2.toArray⟩, .int (t0 : Int)]) = H10 at s10 g10 ⊢
      have X10 := X9.same s10
      refine ⟨l, vs, _, rfl, rfl, s10 _ _ g9, lt_sz (by omega), ?_⟩
      refine ⟨_, _, vs ++ [.ref p], ws ++ [⟨s0, x1, x2, t0⟩], rfl, (X10.dw.upd na.1 na.2).mono (by omega), offUpd (O9.trans (.of_same s10)) nlH, upd_same, ?_, by rw [List.length_append, hws]; rfl, fun w hw => ?_⟩
      · rw [hi_upd, List.map_append]
        exact DqAll.snoc (A4.up (off_hi (o69.trans (.of_same s10)))) (.tup (stOf (hi_of X9 np g10)) (.cons (.int _) (.cons (.str _) (.cons (.str _) (.cons (.int _) .nil)))))
      · rcases List.mem_append.mp hw with hw | hw
        · exact hok w hw
        · obtain rfl : w = ⟨s0, x1, x2, t0⟩ := by simpa using hw
          exact ⟨by show s0 < wide; omega, by show t0 < wide; omega, hx1, hx2, ab_of hx1c, ab_of hx2c⟩
    · rintro σ H4 ⟨y6, y7, vs, ws, rfl, D4, o4, g4, A4, hws, hok⟩
      have hM : m + 2 + 200 * c ≤ m + 2 + 200 * 50 := by omega
      generalize m + 2 + 200 * c = M at D4 hM
      refine ⟨_, rfl, _, rfl, by omega, by omega, fun D nD => ?_⟩
      have naD := D4.na nD
      rw [show (wide : Int).toNat = wide from Int.toNat_natCast wide]
      refine lc_it walk_range (LcP D (fun i H' => EL.Off a q H4 H' ∧ Dw a q (M + i) H') (fun j v => v = none ∨ v = some (.int ((0 + j : Nat) : Int)))) (LcP.start ⟨offUpd (.refl _) nD, D4.upd (o := .lst []) naD.1 naD.2⟩) (fun _ _ _ _ => trivial) ?_ ?_
      · rintro i y H' H'' hil ⟨ys, hl, hR, hDD, oo, DD⟩ ⟨rfl, rfl⟩
        refine ⟨rfl, .ref a, rfl, a, q, _, 2, rfl, DD, by omega, by decide, by decide, fun b H5 b0 b1 o5 D5 => ⟨rfl, _, rfl, ?_⟩⟩
        have hD5 := o5 _ _ naD.1 naD.2 hDD
        by_cases hb : V.int b = V.int 0
        · rw [decide_eq_true hb]
          refine iteT ⟨_, rfl, lcp_some hl hR hD5 (by omega) (.inr (by simp)) ⟨offUpd (oo.trans o5) nD, (D5.upd naD.1 naD.2).mono (by omega)⟩⟩
        · rw [decide_eq_false hb]
          exact iteF (lcp_none hl hR hD5 (.inl rfl) ⟨oo.trans o5, D5.mono (by omega)⟩)
      rintro H5 ⟨ys, hl, hR, hDD, o5, D5⟩
      obtain ⟨os, e1, e2, e3, e4⟩ := rows_sub 0 hR
      rw [e1] at hDD
      refine ⟨D, _, rfl, .inl ⟨sqOf hDD, fun po npo => ?_⟩⟩
      have npo4 : H4 po = none := offNone o5 D5 npo
      have s6 : Same H5 (upd H5 po (.tup (os.map fun (n : Nat) => V.int (n : Int)))) := same_upd npo
      have g6 : upd H5 po (.tup (os.map fun (n : Nat) => V.int (n : Int))) po = some (.tup (os.map fun (n : Nat) => V.int (n : Int))) := upd_same
      generalize upd H5 po (.tup (os.map fun (n : Nat) => V.int (n : Int))) = H6 at s6 g6 ⊢
      have D6 := D5.same s6
      have nap := D5.na npo
      -- the dict
      refine fun pd npd => ?_
      have o46 : EL.Off a q H4 H6 := o5.trans (.of_same s6)
      have npd4 : H4 pd = none := offNone o46 D6 npd
      have nad := D6.na npd
      have s7 : Same H6 (upd H6 pd (.dK [])) := same_upd npd
      have g7 : upd H6 pd (.dK []) pd = some (.dK []) := upd_same
      generalize upd H6 pd (.dK []) = H7 at s7 g7 ⊢
      have D7 := D6.same s7
      refine ⟨_, rfl, _, rfl, _, rfl, by omega, by omega, fun D' nD' => ?_⟩
      have naD' := D7.na nD'
      rw [show (wide : Int).toNat = wide from Int.toNat_natCast wide]
      refine lc_it walk_range (LcP D' (fun i H' => EL.Off a q H7 H' ∧ Dw a q ((M + wide) + i) H') (fun j v => v = none ∨ v = some (.int ((0 + j : Nat) : Int)))) (LcP.start ⟨offUpd (.refl _) nD', D7.upd (o := .lst []) naD'.1 naD'.2⟩) (fun _ _ _ _ => trivial) ?_ ?_
      · rintro i y H' H'' hil ⟨ys, hl, hR, hDD, oo, DD⟩ ⟨rfl, rfl⟩
        refine ⟨rfl, .ref a, rfl, a, q, _, 2, rfl, DD, by omega, by decide, by decide, fun b H5 b0 b1 o5 D5 => ⟨rfl, _, rfl, ?_⟩⟩
        have hD5 := o5 _ _ naD'.1 naD'.2 hDD
        by_cases hb : V.int b = V.int 0
        · rw [decide_eq_true hb]
          refine iteT ⟨_, rfl, lcp_some hl hR hD5 (by omega) (.inr (by simp)) ⟨offUpd (oo.trans o5) nD', (D5.upd naD'.1 naD'.2).mono (by omega)⟩⟩
        · rw [decide_eq_false hb]
          exact iteF (lcp_none hl hR hD5 (.inl rfl) ⟨oo.trans o5, D5.mono (by omega)⟩)
      rintro H8 ⟨ys', hl', hR', hDD', o8, D8⟩
      obtain ⟨is, f1, f2, f3, f4⟩ := rows_sub 0 hR'
      rw [f1] at hDD'
      refine ⟨D', _, rfl, .inl ⟨sqOf hDD', fun pi npi => ?_⟩⟩
      have s9 : Same H8 (upd H8 pi (.tup (is.map fun (n : Nat) => V.int (n : Int)))) := same_upd npi
      have g9 : upd H8 pi (.tup (is.map fun (n : Nat) => V.int (n : Int))) pi = some (.tup (is.map fun (n : Nat) => V.int (n : Int))) := upd_same
      have napi := D8.na npi
      generalize upd H8 pi (.tup (is.map fun (n : Nat) => V.int (n : Int))) = H9 at s9 g9 ⊢
      have D9 := D8.same s9
      have o79 : EL.Off a q H7 H9 := o8.trans (.of_same s9)
      have g79 := o79 _ _ nad.1 nad.2 g7
      refine ⟨_, rfl, _, rfl, g79, [(.inr "wide", .int (wide : Int)), (.inr "in", .ref pi), (.inr "ways", .ref l), (.inr "out", .ref po)], rfl, by simp, ?_⟩
      rw [merge4]
      have hO : EL.Off a q H (upd H9 pd (.dK [(.inr "wide", .int (wide : Int)), (.inr "in", .ref pi), (.inr "ways", .ref l), (.inr "out", .ref po)])) := offUpd (o4.trans (o46.trans ((EL.Off.of_same s7).trans o79))) (offNone o4 D4 npd4)
      have oz : ∀ b o, b ≠ a → b ≠ q → b ≠ pd → H9 b = some o → upd H9 pd (.dK [(.inr "wide", .int (wide : Int)), (.inr "in", .ref pi), (.inr "ways", .ref l), (.inr "out", .ref po)]) b = some o := fun b o _ _ h3 h => by rw [upd_ne h3]; exact h
      have hid9 : ∀ (b : Addr) (o : HO), b ≠ a → b ≠ q → b ≠ pd → H9 b = some o → hid a q (upd H9 pd (.dK [(.inr "wide", .int (wide : Int)), (.inr "in", .ref pi), (.inr "ways", .ref l), (.inr "out", .ref po)])) b = some o := fun b o h1 h2 h3 h => by rw [hid_ne h1 h2]; exact oz b o h1 h2 h3 h
      have gpo : H9 po = some (.tup (os.map fun (n : Nat) => V.int (n : Int))) := o79 _ _ nap.1 nap.2 (s7 _ _ g6)
      have gl : H9 l = some (.lst vs) := o79 _ _ na.1 na.2 (s7 _ _ (o46 _ _ na.1 na.2 g4))
      have npo' : po ≠ pd := ne_of_none g6 npd
      have nl' : l ≠ pd := ne_of_none (o46 _ _ na.1 na.2 g4) npd
      have npi' : pi ≠ pd := fun e => by rw [e] at npi; rw [o8 _ _ nad.1 nad.2 g7] at npi; cases npi
      refine kQ pd ⟨wide, is, ws, os⟩ _ ⟨hw1, hw2, ⟨f2, fun x m => by have := f3 x m; show x < wide; omega⟩, ⟨e2, fun x m => by have := e3 x m; show x < wide; omega⟩, by show ws.length ≤ many; omega, hok⟩
        ⟨pi, l, po, hid_ne (H := upd H9 pd _) nad.1 nad.2 ▸ upd_same, .tup (stOf (hid9 _ _ napi.1 napi.2 npi' g9)) (nats_dqAll is), .lst (sqOf (hid9 _ _ na.1 na.2 nl' gl)) ?_, .tup (stOf (hid9 _ _ nap.1 nap.2 npo' gpo)) (nats_dqAll os)⟩ hO ((D9.upd nad.1 nad.2).mono (by omega))
      refine A4.up fun b o hb => ?_
      obtain ⟨_, _, hb2⟩ := hid_some hb
      obtain ⟨h1, h2, h3⟩ := hid_some hb2
      have h6 := o46 b o h1 h2 h3
      exact hid9 b o h1 h2 (ne_of_none h6 npd) (o79 b o h1 h2 (s7 _ _ h6))

end
end KP
namespace KP
open PySem PySem.Spec PyProof.Rows L2 EL
open Evl (pss_cut)
abbrev sLCode : Stmt := topS 41
theorem scLCode : FnScope ["_law_w"] ["_law_w"] (defScope sLCode) := ⟨rfl, rfl, rfl, by decide +kernel, rfl, by decide +kernel, by decide +kernel⟩
theorem ascI_pair : ∀ {ns : List Nat}, ns.Pairwise (· < ·) → ascI ((nats ns).map intOf) = true
  | [], _ => rfl
  | [_], _ => rfl
  | a :: b :: r, h => by
    have h1 : a < b := (List.pairwise_cons.mp h).1 b List.mem_cons_self
    have ih := ascI_pair (ns := b :: r) (List.pairwise_cons.mp h).2
    simp only [List.map_cons, intOf, ascI] at ih ⊢
    rw [ih, Bool.and_true]
    exact decide_eq_true (by exact_mod_cast h1)
theorem states_ok {n : Nat} {ns : List Nat} (h : Asc n ns) : statesD n (.tuple (nats ns)) = true := by
  simp only [statesD, Bool.and_eq_true]
  refine ⟨List.all_eq_true.mpr fun d m => ?_, ascI_pair h.1⟩
  obtain ⟨x, hx, rfl⟩ := List.mem_map.mp m
  have := h.2 x hx
  simp only [stateD, Bool.and_eq_true, decide_eq_true_eq]
  omega
theorem ab_text {cs : List Nat} (h : ∀ c ∈ cs, c = 97 ∨ c = 98) : isTextD (.str ⟨cs.toArray⟩) = true := by
  show cs.all isLow = true
  refine List.all_eq_true.mpr fun c m => ?_
  rcases h c m with rfl | rfl <;> decide
theorem moves_ok {n long : Nat} {ms : List Mv} (h : ∀ m ∈ ms, okMv n long m) : movesD n (.tuple (ms.map mvD)) = true := by
  simp only [movesD]
  refine List.all_eq_true.mpr fun d m => ?_
  obtain ⟨x, hx, rfl⟩ := List.mem_map.mp m
  obtain ⟨h1, h2, _, _, h5, h6⟩ := h x hx
  simp only [moveD, stateD, ab_text h5, ab_text h6, Bool.and_eq_true, decide_eq_true_eq]
  refine ⟨⟨?_, ?_⟩, trivial, trivial, ?_, ?_⟩ <;> omega
theorem nats_bulk : ∀ ns : List Nat, PyData.bulkAll (nats ns) ≤ 10 * ns.length
  | [] => by simp [PyData.bulkAll]
  | n :: r => by
    have : PyData.bulkAll (r.map fun (n : Nat) => PyData.int (n : Int)) ≤ 10 * r.length := nats_bulk r
    simp only [List.map_cons, PyData.bulkAll, PyData.bulk, List.length_cons]; omega
theorem moves_bulk {n long : Nat} (hl : long ≤ 50) : ∀ {ms : List Mv}, (∀ m ∈ ms, okMv n long m) → PyData.bulkAll (ms.map mvD) ≤ 200 * ms.length
  | [], _ => by simp [PyData.bulkAll]
  | m :: r, h => by
    have ih := moves_bulk hl (ms := r) fun x hx => h x (List.mem_cons_of_mem _ hx)
    obtain ⟨_, _, h3, h4, _, _⟩ := h m List.mem_cons_self
    have e1 : (PyData.str ⟨m.l.toArray⟩).bulk = m.l.length := by simp [PyData.bulk, Str.length]
    have e2 : (PyData.str ⟨m.r.toArray⟩).bulk = m.r.length := by simp [PyData.bulk, Str.length]
    have e0 : (mvD m).bulk ≤ 150 := by
      show PyData.bulkAll [_, _, _, _] ≤ 150
      simp only [PyData.bulkAll, e1, e2]
      simp only [PyData.bulk]; omega
    simp only [List.map_cons, PyData.bulkAll, List.length_cons]; omega
theorem asc_len {n : Nat} {ns : List Nat} (h : Asc n ns) : ns.length ≤ n := by
  have key : ∀ (k : Nat) (ns : List Nat), ns.Pairwise (· < ·) → (∀ x ∈ ns, k ≤ x) → (∀ x ∈ ns, x < n) → ns.length ≤ n - k := by
    intro k ns
    induction ns generalizing k with
    | nil => intros; simp
    | cons a r ih =>
      intro h1 h2 h3
      have := ih (a + 1) (List.pairwise_cons.mp h1).2 (fun x m => (List.pairwise_cons.mp h1).1 x m) fun x m => h3 x (List.mem_cons_of_mem _ m)
      have h4 := h2 a List.mem_cons_self
      have h5 := h3 a List.mem_cons_self
      rw [List.length_cons]; omega
  have := key 0 ns h.1 (fun _ _ => Nat.zero_le _) h.2
  omega
/-- a pacer of a plan -/
structure PacAt (K : PySem.W.Frag) (C : Addr) (H : Hp) (x : Addr) (pl : Plan) : Prop where
  at' : ∃ dx vb vm ve : Addr, H x = some (.ins C dx (pf (pl.wide : Int) (.ref vb) (.ref vm) (.ref ve))) ∧ Dq K H (.ref vb) (.tuple (nats pl.ins)) ∧ Dq K H (.ref vm) (.tuple (pl.ways.map mvD)) ∧ Dq K H (.ref ve) (.tuple (nats pl.outs))
theorem PacAt.up {K : PySem.W.Frag} {C : Addr} {H H' : Hp} {x : Addr} {pl : Plan} (h : PacAt K C H x pl) (s : Same H H') : PacAt K C H' x pl := by
  obtain ⟨dx, vb, vm, ve, h1, h2, h3, h4⟩ := h.at'
  exact ⟨dx, vb, vm, ve, s _ _ h1, h2.up s, h3.up s, h4.up s⟩
/-- the class, callable -/
structure CalC (P : Program) (w : World) (K : PySem.W.Frag) (mg : Str → Option Value) (base : Heap) (k : Nat) (C : Addr) where
  f : Addr
  fd : FuncData
  mke : Mk K C f
  ok : FnOk P w K mg base CX0 k f fd ["self", "size", "begins", "moves", "ends"] (spPInit K C)
  g : mg "Pacer" = some (.ref C)
  b : Binds K fd ["self", "size", "begins", "moves", "ends"] []
/-- a pacer made of a plan -/
def spCode (K : PySem.W.Frag) (C : Addr) : Sp := fun vs H Q _ => ∃ (p : Addr) (pl : Plan) (top many long : Nat), vs = [.ref p] ∧ PlanAt K H p pl ∧ pl.Ok top many long ∧ top ≤ 50 ∧ many ≤ 50 ∧ long ≤ 50 ∧
  ∀ x H', Same H H' → H x = none → PacAt K C H' x pl → Q (.ref x) H'
section
variable {P : Program} {w : World} {K : PySem.W.Frag} {mg : Str → Option Value} {base : Heap}
theorem ok_LCode {f C : Addr} {fd : FuncData} {k : Nat} (F : Fun K "_law_code" "_law_code" sLCode f fd) (ntuple : mg "tuple" = none) (CC : CalC P w K mg base k C) : FnOk P w K mg base CX0 (k + 2) f fd ["_law_w"] (spCode K C) := by
  refine F.ok scLCode (fun vs H Q E h => ?_) (fun cdv A outer s H vs Q E hr h => ?_)
  · obtain ⟨p, pl, top, many, long, rfl, _⟩ := h; rfl
  · obtain ⟨p, pl, top, many, long, rfl, hP, hO, h1, h2, h3, kQ⟩ := h
    have hu := hr.units
    have hu1 : (A.deeper (envOfC "_law_code" (defScope sLCode) s.heap.objs.size f cdv)).units + 1 < cLine := by omega
    refine ⟨_, (pss_one (ps_ret (pe_make CC.mke CC.ok hr (by rfl) CC.g CC.b .nil pass0 (pa_cons (pe_dget hu1 (pv 0) pe_str (fun _ _ => rfl)) (pa_cons (pe_dget hu1 (pv 0) pe_str (fun _ _ => rfl)) (pa_cons (pe_callTy call_tuple_of (by rfl) ntuple boot_tuple (pa_cons (pe_dget hu1 (pv 0) pe_str (fun _ _ => rfl)) pa_nil)) (pa_cons (pe_dget hu1 (pv 0) pe_str (fun _ _ => rfl)) pa_nil))))))), ?_⟩
    obtain ⟨vi, vw, vo, e1, e2, e3, e4⟩ := hP.at'
    have n1 : ¬ ("wide" : Str) = "in" := by decide +kernel
    have n2 : ¬ ("wide" : Str) = "ways" := by decide +kernel
    have n3 : ¬ ("in" : Str) = "ways" := by decide +kernel
    have n4 : ¬ ("wide" : Str) = "out" := by decide +kernel
    have n5 : ¬ ("in" : Str) = "out" := by decide +kernel
    have n6 : ¬ ("ways" : Str) = "out" := by decide +kernel
    have g1 : DGet H p (kV (.inr "wide")) (some (.int (pl.wide : Int))) := by
      have := DGet.k (k := .inr "wide") e1
      simpa [valV] using this
    have g2 : DGet H p (kV (.inr "in")) (some (.ref vi)) := by
      have := DGet.k (k := .inr "in") e1
      simpa [valV, n1] using this
    have g3 : DGet H p (kV (.inr "ways")) (some (.ref vw)) := by
      have := DGet.k (k := .inr "ways") e1
      simpa [valV, n2, n3] using this
    refine ⟨_, rfl, p, _, rfl, g1, _, rfl, p, _, rfl, g2, _, rfl, p, _, rfl, g3, ?_⟩
    obtain ⟨xs, hxs, hxa⟩ : ∃ xs, SqL K H vw xs ∧ DqAll K H xs (pl.ways.map mvD) := by
      cases e3 with
      | lst hs ha => exact ⟨_, hs, ha⟩
    refine ⟨vw, xs, rfl, .inl ⟨hxs, fun l nl => ?_⟩⟩
    have s1 : Same H (upd H l (.tup xs)) := same_upd nl
    have gl : upd H l (.tup xs) l = some (.tup xs) := upd_same
    generalize upd H l (.tup xs) = H1 at s1 gl ⊢
    have g4 : DGet H1 p (kV (.inr "out")) (some (.ref vo)) := by
      have := DGet.k (k := .inr "out") (s1 _ _ e1)
      simpa [valV, n4, n5, n6] using this
    refine ⟨_, rfl, p, _, rfl, g4, ?_⟩
    intro x dx nx ndx nex
    have s2 : Same H1 (upd (upd H1 dx (.own x)) x (.ins C dx [])) := fun b o e => by
      rw [upd_ne (ne_of_none e nx), upd_ne (ne_of_none e ndx)]; exact e
    have gx : upd (upd H1 dx (.own x)) x (.ins C dx []) x = some (.ins C dx []) := upd_same
    generalize upd (upd H1 dx (.own x)) x (.ins C dx []) = H2 at s2 gx ⊢
    have d1 : Dq K H2 (.ref vi) (.tuple (nats pl.ins)) := (e2.up s1).up s2
    have d2 : Dq K H2 (.ref l) (.tuple (pl.ways.map mvD)) := .tup (stOf (s2 _ _ gl)) ((hxa.up s1).up s2)
    have d3 : Dq K H2 (.ref vo) (.tuple (nats pl.outs)) := (e4.up s1).up s2
    have b1 := asc_len hO.i
    have b2 := asc_len hO.o
    have w2 := hO.w2
    have nn := hO.n
    refine ⟨x, dx, (pl.wide : Int), .ref vi, .ref l, .ref vo, _, _, _, rfl, gx, d1, d2, d3, ?_, ?_, ?_, by have := hO.w1; omega, states_ok hO.i, moves_ok hO.m, states_ok hO.o, fun H3 keep g => ⟨rfl, ?_⟩⟩
    · show PyData.bulkAll _ ≤ 500000
      have := nats_bulk pl.ins; omega
    · show PyData.bulkAll _ ≤ 500000
      have := moves_bulk h3 hO.m; omega
    · show PyData.bulkAll _ ≤ 500000
      have := nats_bulk pl.outs; omega
    · have nxH : H x = none := s1.free nx
      -- what stood before is kept: nothing of it is x
      have s13 : Same H1 H3 := fun b o e => keep b o (ne_of_none e nx) (s2 b o e)
      refine kQ x H3 (s1.trans s13) nxH ⟨dx, vi, l, vo, g, (e2.up s1).up s13, .tup (stOf (s13 _ _ gl)) ((hxa.up s1).up s13), (e4.up s1).up s13⟩
end
end KP
namespace KP
open PySem PySem.Spec PyProof.Rows L2 EL
theorem dq_mv {K : PySem.W.Frag} {H : Hp} {v : V} {m : Mv} (h : Dq K H v (mvD m)) : ∃ a, v = .ref a ∧ SqT K H a [.int (m.s : Int), .str ⟨m.l.toArray⟩, .str ⟨m.r.toArray⟩, .int (m.t : Int)] := by
  cases h with
  | tup hs ha =>
    cases ha with
    | cons h1 ha =>
      cases ha with
      | cons h2 ha =>
        cases ha with
        | cons h3 ha =>
          cases ha with
          | cons h4 ha =>
            cases ha; cases h1; cases h2; cases h3; cases h4
            exact ⟨_, rfl, hs⟩
theorem pf_b (n : Int) (b m e : V) : (pf n b m e).lookup ("begins" : Str) = some b := by
  have h1 : (("begins" : Str) == "size") = false := by decide +kernel
  simp [pf, List.lookup, h1]
theorem pf_m (n : Int) (b m e : V) : (pf n b m e).lookup ("moves" : Str) = some m := by
  have h1 : (("moves" : Str) == "size") = false := by decide +kernel
  have h2 : (("moves" : Str) == "begins") = false := by decide +kernel
  simp [pf, List.lookup, h1, h2]
theorem pf_e (n : Int) (b m e : V) : (pf n b m e).lookup ("ends" : Str) = some e := by
  have h1 : (("ends" : Str) == "size") = false := by decide +kernel
  have h2 : (("ends" : Str) == "begins") = false := by decide +kernel
  have h3 : (("ends" : Str) == "moves") = false := by decide +kernel
  simp [pf, List.lookup, h1, h2, h3]
end KP
namespace KP
open PySem PySem.Spec PyProof.Rows L2 EL
open Evl (pss_cut)

theorem scPacerEq : FnScope ["self", "other"] ["self", "other"] (defScope sPacerEq) := ⟨rfl, rfl, rfl, by decide +kernel, rfl, by decide +kernel, by decide +kernel⟩
/-- plans alike, part by part -/
def peq (a b : Plan) : Bool := decide (V.int (a.wide : Int) = V.int (b.wide : Int)) && (PyData.eqv (.tuple (nats a.ins)) (.tuple (nats b.ins)) && (PyData.eqv (.tuple (a.ways.map mvD)) (.tuple (b.ways.map mvD)) && PyData.eqv (.tuple (nats a.outs)) (.tuple (nats b.outs))))
/-- texts of small letters alone, for ==: signs below 128 -/
def AscP (p : Plan) : Prop := ∀ m ∈ p.ways, (∀ c ∈ m.l, c < 128) ∧ ∀ c ∈ m.r, c < 128
theorem nats_lay : ∀ ns : List Nat, PyData.canLayAll0 (nats ns) = true ∧ PyData.depthAll (nats ns) = 0 ∧ PyData.hasDictAll (nats ns) = false
  | [] => by simp [PyData.canLayAll0, PyData.depthAll, PyData.hasDictAll]
  | n :: r => by
    obtain ⟨h1, h2, h3⟩ : PyData.canLayAll0 (r.map fun (n : Nat) => PyData.int (n : Int)) = true ∧ PyData.depthAll (r.map fun (n : Nat) => PyData.int (n : Int)) = 0 ∧ PyData.hasDictAll (r.map fun (n : Nat) => PyData.int (n : Int)) = false := nats_lay r
    simp only [List.map_cons, PyData.canLayAll0, PyData.canLay0, PyData.depthAll, PyData.depth, PyData.hasDictAll, PyData.hasDict, h1, h2, h3]
    exact ⟨rfl, rfl, rfl⟩
theorem shaped_nats (ns : List Nat) : SeqAt.shaped (.tuple (nats ns)) = true := by
  obtain ⟨h1, h2, _⟩ := nats_lay ns
  simp only [SeqAt.shaped, PyData.canLay0, PyData.depth, h1, h2]; rfl
theorem strOk_codes {cs : List Nat} (h : ∀ c ∈ cs, c < 128) : PyData.strOk ⟨cs.toArray⟩ = true := by
  unfold PyData.strOk
  rw [Array.all_eq_true_iff_forall_mem]
  intro c hc
  have := h c (by simpa using hc)
  exact decide_eq_true (by omega)
theorem moves_lay : ∀ ms : List Mv, (∀ m ∈ ms, (∀ c ∈ m.l, c < 128) ∧ ∀ c ∈ m.r, c < 128) → PyData.canLayAll0 (ms.map mvD) = true ∧ PyData.depthAll (ms.map mvD) ≤ 1 ∧ PyData.hasDictAll (ms.map mvD) = false
  | [], _ => by simp [PyData.canLayAll0, PyData.depthAll, PyData.hasDictAll]
  | m :: r, h => by
    obtain ⟨h1, h2, h3⟩ := moves_lay r fun x hx => h x (List.mem_cons_of_mem _ hx)
    obtain ⟨a1, a2⟩ := h m List.mem_cons_self
    have b1 := strOk_codes a1
    have b2 := strOk_codes a2
    simp only [List.map_cons, PyData.canLayAll0, PyData.canLay0, PyData.depthAll, PyData.depth, PyData.hasDictAll, PyData.hasDict, h1, h3, b1, b2]
    refine ⟨rfl, by omega, rfl⟩
theorem shaped_moves {ms : List Mv} (h : ∀ m ∈ ms, (∀ c ∈ m.l, c < 128) ∧ ∀ c ∈ m.r, c < 128) : SeqAt.shaped (.tuple (ms.map mvD)) = true := by
  obtain ⟨h1, h2, _⟩ := moves_lay ms h
  simp only [SeqAt.shaped, PyData.canLay0, PyData.depth, h1, Bool.true_and]
  exact decide_eq_true (by omega)
def spEq (K : PySem.W.Frag) (C : Addr) : Sp := fun vs H Q _ => ∃ (p r : Addr) (a b : Plan), vs = [.ref p, .ref r] ∧ PacAt K C H p a ∧ PacAt K C H r b ∧ AscP a ∧ AscP b ∧ Q (.bl (peq a b)) H
theorem pf_s (n : Int) (b m e : V) : (pf n b m e).lookup ("size" : Str) = some (.int n) := by
  simp [pf, List.lookup]
mutual
theorem dp_of {K : PySem.W.Frag} {H : Hp} : ∀ (d : PyData) (v : V), Dq K H v d → d.hasDict = false → Dp K H v d
  | .none, _, h, _ => by cases h; exact .non
  | .bool b, _, h, _ => by cases h; exact .bl b
  | .int i, _, h, _ => by cases h; exact .int i
  | .str x, _, h, _ => by cases h; exact .str x
  | .list ds, _, h, n => by
    cases h with
    | lst hs ha => exact .lst hs (dpAll_of ds _ ha (by simpa [PyData.hasDict] using n))
  | .tuple ds, _, h, n => by
    cases h with
    | tup hs ha => exact .tup hs (dpAll_of ds _ ha (by simpa [PyData.hasDict] using n))
  | .dict _, _, h, n => by simp [PyData.hasDict] at n
theorem dpAll_of {K : PySem.W.Frag} {H : Hp} : ∀ (ds : List PyData) (vs : List V), DqAll K H vs ds → PyData.hasDictAll ds = false → DpAll K H vs ds
  | [], _, h, _ => by cases h; exact .nil
  | d :: ds, _, h, n => by
    cases h with
    | cons h1 h2 =>
      obtain ⟨n1, n2⟩ : d.hasDict = false ∧ PyData.hasDictAll ds = false := by simpa [PyData.hasDictAll] using n
      exact .cons (dp_of d _ h1 n1) (dpAll_of ds _ h2 n2)
end
section
variable {P : Program} {w : World} {K : PySem.W.Frag} {mg : Str → Option Value} {base : Heap}
theorem ok_PacerEq {f C : Addr} {fd : FuncData} {k : Nat} (F : Fun K "__eq__" "Pacer.__eq__" sPacerEq f fd) (T : PTxt K C) (nisinstance : mg "isinstance" = none) (gC : mg "Pacer" = some (.ref C)) (kC : PySem.W.kitOne K (.ref C) (.ref C) = some true) (hT : ∀ (H : Hp) (a dx : Addr) (fs : List (Str × V)), H a = some (.ins C dx fs) → TyOf K H (.ref a) (.ref C)) : FnOk P w K mg base CX0 (k + 1) f fd ["self", "other"] (spEq K C) := by
  refine F.ok scPacerEq (fun vs H Q E h => ?_) (fun cdv A outer s H vs Q E hr h => ?_)
  · obtain ⟨p, r, a, b, rfl, _⟩ := h; rfl
  · obtain ⟨p, r, a, b, rfl, hP, hR, ha, hb, q⟩ := h
    have hu := hr.units
    refine ⟨_, (pss_one (ps_ret (pe_and (pe_callB call_isi (by rfl) nisinstance boot_isinstance (pa_cons (pv 1) (pa_cons (pe_glob rfl gC (show RelV (.ref C) (.ref C) from rfl)) pa_nil))) (pe_and (pe_cmpR op_eq (pe_fld (pv 0) rfl) (pe_fld (pv 1) rfl) (nomark _)) (pe_and (pe_cmpR (op_eqD hu) (pe_fld (pv 0) rfl) (pe_fld (pv 1) rfl) (nomark _)) (pe_and (pe_cmpR (op_eqD hu) (pe_fld (pv 0) rfl) (pe_fld (pv 1) rfl) (nomark _)) (pe_one (pe_cmpR (op_eqD hu) (pe_fld (pv 0) rfl) (pe_fld (pv 1) rfl) (nomark _))))))))), ?_⟩
    obtain ⟨dx, vb, vm, ve, e1, e2, e3, e4⟩ := hP.at'
    obtain ⟨dy, ub, um, ue, f1, f2, f3, f4⟩ := hR.at'
    refine ⟨.ref r, rfl, .ref r, .ref C, _, _, true, rfl, .own C, .base (hT H r dy _ f1), kC, _, rfl, iteT ?_⟩
    refine ⟨_, rfl, p, C, dx, _, _, rfl, e1, T.cl, T.nS, pf_s _ _ _ _, _, rfl, r, C, dy, _, _, rfl, f1, T.cl, T.nS, pf_s _ _ _ _, rfl, _, rfl, ?_⟩
    unfold peq at q
    cases c1 : decide (V.int (a.wide : Int) = V.int (b.wide : Int)) with
    | false => rw [c1] at q; exact iteF q
    | true =>
    rw [c1] at q
    have nd : ∀ ns : List Nat, (PyData.tuple (nats ns)).hasDict = false := fun ns => by simpa only [PyData.hasDict] using (nats_lay ns).2.2
    refine iteT ⟨_, rfl, p, C, dx, _, _, rfl, e1, T.cl, T.nB, pf_b _ _ _ _, _, rfl, r, C, dy, _, _, rfl, f1, T.cl, T.nB, pf_b _ _ _ _, _, _, dp_of _ _ e2 (nd _), dp_of _ _ f2 (nd _), shaped_nats _, shaped_nats _, _, rfl, ?_⟩
    cases c2 : PyData.eqv (.tuple (nats a.ins)) (.tuple (nats b.ins)) with
    | false => rw [c2] at q; exact iteF q
    | true =>
    rw [c2] at q
    refine iteT ⟨_, rfl, p, C, dx, _, _, rfl, e1, T.cl, T.nM, pf_m _ _ _ _, _, rfl, r, C, dy, _, _, rfl, f1, T.cl, T.nM, pf_m _ _ _ _, _, _, dp_of _ _ e3 (by simpa only [PyData.hasDict] using (moves_lay _ ha).2.2), dp_of _ _ f3 (by simpa only [PyData.hasDict] using (moves_lay _ hb).2.2), shaped_moves ha, shaped_moves hb, _, rfl, ?_⟩
    cases c3 : PyData.eqv (.tuple (a.ways.map mvD)) (.tuple (b.ways.map mvD)) with
    | false => rw [c3] at q; exact iteF q
    | true =>
    rw [c3] at q
    exact iteT ⟨_, rfl, p, C, dx, _, _, rfl, e1, T.cl, T.nE, pf_e _ _ _ _, _, rfl, r, C, dy, _, _, rfl, f1, T.cl, T.nE, pf_e _ _ _ _, _, _, dp_of _ _ e4 (nd _), dp_of _ _ f4 (nd _), shaped_nats _, shaped_nats _, q⟩
end
end KP
/-! {x: True for x in e}, e a list of tuples: a dict whose keys are these tuples. -/
namespace EL
open PySem PySem.Spec PyProof.Rows L2
theorem upd_upd {H : Hp} {a : Addr} {x y : HO} : L2.upd (L2.upd H a x) a y = L2.upd H a y := by
  funext b
  by_cases h : b = a
  · subst h; rw [upd_same, upd_same]
  · rw [upd_ne h, upd_ne h, upd_ne h]
/-- the dict of the first keys -/
def dT1 (ks : List (List L2.Key)) : List (List L2.Key × V) := ks.foldl (fun acc k => putK acc k (.bl true)) []
theorem dT1_snoc (ks : List (List L2.Key)) (k : List L2.Key) : dT1 (ks ++ [k]) = putK (dT1 ks) k (.bl true) := by
  unfold dT1; rw [List.foldl_append]; rfl
theorem dT1_len (ks : List (List L2.Key)) : (dT1 ks).length ≤ ks.length := by
  have key : ∀ (ks : List (List L2.Key)) (acc : List (List L2.Key × V)), (ks.foldl (fun acc k => putK acc k (.bl true)) acc).length ≤ acc.length + ks.length := by
    intro ks
    induction ks with
    | nil => intro acc; exact Nat.le_refl _
    | cons k r ih =>
      intro acc
      have h1 := ih (putK acc k (.bl true))
      have h2 := length_putK acc k (V.bl true)
      simp only [List.foldl_cons, List.length_cons]; omega
  have := key ks []
  simpa [dT1] using this
def tDcT (K : PySem.W.Frag) (te : TE) : TE := fun σ H Q => te σ H fun v H1 => ∃ (l : Addr) (vs : List V) (ks : List (List L2.Key)), v = .ref l ∧ SqL K H1 l vs ∧ vs.length = ks.length ∧ vs.length ≤ 1000000 ∧
  (∀ (j : Nat) (k : List L2.Key), ks[j]? = some k → ∃ T, vs[j]? = some (.ref T) ∧ H1 T = some (.tup (k.map kV))) ∧ ∀ D, H1 D = none → Q (.ref D) (L2.upd H1 D (.dT (dT1 ks)))
section
variable {X : Cx} {e : Expr} {te : TE} {x : Str} {scope : Scope} {p0 p1 p2 pos : Pos} {kk : Nat}
theorem dct_goes {pins : List (Addr × Obj)} {σ : L2.St} {H1 : Hp} {s1 : Shared} {l : Addr} {vs : List V} {ks : List (List L2.Key)} {use : Option (Value → Sem Unit)} {Qf : Value → Shared → Prop} (hc : X.calm = true) (hu : X.A.units + 1 < cLine) (hx : scope.names.lookup x = some .local)
    (hkind : scope.kind = .function) (hdb : (x == ("__debug__" : Str)) = false) (I1 : Inv X pins σ H1 s1) (hS : SqL X.K H1 l vs) (hlen : vs.length = ks.length) (hsz : vs.length ≤ 1000000)
    (hk : ∀ (j : Nat) (k : List L2.Key), ks[j]? = some k → ∃ T, vs[j]? = some (.ref T) ∧ H1 T = some (.tup (k.map kV)))
    (fin : ∀ (D C : Addr) (m : Str → Option Value) (s' : Shared), H1 D = none → s'.heap.Ns C m → Inv X pins σ (L2.upd H1 D (.dT (dT1 ks))) s' → FpOk X pins (L2.upd H1 D (.dT (dT1 ks))) C → compEnds (model X.prog X.w) X.A X.xe use Qf (.ref D) (compEnvC scope [] C X.env) (.ok .next) s') :
    wpAny (model X.prog X.w) X.A (pyIter (.ref l)) (DcGoes X.prog X.w X.A X.xe X.env scope [] (.Name x p0) [] (.Name x p1) (.Constant (.bool true) kk p2) use Qf) X.xe s1 := by
  obtain ⟨its, rv, pl, hz⟩ := I1.list hS
  have hl : s1.heap.IsList l its.toArray := pl.isList
  refine wpAny_pyIter_list hl ?_
  have hh := I1.ok.hd hc
  have lI : l ≠ s1.heap.objs.size := fun e => by
    obtain ⟨o, ho, _⟩ := hl
    have := Heap.lt_size ho
    rw [e] at this
    exact Nat.lt_irrefl _ this
  have up2 : ∀ b o, s1.heap.get? b = some o → (s1.heap.push { cls := .type "list_iterator", data := .fields #[.ref l, .int 0 0] }).get? b = some o := fun b o e => Heap.get?_push_of_some _ e
  have sz2 : (s1.heap.push { cls := .type "list_iterator", data := .fields #[.ref l, .int 0 0] }).objs.size = s1.heap.objs.size + 1 := Heap.size_push ..
  generalize hI : s1.heap.objs.size = it at lI sz2 ⊢
  refine ⟨it, [it, l], [it], its.toArray.size, _, _, rfl, Goes.list hh it l lI its.toArray, ⟨⟨_, (by rw [← hI]; exact Heap.get?_push_size _ rfl), rfl, rfl⟩, ?_⟩, fun D C s3 cb hD => ?_⟩
  · obtain ⟨o, ho, hr⟩ := hl
    exact ⟨o, up2 _ _ ho, hr⟩
  have lenV : its.length = vs.length := rv.length.symm
  have nD : it + 1 ≤ D := by have := cb.newD; rw [← sz2]; exact this
  have nC : it + 1 ≤ C := by have := cb.newC; rw [← sz2]; exact this
  have old3 := cb.old
  have ns3 := cb.names
  have neDC := cb.ne
  obtain ⟨h3, tk3, rfl⟩ := cb.only
  have hD0 : H1 D = none := I1.hok.fresh (by omega)
  have hC0 : H1 C = none := I1.hok.fresh (by omega)
  have hI0 : H1 it = none := I1.hok.fresh (by omega)
  have fpI : ∀ o : HO, FpOk X pins (L2.upd H1 D o) it := fun o => I1.fpOk (by omega) (by rw [upd_ne (Nat.ne_of_lt nD)]; exact hI0)
  have fpC : ∀ o : HO, FpOk X pins (L2.upd H1 D o) C := fun o => I1.fpOk (by omega) (by rw [upd_ne neDC.symm]; exact hC0)
  refine ⟨fun i s' => ∃ m, s'.heap.Ns C m ∧ Inv X pins σ (L2.upd H1 D (.dT (dT1 (ks.take i)))) s', ⟨_, ns3, ?_⟩, ?_, ?_, ?_⟩
  · exact I1.laid (t' := tk3) (fun b o e => old3 b o (up2 b o e)) (by omega) ⟨Nat.zero_le _, beq_eq_false_iff_ne.mpr (Ne.symm (Nat.ne_of_lt (Nat.lt_of_lt_of_le I1.big (by rw [hI]; exact Nat.le_of_succ_le nD)))), [], .nil, _, #[], 0, hD, ⟨rfl, rfl, rfl⟩, rfl, rfl, List.nodup_nil⟩
  · rintro i s' h' tk ⟨m, hn, J⟩ k _
    obtain ⟨f0, f1, f2, f3, f4, f5⟩ := fpI (.dT (dT1 (ks.take i)))
    refine ⟨m, ?_, J.turned (t' := tk) (fun b o hb e => k b o (by simpa using hb) e) f0 f1 f3 f4 f5⟩
    obtain ⟨o, es, n, e, d, r⟩ := hn
    exact ⟨o, es, n, k C o (by simp only [List.mem_singleton]; exact (Nat.ne_of_lt nC).symm) e, d, r⟩
  · rintro i v s' hi hY hSt ⟨m, hn, J⟩
    have hi2 : i < ks.length := by rw [List.size_toArray, lenV, hlen] at hi; exact hi
    obtain ⟨T, hT1, hT2⟩ := hk i _ (List.getElem?_eq_getElem hi2)
    obtain ⟨u, hu1, hu2⟩ := rv.get hT1
    have ev : v = .ref T := by
      have e1 : its[i]? = some v := by simpa using hY
      rw [e1] at hu1
      cases hu1
      exact hu2
    subst ev
    have hk' : (compEnvC scope [] C X.env).scope.kind = .function := by simp [compEnvC, relabel, hkind]
    have lk : Env.kindOf (compEnvC scope [] C X.env) x = some .local := lookup_relabel_local hx
    refine wpAny_assign_Name (wpAny_storeName_local (m := m) (hp := by rw [hk']; rfl) lk hn fun h' hn' sb => ?_)
    obtain ⟨f0, f1, f2, f3, f4, f5⟩ := fpC (.dT (dT1 (ks.take i)))
    have J2 := J.turned (t' := s'.toks + 1) (fun b o hb e => (sb.2 b hb).trans e) f0 f1 f3 f4 f5
    refine wpAny_pure ?_
    rw [if_pos rfl]
    refine wpAny_Name (wpAny_loadName_local hk' lk hn' (if_pos rfl) ?_) hdb
    refine wpAny_Constant_bool ?_
    have eD : L2.upd H1 D (.dT (dT1 (ks.take i))) D = some (.dT (dT1 (ks.take i))) := upd_same
    obtain ⟨zz, hd, xs, rel, dd⟩ := dt_of J2.hok eD
    have hz' : xs.length ≤ sizeLine := by rw [← Paired.length rel]; exact zz
    have neT : T ≠ D := ne_of_none hT2 hD0
    have eb : L2.upd H1 D (.dT (dT1 (ks.take i))) T = some (.tup (ks[i].map kV)) := by rw [upd_ne neT]; exact hT2
    have hl2 : (putK (dT1 (ks.take i)) ks[i] (V.bl true)).length ≤ sizeLine := by
      have h1 := length_putK (dT1 (ks.take i)) ks[i] (V.bl true)
      have h2 := dT1_len (ks.take i)
      rw [List.length_take] at h2
      exact Nat.le_trans h1 (lt_sz (by omega))
    have ksn : dT1 (ks.take (i + 1)) = putK (dT1 (ks.take i)) ks[i] (.bl true) := by
      rw [List.take_add_one, List.getElem?_eq_getElem hi2]
      exact dT1_snoc _ _
    have llt : l < it := by
      obtain ⟨o, ho, _⟩ := hl
      rw [← hI]; exact Heap.lt_size ho
    have itC : it ≠ C := Nat.ne_of_lt nC
    have itD : it ≠ D := Nat.ne_of_lt nD
    have lC : l ≠ C := Nat.ne_of_lt (Nat.lt_trans llt nC)
    have lD : l ≠ D := Nat.ne_of_lt (Nat.lt_trans llt nD)
    refine wpAny_dictSet_heap (hsz := hz') (show X.A.units < cLine by omega) (key_of J2.hok eb) dd fun h4 dd' sb2 => ?_
    have keep4 : ∀ b o, b ≠ C → b ≠ D → s'.heap.get? b = some o → h4.get? b = some o := fun b o h1 h2 e => (sb2.2 b h2).trans ((sb.2 b h1).trans e)
    refine ⟨⟨fun x' => if x' = x then some (.ref T) else m x', ?_, ?_⟩, ?_, ?_⟩
    · obtain ⟨o, es, n, e, d, r⟩ := hn'
      exact ⟨o, es, n, (sb2.2 C neDC.symm).trans e, d, r⟩
    · obtain ⟨q4, es, ep, hq, y2, y3, y4, _, y5⟩ := dd'
      have J3 := d_write (t' := s'.toks + 1 + (tupleKind (mixKind X.prog X.w)).draws ks[i]) (ob := .dT (putK (dT1 (ks.take i)) ks[i] (.bl true))) J2 (by rw [eD]; exact True.intro) sb2 ⟨q4, hq⟩ ⟨hl2, hd, _, (rel.put ks[i] eb (show RelV (.bl true) (.bool true) from rfl)).keeps fun c ys ec => by
        rw [upd_ne (ne_of ec eD (fun z => nomatch z))]; exact ec, q4, es, ep, hq, y2, y3, y4, y5⟩
      rw [upd_upd] at J3
      rw [ksn]
      exact J3
    · obtain ⟨o, ho, hr⟩ := hSt.1
      exact ⟨o, keep4 it o itC itD ho, hr⟩
    · obtain ⟨o, ho, hr⟩ := hSt.2
      exact ⟨o, keep4 l o lC lD ho, hr⟩
  · rintro s' ⟨m, hn, J⟩
    have f := fpC (.dT (dT1 (ks.take its.toArray.size)))
    rw [List.size_toArray, lenV, hlen, List.take_of_length_le (Nat.le_refl _)] at J f
    exact fin D C m s' hD0 hn J f
theorem pe_dctrue (hc : X.calm = true) (hu : X.A.units + 1 < cLine) (he : PE X e te) (hx : scope.names.lookup x = some .local) (hclos : closureFor scope X.env = pure [])
    (hcell : ∀ y ∈ scope.names, y.2 ≠ .cell) (hkind : scope.kind = .function) (hnames : ∀ y ∈ scope.names, y.2 = .local → scope.names.lookup y.1 = some .local) (hs : ∀ x, foldedSetIterable e X.env x = pure x := by intro _; rfl)
    (hdb : (x == ("__debug__" : Str)) = false := by decide) :
    PE X (.DictComp (.Name x p1) (.Constant (.bool true) kk p2) [⟨.Name x p0, e, [], 0⟩] scope pos) (tDcT X.K te) := by
  refine ⟨fun pins s σ H Q I h => ?_⟩
  refine DictComp_goes hclos hcell hkind hnames (thn (he.run pins s σ H _ I h) fun v s1 hh => ?_) hs
  obtain ⟨xv, H1, I1, r1, l, vs, ks, rfl, hS, hlen, hsz, hk, q⟩ := hh
  cases r1
  refine dct_goes hc hu hx hkind hdb I1 hS hlen hsz hk fun D C m s' hD0 hn J f => ?_
  refine ⟨m, hn, fun h' sb => ?_⟩
  obtain ⟨f0, f1, f2, f3, f4, f5⟩ := f
  exact ⟨.ref D, _, J.turned (t' := s'.toks) (fun b o hb e => (sb.2 b hb).trans e) f0 f1 f3 f4 f5, rfl, q D hD0⟩
/-- y = {x: True for x in e}, stored before the block is let go -/
theorem ps_dctrue {i : Nat} {y : Str} {py spos : Pos} (hc : X.calm = true) (hu : X.A.units + 1 < cLine) (hN : X.N.Nodup) (hy : X.N[i]? = some y) (hyl : X.env.scope.names.lookup y = some .local)
    (hsw : swapsWith (.DictComp (.Name x p1) (.Constant (.bool true) kk p2) [⟨.Name x p0, e, [], 0⟩] scope pos) (some (.Name y py)) spos.line X.env = pure true) (he : PE X e te) (hx : scope.names.lookup x = some .local) (hclos : closureFor scope X.env = pure [])
    (hcell : ∀ y ∈ scope.names, y.2 ≠ .cell) (hkind : scope.kind = .function) (hnames : ∀ y ∈ scope.names, y.2 = .local → scope.names.lookup y.1 = some .local) (hs : ∀ x, foldedSetIterable e X.env x = pure x := by intro _; rfl)
    (hdb : (x == ("__debug__" : Str)) = false := by decide) :
    PS X (.Assign [.Name y py] (.DictComp (.Name x p1) (.Constant (.bool true) kk p2) [⟨.Name x p0, e, [], 0⟩] scope pos) spos) (tAsg (tDcT X.K te) (gName i)) := by
  refine ⟨fun pins s σ H D I h => ?_⟩
  have h : tDcT X.K te σ H (fun v H1 => gName i v σ H1 D.nx) := h
  rw [exec_Assign_Name_used _ _ _ _ hsw]
  refine wpAny_bind (wpAny_standAt (wpAny_bind ?_))
  refine wpAny_bind (wpAny_mono (comprehension_at (use := some (assign (.Name y py) X.env)) (Q := fun _ s' => SP X pins D .next s') rfl hs hclos hkind hnames
    (thn (he.run pins s σ H _ I h) fun v s1 hh => ?_)) (fun _ s' hq => wpAny_pure (wpAny_pure hq)) fun _ _ z => z)
  obtain ⟨xv, H1, I1, r1, l, vs, ks, rfl, hS, hlen, hsz, hk, q⟩ := hh
  cases r1
  refine wpAny_mono (dct_goes (use := some (assign (.Name y py) X.env)) (Qf := fun _ s' => SP X pins D .next s') hc hu hx hkind hdb I1 hS hlen hsz hk fun L C m s' hD0 hn J f => ?_) (fun it s2 h2 => compBlock_dict hcell hkind h2) fun _ _ z => z
  show wpAny _ _ (assign (.Name y py) X.env (.ref L)) _ _ _
  refine wpAny_assign_Name (store_ok2 (v := V.ref L) J hN hy (.inl hyl) rfl (fun s2 J2 hst => ?_) (.inr hyl))
  obtain ⟨a, sb, ha⟩ := hst
  obtain ⟨f0, f1, f2, f3, f4, f5⟩ := f
  have haC : C ≠ a := by
    rcases ha with z | z
    · rw [z]; exact f1
    · exact fun q => f4 y a z q.symm
  refine ⟨m, hn.sameBut sb haC, fun h3 sb3 => ?_⟩
  exact ⟨_, _, J2.turned (t' := s2.toks) (fun b o hb q => (sb3.2 b hb).trans q) f0 f1 f3 f4 f5, q L hD0⟩
end
end EL
/-! sum(lists, []): one list after the other put behind. -/
namespace EL
open PySem PySem.Spec PyProof.Rows L2
/-- the first i parts, one behind the other -/
def catA (parts : Nat → Array Value) : Nat → Array Value
  | 0 => #[]
  | i + 1 => catA parts i ++ parts i
section
variable {prog : Program} {w : World} {A : Around} {E : Value → Shared → Prop} {R : Result → Shared → Prop} {I lx S : Addr} {items : Array Value} {parts : Nat → Array Value}
theorem sumL_loop (hh : A.handled = none) (hI : lx ≠ I) (hSI : S ≠ I) (hSl : S ≠ lx) (hcat : ∀ i, i ≤ items.size → (catA parts i).size ≤ 1000000) :
    ∀ (k i : Nat) (s : Shared) (T : Addr) (c : Nat), items.size - i = k → i ≤ items.size → s.heap.IsListIter I lx i → s.heap.IsList lx items →
      s.heap.get? S = some { cls := .type "list", dict := none, data := .seq #[.ref T] c, slots := #[] } → T ≠ S → T ≠ I → (∃ n, IsL s.heap T (catA parts i) n) →
      (∀ j, i ≤ j → j < items.size → ∃ b n, items[j]? = some (.ref b) ∧ b ≠ S ∧ b ≠ I ∧ IsL s.heap b (parts j) n) →
      (∀ h' tk T' n, (∀ b o, b ≠ I → b ≠ S → s.heap.get? b = some o → h'.get? b = some o) → IsL h' T' (catA parts items.size) n → ((i = items.size ∧ T' = T) ∨ I < T') → R (.ok (.ret (.ref T'))) { s with heap := h', toks := tk }) →
      codeAny (model prog w) A (.builtin "sum.loop" ⟨[.ref I, .ref S, rawInt 2, rawInt 0], []⟩) R s := by
  intro k
  have W : Walks prog w A.in1 I [I, lx] [I] items.size _ _ := Walks.list (A := A.in1) hh I lx hI items
  induction k with
  | zero =>
    intro i s T c hk hi hit hlx hS hTS hTI hT hp hR
    obtain rfl : i = items.size := by omega
    obtain ⟨nT, hT⟩ := hT
    refine codeAny_builtin PySem.F.entry_sum_loop ?_
    rw [Around.under_plainId PySem.F.plain_sum_loop _]
    refine wpAny_bind (wpAny_seqItems hS rfl ?_)
    show wpAny _ A.in1 (tryCatch (pyNext (.ref I)) _ >>= _) _ _ s
    refine wpAny_bind (wpAny_tryCatch (W.done s _ _ ⟨hit, hlx⟩ fun h' tk keep => ?_))
    have kp : ∀ b o, b ≠ I → b ≠ S → s.heap.get? b = some o → h'.get? b = some o := fun b o hb _ e => keep b o (by simpa using hb) e
    exact wpAny_pure (hR h' tk T nT kp (kp T _ hTI hTS hT) (.inl ⟨rfl, rfl⟩))
  | succ k ih =>
    intro i s T c hk hi hit hlx hS hTS hTI hT hp hR
    have hlt : i < items.size := by omega
    obtain ⟨nT, hT⟩ := hT
    obtain ⟨b, nb, hb1, hbS, hbI, hb2⟩ := hp i (Nat.le_refl _) hlt
    refine codeAny_builtin PySem.F.entry_sum_loop ?_
    rw [Around.under_plainId PySem.F.plain_sum_loop _]
    refine wpAny_bind (wpAny_seqItems hS rfl ?_)
    show wpAny _ A.in1 (tryCatch (pyNext (.ref I)) _ >>= _) _ _ s
    refine wpAny_bind (wpAny_tryCatch (W.item i s _ _ hlt ⟨hit, hlx⟩ fun v h1 tk hv st1 keep => ?_))
    have ev : v = .ref b := by
      have : items[i]? = some v := hv
      rw [hb1] at this
      exact (Option.some.inj this).symm
    subst ev
    have kp : ∀ b o, b ≠ I → s.heap.get? b = some o → h1.get? b = some o := fun b o hb e => keep b o (by simpa using hb) e
    have hS1 := kp S _ hSI hS
    have hT1 := kp T _ hTI hT
    have hb1' := kp b _ hbI hb2
    have hsz : (catA parts i).size + (parts i).size ≤ 1000000 := by
      have := hcat (i + 1) hlt
      simpa [catA, Array.size_append] using this
    show wpAny _ A.in1 ((holding [Value.ref b] (binaryOp .Add (.ref T) (.ref b))).attempt >>= _) _ _ _
    refine wpAny_bind (wpAny_attempt (wpAny_holding (PySem.P.add_list (hsz := Nat.le_trans hsz (by decide)) hT1 hb1' ?_)))
    generalize hN : h1.objs.size = N
    have nN : h1.get? N = none := by
      cases e : h1.get? N with
      | none => rfl
      | some o => exact absurd (Heap.lt_size e) (by rw [hN]; exact Nat.lt_irrefl _)
    have NI : N ≠ I := fun e => by
      obtain ⟨o, ho, _⟩ := st1.1
      rw [← e, nN] at ho; cases ho
    have NS : N ≠ S := fun e => by rw [← e, nN] at hS1; cases hS1
    have IN : I < N := by
      obtain ⟨o, ho, _⟩ := st1.1
      rw [← hN]; exact Heap.lt_size ho
    have hS2 : (h1.push { cls := .type "list", data := .seq (catA parts i ++ parts i) }).get? S = _ := Heap.get?_push_of_some _ hS1
    have gN : (h1.push { cls := .type "list", data := .seq (catA parts i ++ parts i) }).get? N = some { cls := .type "list", data := .seq (catA parts i ++ parts i) } := by rw [← hN]; exact Heap.get?_push_size _ rfl
    have kp2 : ∀ b o, b ≠ I → s.heap.get? b = some o → (h1.push { cls := .type "list", data := .seq (catA parts i ++ parts i) }).get? b = some o := fun b o hb e => Heap.get?_push_of_some _ (kp b o hb e)
    have it2 : (h1.push { cls := .type "list", data := .seq (catA parts i ++ parts i) }).IsListIter I lx (i + 1) := st1.1.at fun o e => Heap.get?_push_of_some _ e
    have lx2 : (h1.push { cls := .type "list", data := .seq (catA parts i ++ parts i) }).IsList lx items := st1.2.at fun o e => Heap.get?_push_of_some _ e
    generalize h1.push { cls := .type "list", data := .seq (catA parts i ++ parts i) } = h2 at hS2 gN kp2 it2 lx2 ⊢
    show wpAny _ A.in1 (updateSeq S (fun _ => #[.ref N]) >>= _) _ _ _
    refine wpAny_bind (wpAny_updateSeq hS2 rfl ?_)
    have hS3 := Heap.get?_update_self (Obj.mapSeq fun _ => #[Value.ref N]) hS2 rfl
    refine wpAny_bind (wpAny_letGo (wpAny_bind (wpAny_updateSeq hS3 rfl (wpAny_pure ⟨plainId_quiet PySem.F.plain_sum_loop _, ?_⟩))))
    have oth : ∀ b o, b ≠ S → h2.get? b = some o → ((h2.update S (Obj.mapSeq fun _ => #[Value.ref N])).update S (Obj.mapSeq fun _ => #[Value.ref N])).get? b = some o := fun b o hb e =>
      (Heap.get?_update_other _ _ (Ne.symm hb)).trans ((Heap.get?_update_other _ _ (Ne.symm hb)).trans e)
    refine ih (i + 1) _ N _ (by omega) hlt (it2.at fun o e => oth _ _ (Ne.symm hSI) e) (lx2.at fun o e => oth _ _ (Ne.symm hSl) e) (Heap.get?_update_self _ hS3 rfl) NS NI ⟨_, oth N _ NS gN⟩ (fun j h1 h2 => ?_) fun h' tk' T' n k' hT' hn => ?_
    · obtain ⟨b', n', q1, q2, q3, q4⟩ := hp j (by omega) h2
      exact ⟨b', n', q1, q2, q3, oth _ _ q2 (kp2 _ _ q3 q4)⟩
    · refine hR h' tk' T' n (fun b o hb1 hb2 e => k' b o hb1 hb2 (oth b o hb2 (kp2 b o hb1 e))) hT' (.inr ?_)
      rcases hn with ⟨_, rfl⟩ | hn
      · exact IN
      · exact hn
theorem args_sum2 (a b : Value) : argsOk "sum" ⟨[a, b], []⟩ := by unfold argsOk; kernel_rfl
theorem sumL_call {s : Shared} {t : Addr} {Q : Value → Shared → Prop} (hh : A.handled = none) (hlx : s.heap.IsList lx items) (ht : ∃ n, IsL s.heap t #[] n) (h1 : 0 < items.size) (hcat : ∀ i, i ≤ items.size → (catA parts i).size ≤ 1000000)
    (hp : ∀ j, j < items.size → ∃ b n, items[j]? = some (.ref b) ∧ IsL s.heap b (parts j) n)
    (hQ : ∀ h' tk T' n, (∀ b o, s.heap.get? b = some o → h'.get? b = some o) → IsL h' T' (catA parts items.size) n → s.heap.objs.size ≤ T' → Q (.ref T') { s with heap := h', toks := tk }) :
    wpAny (model prog w) A (call (.builtin "sum") [.ref lx, .ref t]) Q E s := by
  refine call_function_tree PySem.F.kind_sum PySem.F.plain_sum PySem.F.entry_sum (args_sum2 _ _) ?_
  unfold Builtin.«sum»
  simp only [List.length_cons, List.length_nil]
  rw [if_neg (by decide)]
  refine wpAny_bind (wpAny_of_eq (show Builtin.Builtins.bindParams "sum" ["start"] 0 ⟨[.ref t], []⟩ = pure [some (.ref t)] from rfl) ?_)
  refine wpAny_bind (wpAny_pyIter_list hlx ?_)
  obtain ⟨nt, ht⟩ := ht
  generalize hI : s.heap.objs.size = it
  have up : ∀ b o, s.heap.get? b = some o → (s.heap.push { cls := .type "list_iterator", data := .fields #[.ref lx, .int 0 0] }).get? b = some o := fun b o e => Heap.get?_push_of_some _ e
  have gI : (s.heap.push { cls := .type "list_iterator", data := .fields #[.ref lx, .int 0 0] }).get? it = some { cls := .type "list_iterator", data := .fields #[.ref lx, .int 0 0] } := by rw [← hI]; exact Heap.get?_push_size _ rfl
  have szI : (s.heap.push { cls := .type "list_iterator", data := .fields #[.ref lx, .int 0 0] }).objs.size = it + 1 := by rw [Heap.size_push, hI]
  generalize s.heap.push { cls := .type "list_iterator", data := .fields #[.ref lx, .int 0 0] } = h1 at up gI szI ⊢
  refine wpAny_bind (wpAny_pure ?_)
  have ty : ({ s with heap := h1 } : Shared).TypeIs (.ref t) "list" := ⟨_, up _ _ ht, rfl⟩
  simp only [List.forIn_cons, List.forIn_nil]
  refine wpAny_bind (wpAny_bind (wpAny_bind (wpAny_isInstance (T := "list") (b := false) ty sub_list_str ?_)))
  simp only [Bool.false_eq_true, if_false]
  refine wpAny_pure (wpAny_bind (wpAny_bind (wpAny_isInstance (T := "list") (b := false) ty PySem.F.sub_list_bytes ?_)))
  simp only [Bool.false_eq_true, if_false]
  refine wpAny_pure (wpAny_bind (wpAny_bind (wpAny_isInstance (T := "list") (b := false) ty PySem.F.sub_list_bytearray ?_)))
  simp only [Bool.false_eq_true, if_false]
  refine wpAny_pure (wpAny_pure ?_)
  refine wpAny_bind (wpAny_newObj_type ?_)
  have old : ∀ b o, s.heap.get? b = some o → b < it := fun b o e => by rw [← hI]; exact Heap.lt_size e
  have ltx : lx < it := by obtain ⟨o, ho, _⟩ := hlx; exact old _ _ ho
  have ltt : t < it := old _ _ ht
  have itS : it < h1.objs.size := by rw [szI]; exact Nat.lt_succ_self _
  have up2 : ∀ b o, h1.get? b = some o → (h1.push { cls := .type "list", data := .seq #[.ref t] }).get? b = some o := fun b o e => Heap.get?_push_of_some _ e
  show wpAny _ _ (pure _) _ _ _
  refine wpAny_pure ⟨plainId_quiet PySem.F.plain_sum_loop _, sumL_loop (I := it) (lx := lx) (S := h1.objs.size) (items := items) (parts := parts) hh (Nat.ne_of_lt ltx) (Nat.ne_of_gt itS) (Nat.ne_of_gt (Nat.lt_trans ltx itS)) hcat items.size 0 _ t _ rfl (Nat.zero_le _) ⟨_, up2 _ _ gI, rfl, rfl⟩ ?_ (Heap.get?_push_size _ rfl) (Nat.ne_of_lt (Nat.lt_trans ltt itS)) (Nat.ne_of_lt ltt) ⟨nt, up2 _ _ (up _ _ ht)⟩ (fun j _ hj => ?_) fun h' tk T' n keep hT' hn => ?_⟩
  · obtain ⟨o, ho, hr⟩ := hlx
    exact ⟨o, up2 _ _ (up _ _ ho), hr⟩
  · obtain ⟨b, n, q1, q2⟩ := hp j hj
    have := old _ _ q2
    exact ⟨b, n, q1, Nat.ne_of_lt (Nat.lt_trans this itS), Nat.ne_of_lt this, up2 _ _ (up _ _ q2)⟩
  · refine hQ h' tk T' n (fun b o e => keep b o (Nat.ne_of_lt (old b o e)) (Nat.ne_of_lt (Nat.lt_trans (old b o e) itS)) (up2 _ _ (up _ _ e))) hT' ?_
    rcases hn with ⟨h0, _⟩ | hn
    · omega
    · rw [hI]; exact Nat.le_of_lt hn
end
theorem vals_append {xs ys : List V} {us ws : List Value} (h1 : Vals xs us) (h2 : Vals ys ws) : Vals (xs ++ ys) (us ++ ws) := by
  induction h1 with
  | nil => exact h2
  | cons a _ ih => exact .cons a ih
def rSumL (K : PySem.W.Frag) : List V → Hp → VK → Prop := fun xs H Q => ∃ (l t : Addr) (vs : List V) (parts : List (List V)), xs = [.ref l, .ref t] ∧ SqL K H l vs ∧ H t = some (.lst []) ∧ 0 < vs.length ∧ vs.length = parts.length ∧ parts.flatten.length ≤ 1000000 ∧
  (∀ (j : Nat) (p : List V), parts[j]? = some p → ∃ b, vs[j]? = some (.ref b) ∧ H b = some (.lst p)) ∧ ∀ q, H q = none → Q (.ref q) (L2.upd H q (.lst parts.flatten))
theorem cr_sumL {X : Cx} (hc : X.calm = true) : CallR X (.builtin "sum") (rSumL X.K) := by
  intro pins s σ H xs us Q I rv h
  obtain ⟨l, t, vs, parts, rfl, hS, ht, h1, hlen, hz, hk, q⟩ := h
  obtain ⟨u1, u2, rfl, r1, r2⟩ : ∃ u1 u2, us = [u1, u2] ∧ RelV (.ref l) u1 ∧ RelV (.ref t) u2 := by
    cases rv with
    | cons a r =>
      cases r with
      | cons b r => cases r; exact ⟨_, _, rfl, a, b⟩
  cases r1
  cases r2
  obtain ⟨its, rv2, pl, _⟩ := I.list hS
  have li : its.length = vs.length := rv2.length.symm
  have ch : ∀ j : Nat, ∃ ws : List Value, ∀ p, parts[j]? = some p → Vals p ws ∧ ∃ b n, its.toArray[j]? = some (.ref b) ∧ IsL s.heap b ws.toArray n := fun j => by
    cases e : parts[j]? with
    | none => exact ⟨[], fun p h => by cases h⟩
    | some p =>
      obtain ⟨b, hb1, hb2⟩ := hk j p e
      obtain ⟨u, hu1, hu2⟩ := rv2.get hb1
      cases hu2
      obtain ⟨_, ws, n, rw', gb⟩ := (show ObjOk X.prog X.w H s.heap b (.lst p) from I.hok b _ hb2)
      exact ⟨ws, fun p' h => by cases h; exact ⟨rw', b, n, by simpa using hu1, gb⟩⟩
  obtain ⟨f, hf⟩ := Classical.skolem.mp ch
  have vals : ∀ i, i ≤ parts.length → Vals (parts.take i).flatten (catA (fun j => (f j).toArray) i).toList := by
    intro i
    induction i with
    | zero => intro _; exact .nil
    | succ i ih =>
      intro hi
      have e : parts[i]? = some (parts[i]'(by omega)) := List.getElem?_eq_getElem (by omega)
      rw [List.take_add_one, e]
      simp only [Option.toList_some, List.flatten_append, List.flatten_cons, List.flatten_nil, List.append_nil, catA, Array.toList_append]
      exact vals_append (ih (by omega)) (hf i _ e).1
  have szs : ∀ i, i ≤ parts.length → (catA (fun j => (f j).toArray) i).size ≤ 1000000 := fun i hi => by
    have e1 : (parts.take i).flatten.length = (catA (fun j => (f j).toArray) i).toList.length := (vals i hi).length
    have e3 : (catA (fun j => (f j).toArray) i).toList.length = (catA (fun j => (f j).toArray) i).size := Array.length_toList
    have e2 : parts.flatten.length = (parts.take i).flatten.length + (parts.drop i).flatten.length := by
      rw [← List.length_append, ← List.flatten_append, List.take_append_drop]
    omega
  have sz : its.toArray.size = parts.length := by rw [List.size_toArray, li, hlen]
  obtain ⟨_, w0, n0, r0, g0⟩ := (show ObjOk X.prog X.w H s.heap t (.lst []) from I.hok t _ ht)
  cases r0
  refine sumL_call (parts := fun j => (f j).toArray) (I.ok.hd hc) pl.isList ⟨n0, g0⟩ (by rw [sz, ← hlen]; exact h1) (fun i hi => szs i (by rw [← sz]; exact hi)) (fun j hj => ?_) fun h' tk T' n keep hT' le => ?_
  · exact (hf j _ (List.getElem?_eq_getElem (by rw [← sz]; exact hj))).2
  · rw [sz] at hT'
    have v2 := vals parts.length (Nat.le_refl _)
    rw [List.take_of_length_le (Nat.le_refl _)] at v2
    refine ⟨.ref T', _, I.laid (t' := tk) (o := .lst parts.flatten) keep le ⟨len_sz hz, _, n, v2, ?_⟩, rfl, q T' (I.hok.fresh le)⟩
    rw [Array.toArray_toList]
    exact hT'
end EL
/-! == and != of instances by their class's own __eq__, whatever it answers; o.m(k = v, ..) by keywords alone. -/
namespace EL
open PySem PySem.Spec PyProof.Rows L2
section
variable {X : Cx} {k : Nat} {C f : Addr} {fd : FuncData} {ps : List Str} {sp : Sp} {E : XK}
/-- an instance compared by its own __eq__: what is asked -/
def rOwn (C : Addr) (sp : Sp) (E : XK) (g : Bool → Bool) : R2 := fun x y H Q => ∃ a b dx dy fs gs, x = .ref a ∧ y = .ref b ∧ H a = some (.ins C dx fs) ∧ H b = some (.ins C dy gs) ∧ sp [.ref a, .ref b] H (fun v H' => ∃ r : Bool, v = .bl r ∧ Q (.bl (g r)) H') E
theorem run_own {A : Around} {pins : List (Addr × Obj)} {s : Shared} {σ : L2.St} {H : Hp} {a b : Addr} {Q : VK} (hA : A.frames = X.A.frames) (hr : Room k A) (F : FnOk X.prog X.w X.K X.mg X.base CX0 k f fd ps sp) (hb : Binds X.K fd ps []) (hx : Passes CX0 X E) (I : Inv X pins σ H s)
    (hsp : sp [.ref a, .ref b] H (fun v H' => ∃ r : Bool, v = .bl r ∧ Q v H') E) :
    wpAny (model X.prog X.w) A (call (.ref f) [.ref a, .ref b]) (fun v s' => ∃ r : Bool, v = .bool r ∧ EP X pins σ (fun v H' => v = .bl r ∧ Q v H') (.bool r) s') X.xe s := by
  have e0 : Env0 X.prog X.w X.K X.mg X.base A X.stack s H := by
    have e := I.env0
    exact ⟨by rw [hA]; exact e.frames, e.mod, e.bs, e.bsz, e.funs, e.frf, e.hok, e.bare⟩
  have hl := F.len _ _ _ _ hsp
  have r2 : Vals [V.ref a, V.ref b] [Value.ref a, Value.ref b] := .cons rfl (.cons rfl .nil)
  refine wpAny_call (codeAny_mono (F.run A X.stack s H ⟨[.ref a, .ref b], []⟩ [.ref a, .ref b] [.ref a, .ref b] _ E hr e0 (by
    have := hb s [.ref a, .ref b] I.kIn (by simpa using hl)
    simpa using this) r2 hsp) fun r s' hq => ?_)
  cases r with
  | error e => exact hx pins σ H s e s' I hq
  | ok fl =>
    cases fl with
    | ret w =>
      obtain ⟨z, H', I', rz, r, ez, q⟩ := I.after hq
      subst ez
      cases rz
      exact ⟨r, rfl, .bl r, H', I', rfl, rfl, q⟩
    | next => exact False.elim hq
    | brk => exact False.elim hq
    | cont => exact False.elim hq
theorem op_eqOwn (F : FnOk X.prog X.w X.K X.mg X.base CX0 k f fd ps sp) (hr : Room k X.A) (hs : PySem.W.findIn X.K (.ref C) "__eq__" = some (some (.ref f))) (hf : PySem.W.isFn X.K (.ref f) = true) (hb : Binds X.K fd ps []) (hx : Passes CX0 X E) :
    OpR X (compareOp .Eq) (rOwn C sp E id) := by
  intro pins s σ H x y v u Q I rx ry hq
  obtain ⟨a, b, dx, dy, fs, gs, rfl, rfl, ha, hb', hsp⟩ := hq
  cases rx
  cases ry
  obtain ⟨mA, J, _⟩ := ins_get I.hok ha
  obtain ⟨mB, J', _⟩ := ins_get I.hok hb'
  obtain ⟨od, J, _⟩ := J.look
  obtain ⟨od', J', _⟩ := J'.look
  obtain ⟨m, hF⟩ := I.fr
  show wpAny (model X.prog X.w) X.A (richCompare .Eq (.ref a) (.ref b)) (EP X pins σ Q) X.xe s
  refine PySem.W.cmp_K (op := .Eq) (tb := .ref C) hr.units0 hF I.ok.mod.kin J J'.type (by simp [PySem.W.notFirst]) hs hf ?_
  refine wpAny_mono (run_own (Q := Q) rfl hr F hb hx I (show sp _ H (fun v H' => ∃ r : Bool, v = .bl r ∧ Q v H') E from ?_)) (fun r s' hq => ?_) fun _ _ z => z
  · have e : (fun (v : V) (H' : Hp) => ∃ r : Bool, v = .bl r ∧ Q (.bl (id r)) H') = fun v H' => ∃ r : Bool, v = .bl r ∧ Q v H' := by
      funext v H'
      apply propext
      constructor
      · rintro ⟨r, rfl, q⟩; exact ⟨r, rfl, q⟩
      · rintro ⟨r, rfl, q⟩; exact ⟨r, rfl, q⟩
    rw [← e]; exact hsp
  · obtain ⟨r, rfl, z, H', I', rz, rfl, q⟩ := hq
    exact ⟨_, H', I', rz, q⟩
theorem ne_units {A : Around} {k : Nat} (h : Room (k + 1) A) : A.units < cLine := h.units0
/-- what != wants to know of the class -/
structure NeOwn (K : PySem.W.Frag) (C f : Addr) : Prop where
  ne : PySem.W.findIn K (.ref C) "__ne__" = some (some (.builtin "object.__ne__"))
  eq : PySem.W.findIn K (.ref C) "__eq__" = some (some (.ref f))
  fn : PySem.W.isFn K (.ref f) = true
  ob : PySem.W.subIn K (.ref C) (.type "object") = some true
theorem op_neOwn (F : FnOk X.prog X.w X.K X.mg X.base CX0 k f fd ps sp) (hr : Room (k + 1) X.A) (N : NeOwn X.K C f) (hb : Binds X.K fd ps []) (hx : Passes CX0 X E) :
    OpR X (compareOp .NotEq) (rOwn C sp E not) := by
  intro pins s σ H x y v u Q I rx ry hq
  obtain ⟨a, b, dx, dy, fs, gs, rfl, rfl, ha, hb', hsp⟩ := hq
  cases rx
  cases ry
  obtain ⟨mA, J, _⟩ := ins_get I.hok ha
  obtain ⟨mB, J', _⟩ := ins_get I.hok hb'
  obtain ⟨od, J, _⟩ := J.look
  obtain ⟨od', J', _⟩ := J'.look
  show wpAny (model X.prog X.w) X.A (richCompare .NotEq (.ref a) (.ref b)) (EP X pins σ Q) X.xe s
  have inA : wpAny (model X.prog X.w) X.A.in1 (call (.ref f) [.ref a, .ref b]) (fun v s' => ∃ r : Bool, v = .bool r ∧ EP X pins σ Q (.bool (!r)) s') X.xe s := by
    refine wpAny_mono (run_own (X := X) (A := X.A.in1) (Q := fun v H' => ∃ r, v = V.bl r ∧ Q (.bl (!r)) H') rfl hr.in1 F hb hx I ?_) (fun r s' hq => ?_) fun _ _ z => z
    · have e : (fun (v : V) (H' : Hp) => ∃ r : Bool, v = .bl r ∧ Q (.bl (not r)) H') = fun v H' => ∃ r : Bool, v = .bl r ∧ ∃ r, v = V.bl r ∧ Q (.bl (!r)) H' := by
        funext v H'
        apply propext
        constructor
        · rintro ⟨r, rfl, q⟩; exact ⟨r, rfl, r, rfl, q⟩
        · rintro ⟨r, rfl, r', e, q⟩; cases e; exact ⟨r, rfl, q⟩
      rw [← e]; exact hsp
    · obtain ⟨r, rfl, z, H', I', rz, rfl, r', e, q⟩ := hq
      cases e
      exact ⟨r, rfl, .bl (!r), H', I', rfl, q⟩
  have one : wpAny (model X.prog X.w) X.A (call (.builtin "object.__ne__") [.ref a, .ref b]) (fun v s' => v ≠ .notImplemented ∧ EP X pins σ Q v s') X.xe s := by
    have t2 : PySem.W.Looks (model X.prog X.w) s.heap (isInstance (.ref a) (.type "object")) true := J.type.andThen (PySem.W.looks_subIn I.kIn N.ob)
    refine wpAny_call (codeAny_call_builtin PySem.F.cmp_object.ne.plain PySem.F.cmpEntry_ne (@PySem.W.check_slot (model X.prog X.w) _ _ _ "object.__ne__" "object" "__ne__" (.ref a) [.ref b] [] _ PySem.F.cmpKind_ne PySem.F.cmpSplit_ne t2 (PySem.F.cmpArgs_ne _ _) ?_))
    show wpAny (model X.prog X.w) X.A.in1 (Builtin.«object.__ne__» ⟨[.ref a, .ref b], []⟩) _ _ s
    unfold Builtin.«object.__ne__»
    repeat (first
      | with_reducible refine wpAny_cRoomFor hr.in1.units0 ?_
      | (refine wpAny_bind (m := callSpecialIfBound? (.ref a) (Str.ofString "__eq__") [.ref b])
          (PySem.W.ifBound_K I.kIn J N.eq N.fn (wpAny_mono inA (fun r s' hr => by
            obtain ⟨b, rfl, hq⟩ := hr
            repeat (first | exact ⟨by simp, hq⟩ | exact wpAny_pure ⟨by simp, hq⟩ | exact wpAny_truthy_bool ⟨by simp, hq⟩ | (refine wpAny_bind (m := truthy (.bool _)) (wpAny_truthy_bool ?_)) | wp_step)) fun _ _ e => e)))
      | wp_step)
  have try1 : wpAny (model X.prog X.w) X.A (tryCompare (.ref a) "__ne__" (.ref b)) (fun r s' => ∃ v, r = some v ∧ EP X pins σ Q v s') X.xe s := by
    unfold tryCompare
    refine wpAny_bind ?_
    simp only [callSpecialIfBound?, bindSpecialIfBound?]
    refine wpAny_holding (wpAny_bind (wpAny_bind (wpAny_bind (J.type.here ((PySem.W.looks_findIn I.kIn N.ne).here ?_)))))
    refine wpAny_bind (wpAny_askSetting (wpAny_ite ?_))
    have fin : wpAny (model X.prog X.w) X.A (call (.builtin "object.__ne__") ([.ref a] ++ [.ref b]) >>= fun v => pure (some v)) (fun r s' => wpAny (model X.prog X.w) X.A (match r with | some .notImplemented => pure none | none => pure none | some v => pure (some v)) (fun r s' => ∃ v, r = some v ∧ EP X pins σ Q v s') X.xe s') X.xe s := by
      refine wpAny_bind (wpAny_mono one (fun v s' h' => wpAny_pure ?_) fun _ _ h' => h')
      obtain ⟨hn, q⟩ := h'
      cases v <;> first | exact absurd rfl hn | exact wpAny_pure ⟨_, rfl, q⟩
    split
    · exact wpAny_bind ((PySem.W.Looks.of_pure (PySem.F.cmp_object.ne.bind _)).here (wpAny_pure (by exact fin)))
    · exact wpAny_tryCatch (wpAny_bind ((PySem.W.Looks.of_pure (PySem.F.cmp_object.ne.bind _)).here (wpAny_pure (by exact fin))))
  unfold richCompare
  simp only [oneThing_ref]
  refine wpAny_holding (wpAny_bind (wpAny_cRoomFor hr.units0 ?_))
  refine wpAny_bind (J.type.here (wpAny_bind (J'.type.here ?_)))
  rw [show (Value.ref C != Value.ref C) = false from by simp]
  simp only [Bool.false_eq_true, if_false]
  refine wpAny_bind (wpAny_pure ?_)
  simp only [Bool.false_eq_true, if_false]
  refine wpAny_bind (wpAny_mono try1 (fun r s' z => ?_) fun _ _ e => e)
  obtain ⟨v, rfl, hq⟩ := z
  exact wpAny_pure hq
end
/-! ### o.m(k = v, ..): keywords alone -/
section
variable {X : Cx} {k : Nat} {f C : Addr} {fd : FuncData} {m : Str} {ps ks : List Str} {sp : Sp} {E : XK} {o : Expr} {kws : List Keyword} {ta : TE} {tk : TA} {apos pos : Pos} {g : List Value → List Value → List Value} {gV : List V → List V → List V}
theorem pe_methK0 {pl : Sem Bool} (he : PE X o ta) (c : Cls X.K C) (hm : Meth X.K C m f) (F : FnOk X.prog X.w X.K X.mg X.base CX0 k f fd ps sp) (hr : Room k X.A) (kb : KBinds X.K fd ps ks g gV) (hx : Passes CX0 X E) (hkw : PK X kws tk)
    (hall : (backToKw pos (keywordEach kws X.env)).all (·.1.isSome) = true := by rfl) (hks : (backToKw pos (keywordEach kws X.env)).filterMap (·.1) = ks := by rfl)
    (hpl : ((backTo pos (starEach [] X.env)).any (·.1) || (backToKw pos (keywordEach kws X.env)).any (·.1.isNone)) = false := by rfl)
    (ht : eval (.Call (.Attribute o m apos) [] kws pos) X.env = (do
      let ov ← eval o X.env
      standAt apos.atName
      let (f, first) ← holding [ov] (getMethod ov m pl)
      callWith pos f first (backTo pos (starEach [] X.env)) (backToKw pos (keywordEach kws X.env))) := by rfl) :
    PE X (.Call (.Attribute o m apos) [] kws pos) (fun σ H Q => ta σ H fun x H1 => ∃ a dx fs, x = .ref a ∧ H1 a = some (.ins C dx fs) ∧ fs.lookup m = none ∧ tk σ H1 fun zs H2 => sp (gV [.ref a] zs) H2 Q E) := by
  refine ⟨fun pins s σ H Q I h => ?_⟩
  refine PySem.W.methodCall_KW (pl := pl) (thn (he.run pins s σ H _ I h) fun u s1 ⟨x, H1, I1, rx, a, dx, fs, ex, ea, l, q⟩ => ?_) ht
  subst ex
  obtain rfl : u = Value.ref a := rx
  refine getmeth_ok I1 ea c hm l ?_
  refine PySem.W.callWith_KW0 (first := [.ref a]) (h₀ := X.base) I1.ok.mod.kin hm.kp hall (thn (hkw.run pos pins s1 σ H1 _ I1 q) fun ws s2 hh => ?_) hpl
  obtain ⟨zs, H2, I2, rz, q2⟩ := hh
  refine ⟨I2.kIn, ?_⟩
  rw [hks]
  exact run_fnk (us := [.ref a]) (vs := [.ref a]) F hr kb hx I2 (.cons rfl .nil) rz q2
end
def kwM2r {α : Type} : List α → List α → List α
  | [s], [z, y] => [s, y, z]
  | _, _ => []
theorem kwM2r_rel {vs : List V} {us : List Value} {zs : List V} {ws : List Value} (h1 : Vals vs us) (h2 : Vals zs ws) : Vals (kwM2r vs zs) (kwM2r us ws) := by
  cases h1 with
  | nil => exact .nil
  | cons r0 rr0 =>
    cases rr0 with
    | cons _ _ => exact .nil
    | nil =>
    cases h2 with
    | nil => exact .nil
    | cons r rr =>
      cases rr with
      | nil => exact .nil
      | cons r2 rr2 =>
        cases rr2 with
        | nil => exact .cons r0 (.cons r2 (.cons r .nil))
        | cons _ _ => exact .nil
theorem Fun.kwM2r {K : PySem.W.Frag} {x qual : Str} {st : Stmt} {f : Addr} {fd : FuncData} {r p q : Str} (F : Fun K x qual st f fd)
    (h : ∀ (kV doc pm : Value) (an : Option Addr) (cdv ct : Value) (t u v : Value), bindArgs (PySem.W.fnOf x qual (defArgs st) (defBody st) (defScope st) .none kV doc pm an cdv ct) ⟨[t], [(q, u), (p, v)]⟩ = pure [(r, t), (p, v), (q, u)]) : KBinds K fd [r, p, q] [q, p] EL.kwM2r EL.kwM2r := by
  obtain ⟨oc, od, kV, doc, pm, an, cdv, ct, osl, rfl, lk, hcd⟩ := F.ex
  refine ⟨fun s us ws _ hl => ?_, kwM2r_rel⟩
  match us, ws, hl with
  | [t], [u, v], _ => exact .of_eq (h kV doc pm an cdv ct t u v)
  | [], _, hl => exact absurd hl (by simp [EL.kwM2r])
  | [_], [], hl => exact absurd hl (by simp [EL.kwM2r])
  | [_], [_], hl => exact absurd hl (by simp [EL.kwM2r])
  | [_], _ :: _ :: _ :: _, hl => exact absurd hl (by simp [EL.kwM2r])
  | _ :: _ :: _, _, hl => exact absurd hl (by simp [EL.kwM2r])
/-! ### a text, so often -/
def rRepS : R2 := fun x y H Q => ∃ z k, x = .str z ∧ y = .int k ∧ 2 ≤ k ∧ k ≤ 1000 ∧ z.length ≠ 0 ∧ z.length ≤ 1000 ∧ Q (.str ⟨(List.replicate k.toNat z.cps).foldl (· ++ ·) #[]⟩) H
theorem fold_size (c : Array Nat) : ∀ (n : Nat) (acc : Array Nat), (List.foldl (fun x1 x2 => x1 ++ x2) acc (List.replicate n c)).size = acc.size + n * c.size
  | 0, acc => by simp
  | n + 1, acc => by
    rw [List.replicate_succ, List.foldl_cons, fold_size c n, Array.size_append, Nat.add_mul]; omega
theorem op_repS {X : Cx} : OpR X (binaryOp .Mult) rRepS := by
  intro pins s σ H x y v u Q I rx ry h
  obtain ⟨z, k, rfl, rfl, h1, h2, hz, hz2, q⟩ := h
  obtain ⟨t, rfl⟩ := rx
  obtain ⟨t', rfl⟩ := ry
  have c0 : (decide (k < -(2 ^ 63 : Int)) || decide (k ≥ 2 ^ 63)) = false := by
    rw [decide_eq_false (by omega), decide_eq_false (by omega)]; rfl
  have c1 : (k == 1 || z.length == 0) = false := by
    rw [Bool.or_eq_false_iff]
    exact ⟨by simpa using (by omega : k ≠ 1), by simpa using hz⟩
  have hm : z.length * k.toNat ≤ 1000 * 1000 := Nat.mul_le_mul hz2 (by omega)
  refine P.mul_str c0 (fun _ _ => ?_) (fun _ _ => ?_) ?_
  · have : (2 : Int) ^ 63 - 1 = 9223372036854775807 := by decide
    rw [this]
    have : (1000 : Int) * k ≤ 9223372036854775807 := by omega
    have := Int.le_ediv_of_mul_le (by omega : 0 < k) this
    omega
  · have : sizeLine = 16777216 := by decide
    exact decide_eq_false (by omega)
  · rw [if_neg (by omega), if_neg (by rw [c1]; exact Bool.false_ne_true)]
    refine ⟨?_, ⟨.str _, H, I.tok _, ⟨_, rfl⟩, q⟩⟩
    show (List.foldl (fun x1 x2 => x1 ++ x2) #[] (List.replicate k.toNat z.cps)).size ≤ sizeLine
    rw [fold_size]
    have h0 : (#[] : Array Nat).size = 0 := rfl
    have h3 : k.toNat * z.cps.size = z.length * k.toNat := Nat.mul_comm _ _
    rw [h0, h3]
    have : sizeLine = 16777216 := by decide
    omega
end EL
/-! Plain data (signs below 128, ints of at most 50 digits, dicts that are empty): what repr and == ask of it. -/
namespace EL
open PySem PySem.Spec PyProof.Rows L2
mutual
def pln : PyData → Bool
  | .none | .bool _ => true
  | .int i => decide (i.natAbs < 10 ^ 50)
  | .str x => x.cps.toList.all fun c => decide (c < 128)
  | .list xs | .tuple xs => plns xs
  | .dict kvs => kvs.isEmpty
def plns : List PyData → Bool
  | [] => true
  | x :: xs => pln x && plns xs
end
theorem plns_all : ∀ ds : List PyData, plns ds = ds.all pln
  | [] => by simp [plns]
  | d :: r => by simp [plns, plns_all r]
theorem log2_lt {n : Nat} (h : n < 10 ^ 50) : n.log2 < 1920 := by
  by_cases h0 : n = 0
  · subst h0; decide
  · rw [Nat.log2_lt h0]
    exact Nat.lt_of_lt_of_le h (by decide +kernel)
theorem shown_int60 {i : Int} (h : i.natAbs < 10 ^ 50) : (PyData.shown (.int i)).length ≤ 60 := by
  have e := int_text_length_le10 (k := 50) (by decide) h
  show (Str.ofString (toString i)).length ≤ 60
  rw [PySem.ofString_length]; exact Nat.le_trans e (by decide)
mutual
theorem pln_showable : ∀ d : PyData, pln d = true → d.showable = true
  | .none, _ => by simp [PyData.showable]
  | .bool _, _ => by simp [PyData.showable]
  | .int i, h => by
    have : i.natAbs < 10 ^ 50 := by simpa only [pln, decide_eq_true_eq] using h
    simpa only [PyData.showable, decide_eq_true_eq] using log2_lt this
  | .str _, _ => by simp [PyData.showable]
  | .list xs, h => by
    have := plns_showable xs (by simpa [pln] using h)
    simpa [PyData.showable] using this
  | .tuple xs, h => by
    have := plns_showable xs (by simpa [pln] using h)
    simpa [PyData.showable] using this
  | .dict kvs, h => by
    have : kvs = [] := by simpa [pln] using h
    subst this; simp [PyData.showable, PyData.showableKv]
theorem plns_showable : ∀ ds : List PyData, plns ds = true → PyData.showableAll ds = true
  | [], _ => by simp [PyData.showableAll]
  | d :: r, h => by
    obtain ⟨h1, h2⟩ : pln d = true ∧ plns r = true := by simpa [plns] using h
    simp [PyData.showableAll, pln_showable d h1, plns_showable r h2]
end
mutual
theorem pln_short : ∀ d : PyData, pln d = true → d.leavesShort 60 = true
  | .none, _ => by simp [PyData.leavesShort]
  | .bool _, _ => by simp [PyData.leavesShort]
  | .int i, h => by
    have : i.natAbs < 10 ^ 50 := by simpa only [pln, decide_eq_true_eq] using h
    simpa only [PyData.leavesShort, decide_eq_true_eq] using shown_int60 this
  | .str x, h => by
    simp only [PyData.leavesShort, List.all_eq_true, decide_eq_true_eq]
    simp only [pln, List.all_eq_true, decide_eq_true_eq] at h
    intro c hc
    have := h c hc
    omega
  | .list xs, h => by
    have := plns_short xs (by simpa [pln] using h)
    simpa [PyData.leavesShort] using this
  | .tuple xs, h => by
    have := plns_short xs (by simpa [pln] using h)
    simpa [PyData.leavesShort] using this
  | .dict kvs, h => by
    have : kvs = [] := by simpa [pln] using h
    subst this; simp [PyData.leavesShort, PyData.leavesShortKv]
theorem plns_short : ∀ ds : List PyData, plns ds = true → PyData.leavesShortAll 60 ds = true
  | [], _ => by simp [PyData.leavesShortAll]
  | d :: r, h => by
    obtain ⟨h1, h2⟩ : pln d = true ∧ plns r = true := by simpa [plns] using h
    simp [PyData.leavesShortAll, pln_short d h1, plns_short r h2]
end
theorem strOk_pln {x : Str} (h : (x.cps.toList.all fun c => decide (c < 128)) = true) : PyData.strOk x = true := by
  simp only [List.all_eq_true, decide_eq_true_eq] at h
  unfold PyData.strOk
  rw [Array.all_eq_true_iff_forall_mem]
  intro c hc
  have := h c (Array.mem_def.mp hc)
  exact decide_eq_true (by omega)
mutual
theorem pln_lay : ∀ d : PyData, pln d = true → d.hasDict = false → d.canLay0 = true
  | .none, _, _ => by simp [PyData.canLay0]
  | .bool _, _, _ => by simp [PyData.canLay0]
  | .int i, _, _ => by simp [PyData.canLay0]
  | .str x, h, _ => by
    simp only [PyData.canLay0]
    exact strOk_pln (by simpa only [pln] using h)
  | .list xs, h, n => by
    have := plns_lay xs (by simpa [pln] using h) (by simpa [PyData.hasDict] using n)
    simpa [PyData.canLay0] using this
  | .tuple xs, h, n => by
    have := plns_lay xs (by simpa [pln] using h) (by simpa [PyData.hasDict] using n)
    simpa [PyData.canLay0] using this
  | .dict kvs, _, n => by simp [PyData.hasDict] at n
theorem plns_lay : ∀ ds : List PyData, plns ds = true → PyData.hasDictAll ds = false → PyData.canLayAll0 ds = true
  | [], _, _ => by simp [PyData.canLayAll0]
  | d :: r, h, n => by
    obtain ⟨h1, h2⟩ : pln d = true ∧ plns r = true := by simpa [plns] using h
    obtain ⟨n1, n2⟩ : d.hasDict = false ∧ PyData.hasDictAll r = false := by simpa [PyData.hasDictAll] using n
    simp [PyData.canLayAll0, pln_lay d h1 n1, plns_lay r h2 n2]
end
theorem shaped_pln {d : PyData} (h : pln d = true) (n : d.hasDict = false) (hd : d.depth ≤ 64) : SeqAt.shaped d = true := by
  have := pln_lay d h n
  simp only [SeqAt.shaped, this, Bool.true_and]
  exact decide_eq_true hd
/-- what may be shown -/
structure Shw (d : PyData) : Prop where
  p : pln d = true
  n : d.hasDict = false ∨ noL d = true
  dp : d.depth ≤ 60
  bk : d.bulk ≤ 200000
theorem Shw.shown {d : PyData} (h : Shw d) : d.shown.length ≤ sizeLine := by
  have h1 := PyData.shown_le_bulk 60 (by decide) d (pln_short d h.p)
  have h2 : (60 + 2) * d.bulk ≤ 62 * 200000 := Nat.mul_le_mul (by omega) h.bk
  have e : sizeLine = 16777216 := by decide
  rw [e]
  omega
theorem Shw.r {d : PyData} (h : Shw d) : d.showable = true ∧ (d.hasDict = false ∨ noL d = true) ∧ d.depth ≤ 100 ∧ d.shown.length ≤ sizeLine := ⟨pln_showable d h.p, h.n, Nat.le_trans h.dp (by decide), h.shown⟩
/-- repr(x) of plain data -/
theorem repr_shw {K : PySem.W.Frag} {H : Hp} {x : V} {d : PyData} {Q : VK} (hd : Dq K H x d) (h : Shw d) (q : Q (.str d.shown) H) : rRepr K [x] H Q := ⟨x, d, rfl, hd, pln_showable d h.p, h.n, Nat.le_trans h.dp (by decide), h.shown, q⟩
/-- == of plain data without dicts -/
theorem shw_shaped {d : PyData} (h : Shw d) (n : d.hasDict = false) : SeqAt.shaped d = true := shaped_pln h.p n (Nat.le_trans h.dp (by decide))
theorem shw_bools (bs : List Bool) (h : bs.length ≤ 100) : Shw (.list (bs.map PyData.bool)) := by
  have h1 : ∀ cs : List Bool, plns (cs.map PyData.bool) = true ∧ PyData.hasDictAll (cs.map PyData.bool) = false ∧ PyData.depthAll (cs.map PyData.bool) ≤ 0 ∧ PyData.bulkAll (cs.map PyData.bool) ≤ 10 * cs.length := by
    intro cs
    induction cs with
    | nil => simp [plns, PyData.hasDictAll, PyData.depthAll, PyData.bulkAll]
    | cons b r ih =>
      obtain ⟨i1, i2, i3, i4⟩ := ih
      simp only [List.map_cons, plns, pln, PyData.hasDictAll, PyData.hasDict, PyData.depthAll, PyData.depth, PyData.bulkAll, PyData.bulk, List.length_cons, i1, i2, Bool.and_self, Bool.or_self]
      refine ⟨trivial, trivial, by omega, by omega⟩
  obtain ⟨a1, a2, a3, a4⟩ := h1 bs
  refine ⟨by simpa only [pln] using a1, .inl (by simpa only [PyData.hasDict] using a2), by simp only [PyData.depth]; omega, ?_⟩
  show PyData.bulkAll _ ≤ 200000
  omega
end EL
/-! Written data: an expression of constants, tuples, lists gives its data at new places. -/
namespace EL
open PySem PySem.Spec PyProof.Rows L2
/-- a reading, weakened -/
def clE (t : TE) : TE := fun σ H Q => ∃ P : VK, t σ H P ∧ ∀ v H1, P v H1 → Q v H1
def clA (t : TA) : TA := fun σ H Q => ∃ P : List V → Hp → Prop, t σ H P ∧ ∀ vs H1, P vs H1 → Q vs H1
theorem PE.cl {X : Cx} {e : Expr} {t : TE} (h : PE X e t) : PE X e (clE t) := ⟨fun pins s σ H Q I q => by
  obtain ⟨P, p, w⟩ := q
  refine wpAny_mono (h.run pins s σ H P I p) (fun u s1 z => ?_) fun _ _ z => z
  obtain ⟨v, H1, I1, r, q⟩ := z
  exact ⟨v, H1, I1, r, w v H1 q⟩⟩
theorem PA.cl {X : Cx} {es : List Expr} {t : TA} (h : PA X es t) : PA X es (clA t) := ⟨fun pos pins s σ H Q I q => by
  obtain ⟨P, p, w⟩ := q
  refine wpAny_mono (h.run pos pins s σ H P I p) (fun u s1 z => ?_) fun _ _ z => z
  obtain ⟨v, H1, I1, r, q⟩ := z
  exact ⟨v, H1, I1, r, w v H1 q⟩⟩
def tK (K : PySem.W.Frag) (d : PyData) : TE := fun _ H Q => ∀ v H', Same H H' → Dq K H' v d → Q v H'
def tKs (K : PySem.W.Frag) (ds : List PyData) : TA := fun _ H Q => ∀ vs H', Same H H' → DqAll K H' vs ds → Q vs H'
section
variable {X : Cx}
theorem kd_int {i j pos} : PE X (.Constant (.int i) j pos) (tK X.K (.int i)) := ⟨fun pins s σ H Q I h => pe_int.run pins s σ H Q I (h _ H (Same.refl H) (.int i))⟩
theorem kd_bl {b j pos} : PE X (.Constant (.bool b) j pos) (tK X.K (.bool b)) := ⟨fun pins s σ H Q I h => pe_bl.run pins s σ H Q I (h _ H (Same.refl H) (.bl b))⟩
theorem kd_non {j pos} : PE X (.Constant .none j pos) (tK X.K .none) := ⟨fun pins s σ H Q I h => pe_non.run pins s σ H Q I (h _ H (Same.refl H) .non)⟩
theorem kd_str {x j pos} : PE X (.Constant (.str x) j pos) (tK X.K (.str x)) := ⟨fun pins s σ H Q I h => pe_str.run pins s σ H Q I (h _ H (Same.refl H) (.str x))⟩
theorem kd_nil : PA X [] (tKs X.K []) := ⟨fun pos pins s σ H Q I h => pa_nil.run pos pins s σ H Q I (h _ H (Same.refl H) .nil)⟩
theorem kd_cons {e : Expr} {es : List Expr} {d : PyData} {ds : List PyData} (ha : PE X e (tK X.K d)) (hr : PA X es (tKs X.K ds)) (hs : starEach (e :: es) X.env = (false, eval e X.env) :: starEach es X.env := by rfl) : PA X (e :: es) (tKs X.K (d :: ds)) :=
  ⟨fun pos pins s σ H Q I h => (pa_cons ha hr hs).run pos pins s σ H Q I fun v H1 s1 d1 vs H2 s2 d2 => h _ H2 (s1.trans s2) (.cons (d1.up s2) d2)⟩
theorem kd_tup {es : List Expr} {ds : List PyData} {x1 pos} (h : PA X es (tKs X.K ds)) (hz : ds.length ≤ 1000000 := by decide) : PE X (.Tuple es x1 pos) (tK X.K (.tuple ds)) :=
  ⟨fun pins s σ H Q I q => (pe_tup h).run pins s σ H Q I fun vs H1 s1 d1 => ⟨len_sz (by rw [d1.len]; exact hz), fun p np => q _ _ (s1.trans (same_upd np)) (.tup (stOf upd_same) (d1.up (same_upd np)))⟩⟩
theorem kd_lst {es : List Expr} {ds : List PyData} {pos} (h : PA X es (tKs X.K ds)) (hz : ds.length ≤ 1000000 := by decide) : PE X (.List es pos) (tK X.K (.list ds)) :=
  ⟨fun pins s σ H Q I q => (pe_lst h).run pins s σ H Q I fun vs H1 s1 d1 => ⟨len_sz (by rw [d1.len]; exact hz), fun p np => q _ _ (s1.trans (same_upd np)) (.lst (sqOf upd_same) (d1.up (same_upd np)))⟩⟩
theorem kd_dic {pos} : PE X (.Dict [] [] pos) (tK X.K (.dict [])) :=
  ⟨fun pins s σ H Q I q => pe_dnewK.run pins s σ H Q I fun p np => q _ _ (same_upd np) (.dic upd_same)⟩
end
/-! ### data of tuples alone stands beside the deck -/
mutual
/-- no list and no dict within -/
def noLD : PyData → Bool
  | .none | .bool _ | .int _ | .str _ => true
  | .list _ | .dict _ => false
  | .tuple xs => noLDs xs
def noLDs : List PyData → Bool
  | [] => true
  | x :: xs => noLD x && noLDs xs
end
theorem sqT_hid {K : PySem.W.Frag} {H : Hp} {a q b : Addr} {m : Nat} {xs : List V} (D : Dw a q m H) (h : SqT K H b xs) : SqT K (hid a q H) b xs := by
  obtain ⟨c, _, k⟩ := D
  obtain ⟨_, _, _, ha⟩ := k.top
  obtain ⟨_, _, hq⟩ := k.que
  rcases h with (h | ⟨o, h⟩) | h
  · exact .inl (.inl (by rw [hid_ne (fun e => by rw [e, ha] at h; cases h) (fun e => by rw [e, hq] at h; cases h)]; exact h))
  · exact .inl (.inr ⟨o, by rw [hid_ne (fun e => by rw [e, ha] at h; cases h) (fun e => by rw [e, hq] at h; cases h)]; exact h⟩)
  · exact .inr h
mutual
theorem dq_hidT {K : PySem.W.Frag} {H : Hp} {a q : Addr} {m : Nat} (D : Dw a q m H) : ∀ (d : PyData) (v : V), Dq K H v d → noLD d = true → Dq K (hid a q H) v d
  | .none, _, h, _ => by cases h; exact .non
  | .bool b, _, h, _ => by cases h; exact .bl b
  | .int i, _, h, _ => by cases h; exact .int i
  | .str x, _, h, _ => by cases h; exact .str x
  | .list ds, _, h, n => by simp [noLD] at n
  | .tuple ds, _, h, n => by
    cases h with
    | tup hs ha => exact .tup (sqT_hid D hs) (dqAll_hidT D ds _ ha (by simpa [noLD] using n))
  | .dict _, _, h, n => by simp [noLD] at n
theorem dqAll_hidT {K : PySem.W.Frag} {H : Hp} {a q : Addr} {m : Nat} (D : Dw a q m H) : ∀ (ds : List PyData) (vs : List V), DqAll K H vs ds → noLDs ds = true → DqAll K (hid a q H) vs ds
  | [], _, h, _ => by cases h; exact .nil
  | d :: ds, _, h, n => by
    cases h with
    | cons h1 h2 =>
      obtain ⟨n1, n2⟩ : noLD d = true ∧ noLDs ds = true := by simpa [noLDs] using n
      exact .cons (dq_hidT D d _ h1 n1) (dqAll_hidT D ds _ h2 n2)
end
end EL
namespace KP
open PySem PySem.Spec PyProof.Rows L2 EL
abbrev planV (n : Int) (x y z : V) : List (L2.Key × V) := [(.inr "wide", .int n), (.inr "in", x), (.inr "ways", y), (.inr "out", z)]
theorem plan_wide {H : Hp} {p : Addr} {n : Int} {x y z : V} (h : H p = some (.dK (planV n x y z))) : DGet H p (kV (.inr "wide")) (some (.int n)) := by
  have := DGet.k (k := .inr "wide") h
  simpa [valV] using this
theorem plan_in {H : Hp} {p : Addr} {n : Int} {x y z : V} (h : H p = some (.dK (planV n x y z))) : DGet H p (kV (.inr "in")) (some x) := by
  have n1 : ¬ ("wide" : Str) = "in" := by decide +kernel
  have := DGet.k (k := .inr "in") h
  simpa [valV, n1] using this
theorem plan_ways {H : Hp} {p : Addr} {n : Int} {x y z : V} (h : H p = some (.dK (planV n x y z))) : DGet H p (kV (.inr "ways")) (some y) := by
  have n2 : ¬ ("wide" : Str) = "ways" := by decide +kernel
  have n3 : ¬ ("in" : Str) = "ways" := by decide +kernel
  have := DGet.k (k := .inr "ways") h
  simpa [valV, n2, n3] using this
theorem plan_out {H : Hp} {p : Addr} {n : Int} {x y z : V} (h : H p = some (.dK (planV n x y z))) : DGet H p (kV (.inr "out")) (some z) := by
  have n4 : ¬ ("wide" : Str) = "out" := by decide +kernel
  have n5 : ¬ ("in" : Str) = "out" := by decide +kernel
  have n6 : ¬ ("ways" : Str) = "out" := by decide +kernel
  have := DGet.k (k := .inr "out") h
  simpa [valV, n4, n5, n6] using this
/-- a method that may be called -/
structure CalM (P : Program) (w : World) (K : PySem.W.Frag) (mg : Str → Option Value) (base : Heap) (k : Nat) (C : Addr) (m : Str) (ps : List Str) (sp : Sp) where
  f : Addr
  fd : FuncData
  ok : FnOk P w K mg base CX0 k f fd ps sp
  mt : Meth K C m f
  b : Binds K fd ps []
theorem pe_calM {X : Cx} {k : Nat} {C : Addr} {m : Str} {ps : List Str} {sp : Sp} {E : XK} {o e : Expr} {es : List Expr} {ta : TE} {t : TA} {apos pos : Pos} {pl : Sem Bool} (c : Cls X.K C) (M : CalM X.prog X.w X.K X.mg X.base k C m ps sp) (hr : Room k X.A) (hx : Passes CX0 X E) (he : PE X o ta) (ha : PA X (e :: es) t)
    (hst : starEach (e :: es) X.env = (false, eval e X.env) :: starEach es X.env := by rfl) (hpl : (backTo pos (starEach es X.env)).any (·.1) = false := by rfl)
    (ht : eval (.Call (.Attribute o m apos) (e :: es) [] pos) X.env = (do
      let ov ← eval o X.env
      standAt apos.atName
      let (f, first) ← holding [ov] (getMethod ov m pl)
      callWith pos f first (backTo pos (starEach (e :: es) X.env)) (backToKw pos (keywordEach [] X.env))) := by rfl) :
    PE X (.Call (.Attribute o m apos) (e :: es) [] pos) (tMeth C m sp [] E ta t) := pe_meth he c M.mt M.ok hr M.b .nil hx ha hst hpl ht
theorem pe_calM0 {X : Cx} {k : Nat} {C : Addr} {m : Str} {ps : List Str} {sp : Sp} {E : XK} {o : Expr} {ta : TE} {apos pos : Pos} {pl : Sem Bool} (c : Cls X.K C) (M : CalM X.prog X.w X.K X.mg X.base k C m ps sp) (hr : Room k X.A) (hx : Passes CX0 X E) (he : PE X o ta)
    (ht : eval (.Call (.Attribute o m apos) [] [] pos) X.env = (do
      let ov ← eval o X.env
      standAt apos.atName
      let (f, first) ← holding [ov] (getMethod ov m pl)
      callWith pos f first (backTo pos (starEach [] X.env)) (backToKw pos (keywordEach [] X.env))) := by rfl) :
    PE X (.Call (.Attribute o m apos) [] [] pos) (tMeth C m sp [] E ta tNil) := pe_meth0 he c M.mt M.ok hr M.b .nil hx ht
theorem pf_miss {f : Str} (n : Int) (b m e : V) (h1 : (f == ("size" : Str)) = false := by decide +kernel) (h2 : (f == ("begins" : Str)) = false := by decide +kernel) (h3 : (f == ("moves" : Str)) = false := by decide +kernel) (h4 : (f == ("ends" : Str)) = false := by decide +kernel) : (pf n b m e).lookup f = none := by
  simp only [pf, List.lookup, h1, h2, h3, h4]
theorem pf_no (n : Int) (b m e : V) : (pf n b m e).lookup ("tells" : Str) = none := by
  have h1 : (("tells" : Str) == "size") = false := by decide +kernel
  have h2 : (("tells" : Str) == "begins") = false := by decide +kernel
  have h3 : (("tells" : Str) == "moves") = false := by decide +kernel
  have h4 : (("tells" : Str) == "ends") = false := by decide +kernel
  simp only [pf, List.lookup, h1, h2, h3, h4]
/-! ### pacers beside the deck -/
theorem nats_noLD (ns : List Nat) : noLD (.tuple (nats ns)) = true := by
  simp only [noLD]
  induction ns with
  | nil => rfl
  | cons n r ih => simpa [noLDs, noLD] using ih
theorem mvs_noLD (ms : List Mv) : noLD (.tuple (ms.map mvD)) = true := by
  simp only [noLD]
  induction ms with
  | nil => rfl
  | cons m r ih =>
    simp only [List.map_cons, noLDs, ih, Bool.and_true]
    simp [mvD, noLD, noLDs]
theorem PacAt.hidden {K : PySem.W.Frag} {C : Addr} {H : Hp} {x a q : Addr} {m : Nat} {pl : Plan} (h : PacAt K C H x pl) (D : Dw a q m H) : PacAt K C (hid a q H) x pl := by
  obtain ⟨dx, vb, vm, ve, h1, h2, h3, h4⟩ := h.at'
  obtain ⟨c, _, k⟩ := id D
  obtain ⟨_, _, _, ha⟩ := k.top
  obtain ⟨_, _, hq⟩ := k.que
  refine ⟨dx, vb, vm, ve, ?_, dq_hidT D _ _ h2 (nats_noLD _), dq_hidT D _ _ h3 (mvs_noLD _), dq_hidT D _ _ h4 (nats_noLD _)⟩
  rw [hid_ne (fun e => by rw [e, ha] at h1; cases h1) (fun e => by rw [e, hq] at h1; cases h1)]
  exact h1
theorem PacAt.ins {K : PySem.W.Frag} {C : Addr} {H : Hp} {x : Addr} {pl : Plan} (h : PacAt K C H x pl) (f : Str) (h1 : (f == ("size" : Str)) = false := by decide +kernel) (h2 : (f == ("begins" : Str)) = false := by decide +kernel) (h3 : (f == ("moves" : Str)) = false := by decide +kernel) (h4 : (f == ("ends" : Str)) = false := by decide +kernel) :
    ∃ dx fs, H x = some (.ins C dx fs) ∧ fs.lookup f = none := by
  obtain ⟨dx, vb, vm, ve, e1, _⟩ := h.at'
  exact ⟨dx, _, e1, pf_miss _ _ _ _ h1 h2 h3 h4⟩
/-- Pacer(..) of what is right -/
def tPac (K : PySem.W.Frag) (C : Addr) (t : TA) : TE := fun σ H Q => t σ H fun vs H1 => ∃ (pl : Plan) (top many long : Nat) (v1 v2 v3 : V), vs = [.int (pl.wide : Int), v1, v2, v3] ∧ Dq K H1 v1 (.tuple (nats pl.ins)) ∧ Dq K H1 v2 (.tuple (pl.ways.map mvD)) ∧ Dq K H1 v3 (.tuple (nats pl.outs)) ∧
  pl.Ok top many long ∧ top ≤ 50 ∧ many ≤ 50 ∧ long ≤ 50 ∧ ∀ x H', Same H1 H' → H1 x = none → PacAt K C H' x pl → Q (.ref x) H'
theorem pe_pac {X : Cx} {k : Nat} {C : Addr} {E : XK} {e : Expr} {es : List Expr} {t : TA} {p pos : Pos} (CC : CalC X.prog X.w X.K X.mg X.base k C) (hr : Room (k + 1) X.A) (hg : Gl X "Pacer") (hx : Passes CX0 X E) (ha : PA X (e :: es) t)
    (he : starEach (e :: es) X.env = (false, eval e X.env) :: starEach es X.env := by rfl) (hpl : (backTo pos (starEach es X.env)).any (·.1) = false := by rfl) :
    PE X (.Call (.Name "Pacer" p) (e :: es) [] pos) (tPac X.K C t) := by
  refine ⟨fun pins s σ H Q I h => (pe_make CC.mke CC.ok hr hg CC.g CC.b .nil hx (EL.PA.cl ha) (by decide) he hpl).run pins s σ H Q I ?_⟩
  refine ⟨_, h, ?_⟩
  rintro vs H1 ⟨pl, top, many, long, v1, v2, v3, rfl, d1, d2, d3, hO, t1, t2, t3, kQ⟩
  intro x dx nx ndx nex
  have s2 : Same H1 (upd (upd H1 dx (.own x)) x (.ins C dx [])) := fun b o e => by
    rw [upd_ne (ne_of_none e nx), upd_ne (ne_of_none e ndx)]; exact e
  have gx : upd (upd H1 dx (.own x)) x (.ins C dx []) x = some (.ins C dx []) := upd_same
  generalize upd (upd H1 dx (.own x)) x (.ins C dx []) = H2 at s2 gx ⊢
  have b1 := asc_len hO.i
  have b2 := asc_len hO.o
  have w2 := hO.w2
  have nn := hO.n
  refine ⟨x, dx, (pl.wide : Int), v1, v2, v3, _, _, _, rfl, gx, d1.up s2, d2.up s2, d3.up s2, ?_, ?_, ?_, by have := hO.w1; omega, states_ok hO.i, moves_ok hO.m, states_ok hO.o, fun H3 keep g => ⟨rfl, ?_⟩⟩
  · show PyData.bulkAll _ ≤ 500000
    have := nats_bulk pl.ins; omega
  · show PyData.bulkAll _ ≤ 500000
    have := moves_bulk t3 hO.m; omega
  · show PyData.bulkAll _ ≤ 500000
    have := nats_bulk pl.outs; omega
  · have s13 : Same H1 H3 := fun b o e => keep b o (ne_of_none e nx) (s2 b o e)
    have ref_of : ∀ {v : V} {ds : List PyData}, Dq X.K H1 v (.tuple ds) → ∃ a, v = .ref a := fun h => by cases h with | tup _ _ => exact ⟨_, rfl⟩
    obtain ⟨a1, rfl⟩ := ref_of d1
    obtain ⟨a2, rfl⟩ := ref_of d2
    obtain ⟨a3, rfl⟩ := ref_of d3
    exact kQ x H3 s13 nx ⟨dx, a1, a2, a3, g, d1.up s13, d2.up s13, d3.up s13⟩
/-- .. of written parts -/
theorem pe_pacK {X : Cx} {k : Nat} {C : Addr} {E : XK} {e : Expr} {es : List Expr} {ds : List PyData} {p pos : Pos} (pl : Plan) (CC : CalC X.prog X.w X.K X.mg X.base k C) (hr : Room (k + 1) X.A) (hg : Gl X "Pacer") (hx : Passes CX0 X E) (ha : PA X (e :: es) (tKs X.K ds))
    (hds : ds = [.int (pl.wide : Int), .tuple (nats pl.ins), .tuple (pl.ways.map mvD), .tuple (nats pl.outs)]) (hO : pl.Ok 50 50 50)
    (he : starEach (e :: es) X.env = (false, eval e X.env) :: starEach es X.env := by rfl) (hpl : (backTo pos (starEach es X.env)).any (·.1) = false := by rfl) :
    PE X (.Call (.Name "Pacer" p) (e :: es) [] pos) (fun _ H Q => ∀ x H', Same H H' → H x = none → PacAt X.K C H' x pl → Q (.ref x) H') := by
  refine ⟨fun pins s σ H Q I h => (pe_pac CC hr hg hx ha he hpl).run pins s σ H Q I ?_⟩
  subst hds
  intro vs H1 s1 dq
  cases dq with
  | cons d0 dq => cases dq with
  | cons d1 dq => cases dq with
  | cons d2 dq => cases dq with
  | cons d3 dq =>
    cases dq
    cases d0
    exact ⟨pl, 50, 50, 50, _, _, _, rfl, d1, d2, d3, hO, Nat.le_refl _, Nat.le_refl _, Nat.le_refl _, fun x H' s2 n g => h x H' (s1.trans s2) (s1.free n) g⟩
theorem Plan.Ok.upto {p : Plan} {a b c a' b' c' : Nat} (h : p.Ok a b c) (h1 : a ≤ a') (h2 : b ≤ b') (h3 : c ≤ c') : p.Ok a' b' c' := ⟨h.w1, Nat.le_trans h.w2 h1, h.i, h.o, Nat.le_trans h.n h2, fun m hm => by obtain ⟨q1, q2, q3, q4, q5⟩ := h.m m hm; exact ⟨q1, q2, Nat.le_trans q3 h3, Nat.le_trans q4 h3, q5⟩⟩
theorem dqAll_nats {K : PySem.W.Frag} {H : Hp} : ∀ {ns : List Nat} {vs : List V}, DqAll K H vs (nats ns) → vs = ns.map fun (n : Nat) => V.int (n : Int)
  | [], _, h => by cases h; rfl
  | n :: r, _, h => by
    cases h with
    | cons h1 h2 => cases h1; rw [dqAll_nats h2]; rfl
theorem cut_app (a b : Str) : (a ++ b).length = a.length + b.length := by
  show (a.cps ++ b.cps).size = _
  rw [Array.size_append]; rfl
theorem cut_two (z : Str) (c : Nat) : (cutS z none (some (c : Int)) ++ cutS z (some ((c : Int) + 1)) none).length ≤ z.length := by
  rw [cut_app]
  show (((z.cps.toList.drop (HT.sIx z.length 0 none)).take (HT.sIx z.length z.length (some (c : Int)) - HT.sIx z.length 0 none)).toArray).size + (((z.cps.toList.drop (HT.sIx z.length 0 (some ((c : Int) + 1)))).take (HT.sIx z.length z.length none - HT.sIx z.length 0 (some ((c : Int) + 1)))).toArray).size ≤ z.cps.size
  rw [show ((c : Int) + 1) = ((c + 1 : Nat) : Int) by omega, HT.sIx_nat, HT.sIx_nat, HT.sIx_none, HT.sIx_none, List.size_toArray, List.size_toArray, List.length_take, List.length_take, List.length_drop, List.length_drop, Array.length_toList]
  show _ ≤ z.length
  omega
theorem peq_self (pl : Plan) (h : AscP pl) : peq pl pl = true := by
  have sh : ∀ d : PyData, SeqAt.shaped d = true → PyData.eqv d d = true := fun d q => SeqAt.eqv_refl d (by
    simp only [SeqAt.shaped, Bool.and_eq_true] at q; exact q.1)
  unfold peq
  rw [sh _ (shaped_nats _), sh _ (shaped_nats _), sh _ (shaped_moves h), decide_eq_true rfl]; rfl
end KP
/-! xs[::2] of a list. -/
namespace EL
open PySem PySem.Spec PyProof.Rows L2
def evs (xs : List V) : List V := (sliceRange 0 (xs.length : Int) 2).filterMap (xs[·]?)
theorem evs_mem {xs : List V} {v : V} (h : v ∈ evs xs) : v ∈ xs := by
  obtain ⟨k, _, e⟩ := List.mem_filterMap.mp h
  exact List.mem_of_getElem? e
theorem vals_pick {xs : List V} {its : List Value} (r : Vals xs its) : ∀ R : List Nat, Vals (R.filterMap (xs[·]?)) (R.filterMap (its[·]?))
  | [] => .nil
  | k :: R => by
    have ih := vals_pick r R
    rw [List.filterMap_cons, List.filterMap_cons]
    by_cases h : k < xs.length
    · obtain ⟨u, hu, ru⟩ := r.get (List.getElem?_eq_getElem h)
      rw [List.getElem?_eq_getElem h, hu]
      exact .cons ru ih
    · rw [List.getElem?_eq_none (by omega), List.getElem?_eq_none (by rw [← r.length]; omega)]
      exact ih
theorem evs_len (xs : List V) : (evs xs).length ≤ xs.length := by
  refine Nat.le_trans (List.length_filterMap_le _ _) (sliceRange_length_le _ _ _ _ (fun _ => ⟨by omega, Int.le_refl _⟩) fun h => ?_)
  exact absurd (by decide : (2 : Int) > 0) h
def tEvs (K : PySem.W.Frag) (te : TE) : TE := fun σ H Q => te σ H fun x H1 => ∃ a xs, x = .ref a ∧ SqL K H1 a xs ∧ ∀ p, H1 p = none → Q (.ref p) (upd H1 p (.lst (evs xs)))
theorem pe_evs {X : Cx} {e : Expr} {te : TE} {k : Nat} {p2 p3 pos : Pos} (he : PE X e te) : PE X (.Subscript e (.Slice none none (some (.Constant (.int 2) k p2)) p3) pos) (tEvs X.K te) := by
  refine ⟨fun pins s σ H Q I h => ?_⟩
  refine Subscript_ (thn (he.run pins s σ H _ I h) fun v s1 ⟨x, H1, I1, r1, q1⟩ => ?_)
  obtain ⟨a, xs, ex, hx, q⟩ := q1
  subst ex
  cases r1
  have hst : PO X (some (.Constant (.int 2) k p2)) (tPart (tC (.int 2))) := po_some pe_int
  refine wpAny_Slice (thn (po_none.run pins s1 σ H1 (fun o H2 => o = none ∧ H2 = H1) I1 ⟨rfl, rfl⟩) fun vl s2 ⟨l, H2, I2, pl, el, e2⟩ => ?_)
  subst el e2
  refine thn (po_none.run pins s2 σ H2 (fun o H3 => o = none ∧ H3 = H2) I2 ⟨rfl, rfl⟩) fun vu s3 ⟨u, H3, I3, pu, eu, e3⟩ => ?_
  subst eu e3
  refine thn (hst.run pins s3 σ H3 (fun o H4 => o = some 2 ∧ H4 = H3) I3 ⟨2, rfl, rfl, rfl⟩) fun vs s4 ⟨o, H4, I4, ps, eo, e4⟩ => ?_
  subst eo e4
  have I5 : Inv X pins σ H4 { s4 with heap := s4.heap.push { cls := .type "slice", data := .fields #[vl, vu, vs] } } := I4.kept (t' := s4.toks) fun b ob q => Heap.get?_push_of_some _ q
  obtain ⟨its, r, ht, hz⟩ := I5.list hx
  have hlen := r.length
  show wpAny (model X.prog X.w) X.A (subscriptTail e (.Slice none none (some (.Constant (.int 2) k p2)) p3) (.ref a) (.ref s4.heap.objs.size)) (EP X pins σ Q) X.xe { s4 with heap := s4.heap.push { cls := .type "slice", data := .fields #[vl, vu, vs] } }
  refine tail_any (ops := [.ref a, .ref s4.heap.objs.size]) ht.isList.typeIs (PySem.slot_list_getitem.lookup) ?_ (by with_unfolding_all rfl)
  refine wpAny_getItem_list_slice ht.isList (Heap.IsSliceOf.new _ vl vu vs) pl pu ps (by decide) ?_ (by rw [List.size_toArray]; omega)
  have ep : slicePick its.toArray none none (some 2) = ((sliceRange 0 (xs.length : Int) 2).filterMap (its[·]?)).toArray := by
    unfold slicePick
    rw [show sliceBounds none none (some 2) its.toArray.size = (0, (its.toArray.size : Int), 2) from rfl]
    show ((sliceRange 0 (its.toArray.size : Int) 2).filterMap (its.toArray[·]?)).toArray = _
    rw [List.size_toArray, ← hlen]
    congr 2
    funext i
    simp
  rw [ep]
  refine ⟨.ref _, _, I5.laid (t' := s4.toks) (o := .lst (evs xs)) (fun b ob q => Heap.get?_push_of_some _ q) (Nat.le_refl _) ?_, rfl, q _ (I5.hok.fresh (Nat.le_refl _))⟩
  exact ⟨Nat.le_trans (evs_len xs) hz, _, 0, vals_pick r _, Heap.get?_push_size _ rfl⟩
end EL
/-! Comprehensions whose items are data made on the way: the heap without the list that grows. -/
namespace EL
open PySem PySem.Spec PyProof.Rows L2
/-- the heap without one object -/
def wo (D : Addr) (H : Hp) : Hp := fun b => if b = D then none else H b
theorem wo_ne {D b : Addr} {H : Hp} (h : b ≠ D) : wo D H b = H b := if_neg h
theorem wo_at {D : Addr} {H : Hp} : wo D H D = none := if_pos rfl
theorem wo_some {D b : Addr} {H : Hp} {o : HO} (h : wo D H b = some o) : b ≠ D ∧ H b = some o := by
  by_cases e : b = D
  · subst e; rw [wo_at] at h; cases h
  · exact ⟨e, by rw [wo_ne e] at h; exact h⟩
theorem wo_sub {D : Addr} {H : Hp} : Same (wo D H) H := fun _ _ h => (wo_some h).2
theorem wo_upd {D : Addr} {H : Hp} {o : HO} : wo D (upd H D o) = wo D H := by
  funext b
  by_cases e : b = D
  · subst e; rw [wo_at, wo_at]
  · rw [wo_ne e, wo_ne e, upd_ne e]
theorem same_wo {D : Addr} {H H' : Hp} (s : Same H H') : Same (wo D H) (wo D H') := fun b o h => by
  obtain ⟨e, h⟩ := wo_some h
  rw [wo_ne e]; exact s b o h
theorem wo_id {D : Addr} {H : Hp} (n : H D = none) : wo D H = H := by
  funext b
  by_cases e : b = D
  · subst e; rw [wo_at, n]
  · exact wo_ne e
/-- a comprehension's list at D behind i turns: the data f i, beside the list itself -/
def LcG (K : PySem.W.Frag) (D : Addr) (H : Hp) (f : Nat → List PyData) (i : Nat) (H' : Hp) : Prop := ∃ vs, H' D = some (.lst vs) ∧ DqAll K (wo D H') vs (f i) ∧ vs.length ≤ i ∧ Same H (wo D H')
section
variable {K : PySem.W.Frag} {D : Addr} {H H1 H2 : Hp} {f : Nat → List PyData} {i : Nat}
theorem LcG.start (n : H D = none) (h0 : f 0 = []) : LcG K D H f 0 (upd H D (.lst [])) :=
  ⟨[], upd_same, by rw [h0]; exact .nil, Nat.le_refl _, by rw [wo_upd, wo_id n]; exact Same.refl _⟩
theorem LcG.sm (L : LcG K D H f i H1) (n : H D = none) : Same H H1 := by
  obtain ⟨_, _, _, _, s⟩ := L
  exact s.trans wo_sub
theorem LcG.at (L : LcG K D H f i H1) : ∃ vs, H1 D = some (.lst vs) := by
  obtain ⟨vs, h, _⟩ := L
  exact ⟨vs, h⟩
theorem DqAll.snoc' {vs : List V} {ds : List PyData} {v : V} {d : PyData} (h : DqAll K H vs ds) (g : Dq K H v d) : DqAll K H (vs ++ [v]) (ds ++ [d]) := h.app (.cons g .nil)
theorem lcg_some {v : V} {d : PyData} (L : LcG K D H f i H1) (s : Same H1 H2) (hf : f (i + 1) = f i ++ [d]) (hv : Dq K (wo D H2) v d) (hi : i < 1000000) :
    ∃ acc, H2 D = some (.lst acc) ∧ acc.length < sizeLine ∧ LcG K D H f (i + 1) (upd H2 D (.lst (acc ++ [v]))) := by
  obtain ⟨vs, h1, h2, h3, h4⟩ := L
  refine ⟨vs, s _ _ h1, lt_sz (by omega), vs ++ [v], upd_same, ?_, by rw [List.length_append]; show vs.length + 1 ≤ _; omega, ?_⟩
  · rw [wo_upd, hf]
    exact (h2.up (same_wo s)).snoc' hv
  · rw [wo_upd]
    exact h4.trans (same_wo s)
theorem lcg_none (L : LcG K D H f i H1) (s : Same H1 H2) (hf : f (i + 1) = f i) : LcG K D H f (i + 1) H2 := by
  obtain ⟨vs, h1, h2, h3, h4⟩ := L
  exact ⟨vs, s _ _ h1, by rw [hf]; exact h2.up (same_wo s), by omega, h4.trans (same_wo s)⟩
/-- at the end: a list of this data -/
theorem LcG.done (L : LcG K D H f i H1) : ∃ vs, H1 D = some (.lst vs) ∧ DqAll K (wo D H1) vs (f i) ∧ DqAll K H1 vs (f i) ∧ vs.length ≤ i := by
  obtain ⟨vs, h1, h2, h3, _⟩ := L
  exact ⟨vs, h1, h2, h2.up wo_sub, h3⟩
/-- a new tuple stands beside the list -/
theorem tup_wo {p : Addr} {xs : List V} {ds : List PyData} (hD : ∃ vs, H1 D = some (.lst vs)) (np : H1 p = none) (h : DqAll K (wo D H1) xs ds) : Dq K (wo D (upd H1 p (.tup xs))) (.ref p) (.tuple ds) := by
  obtain ⟨vs, hD⟩ := hD
  have e : p ≠ D := fun e => by rw [e, hD] at np; cases np
  exact .tup (stOf (by rw [wo_ne e]; exact upd_same)) (h.up (same_wo (same_upd np)))
theorem take_snoc {α : Type} {l : List α} {i : Nat} {x : α} (h : l[i]? = some x) : l.take (i + 1) = l.take i ++ [x] := by
  rw [List.take_add_one, h]; rfl
end
/-! ### a method without arguments -/
theorem mv_get {α : Type} {l : List α} {g : α → PyData} {i : Nat} {d : PyData} (h : (l.map g)[i]? = some d) : ∃ x, l[i]? = some x ∧ d = g x := by
  rw [List.getElem?_map] at h
  cases e : l[i]? with
  | none => rw [e] at h; cases h
  | some x => rw [e] at h; exact ⟨x, rfl, (Option.some.inj h).symm⟩
end EL
/-! set(xs) of a list of ints: a set that can be sorted. -/
namespace EL
open PySem PySem.Spec PyProof.Rows L2
section
variable {P : Program} {w : World} {A : Around} {E : Value → Shared → Prop} {s : Shared}
/-- the empty set, as it is laid -/
abbrev bareSet (w : World) : Obj := { cls := .type "set", dict := none, data := .set #[] 0 (.fresh 0 0 (!w.params.followText "set-order")) }
theorem set_list_ints {l : Addr} {items : Array Value} (ns : List Int) {Q : Value → Shared → Prop} (hh : A.handled = none) (hl : s.heap.IsList l items) (hit : IntsAre items.toList ns) (hb : ns.length + 1 < scanBound)
    (h : ∀ (g : Heap) (tk c : Nat), SetR w g s.heap.objs.size (fun j => decide (j ∈ ns)) c → c ≤ ns.length → (∀ b o, s.heap.get? b = some o → g.get? b = some o) → Q (.ref s.heap.objs.size) { s with heap := g, toks := tk }) : wpAny (model P w) A (call (.type "set") [.ref l]) Q E s := by
  have len : items.size = ns.length := by
    rw [← Array.length_toList]; exact IntsAre.length hit
  obtain ⟨_, _, mr⟩ := PySem.F.called_set.mro
  have md := PySem.F.called_set.made
  have sb := PySem.F.called_set.sub
  refine wpAny_call (codeAny_of_tree ?_)
  show wpAny _ _ (callAny (.type "set") _) _ _ _
  refine wpAny_pure ⟨Code.quiet_builtin _ (by decide +kernel), codeAny_builtin (PySem.F.entry_type_call) ?_⟩
  rw [Around.under_plain (weight_type_call_type "set" [.ref l] []) rfl]
  have q1 := PySem.F.called_set.notType
  have q2 := PySem.F.called_set.canCreate
  have q3 := PySem.F.typeCall_set_1 (.ref l)
  repeat (any_goals (first | assumption | wp_step))
  generalize hN : s.heap.objs.size = N at h ⊢
  have made : ∀ B : Around, codeAny (model P w) B (.call (.builtin "set.__new__") ⟨[.type "set", .ref l], []⟩) (wants (fun obj s₁ => obj = .ref N ∧ s₁ = { s with heap := s.heap.push (bareSet w) }) E) s := fun B => code_set_led1 (.ref l) (by rw [← hN]; exact ⟨rfl, rfl⟩)
  refine codeAny_mono (made _) fun r s₁ hr => ?_
  match r, hr with
  | .error e, hr => exact hr
  | .ok (.ret obj), ⟨e1, e2⟩ =>
    subst e1 e2
    have hS : (s.heap.push (bareSet w)).get? N = some (bareSet w) := by rw [← hN]; exact Heap.get?_push_size _ rfl
    have hT : Shared.TypeIs { s with heap := s.heap.push (bareSet w) } (.ref N) "set" := ⟨_, hS, rfl⟩
    have hli := PySem.F.called_set.init.lookup
    have hbi := PySem.F.called_set.init.bind (.ref N)
    repeat (any_goals (first | assumption | wp_step))
    have init : ∀ B : Around, B.handled = none → codeAny (model P w) B (.call (.builtin "set.__init__") ⟨[.ref N, .ref l], []⟩) (wants (fun r s₂ => r = .none ∧ ∃ g tk c, s₂ = { s with heap := g, toks := tk } ∧ SetR w g N (fun j => decide (j ∈ ns)) c ∧ c ≤ ns.length ∧ (∀ b o, s.heap.get? b = some o → g.get? b = some o)) E) { s with heap := s.heap.push (bareSet w) } := by
      intro B hB
      refine codeAny_call_builtin PySem.F.called_set.init.plain PySem.F.entry_set_init (PySem.check_set_init_1 hT ?_)
      have hl1 : (s.heap.push (bareSet w)).IsList l items := hl.push _
      have hTl : Shared.TypeIs { s with heap := s.heap.push (bareSet w) } (.ref l) "list" := Heap.IsList.typeIs (s := { s with heap := s.heap.push (bareSet w) }) hl1
      have f1 := PySem.F.sub_list_set
      have f2 := PySem.F.sub_list_frozenset
      have f3 : (Value.type "list" == Value.type "dict") = false := by decide
      have lN : l < N := by
        obtain ⟨o, ho, _⟩ := hl
        rw [← hN]; exact Heap.lt_size ho
      have sz : (s.heap.push (bareSet w)).objs.size = N + 1 := by rw [Heap.size_push, hN]
      unfold Builtin.«set.__init__» noKeywords Builtin.Frozenset.updateFrom
      generalize hPI : pyIter = PI
      wp_walk
      subst hPI
      refine wpAny_pyIter_list hl1 (wpAny_bind (wpAny_runValue ?_))
      have hB3 : B.in1.in1.handled = none := by simp [hB]
      have walk := (Walks.list (prog := P) (w := w) hB3 (N + 1) l (Nat.ne_of_lt (Nat.lt_succ_of_lt lN)) items).toS
      rw [sz]
      refine set_update_ints walk N ?_ ns len hb ?_ (items.size - 0) 0 _ (by omega) (Nat.zero_le _) ⟨?_, hl1.push _⟩ ⟨0, Nat.le_refl 0, setR_new_at (Heap.get?_push_of_some _ hS)⟩ ?_
      · intro z
        rcases List.mem_cons.mp z with z | z
        · exact Nat.ne_of_lt (Nat.lt_succ_self N) z
        · exact Nat.ne_of_gt lN (List.mem_singleton.mp z)
      · intro i v hv
        have hi : i < ns.length := by rw [← len]; exact (Array.getElem?_eq_some_iff.mp hv).1
        obtain ⟨t, e⟩ := IntsAre.int_at hit i v (by rw [Array.getElem?_toList]; exact hv)
        exact ⟨ns[i], t, List.getElem?_eq_getElem hi, by rw [e, List.getD_eq_getElem?_getD, List.getElem?_eq_getElem hi]; rfl⟩
      · exact ⟨_, by rw [← sz]; exact Heap.get?_push_size _ rfl, rfl, rfl⟩
      · rintro ⟨g, gn, dr, tk, os⟩ c mv hc R
        obtain rfl : gn = s.gens := mv.gens
        obtain rfl : dr = s.drawn := mv.drawn
        obtain rfl : os = s.os := mv.os
        refine wpAny_pure ?_
        refine wpAny_pure ⟨rfl, g, tk, c, rfl, R, by omega, fun b o e => ?_⟩
        have hb0 : b < N := by rw [← hN]; exact Heap.lt_size e
        refine mv.heap b o (fun z => ?_) (Heap.get?_push_of_some _ (Heap.get?_push_of_some _ e))
        rcases List.mem_cons.mp z with z | z
        · exact Nat.ne_of_lt hb0 z
        · exact Nat.ne_of_lt (Nat.lt_succ_of_lt hb0) (List.mem_singleton.mp z)
    refine codeAny_mono (init _ (by simp [hh])) fun r₂ s₂ h2 => ?_
    match r₂, h2 with
    | .error e, h2 => exact h2
    | .ok (.ret v), ⟨e0, g, tk, c, e1, R, hc, keep⟩ =>
      subst e0 e1
      repeat (any_goals (first | assumption | wp_step))
      exact h g tk c R hc keep
    | .ok .next, h2 => exact h2.elim
    | .ok .brk, h2 => exact h2.elim
    | .ok .cont, h2 => exact h2.elim
  | .ok .next, hr => exact hr.elim
  | .ok .brk, hr => exact hr.elim
  | .ok .cont, hr => exact hr.elim
end
end EL
namespace EL
open PySem PySem.Spec PyProof.Rows L2
section
variable {X : Cx}
/-- set(xs), xs a list of ints -/
def rSetI (K : PySem.W.Frag) (w : World) : List V → Hp → VK → Prop := fun xs H Q => ∃ (l : Addr) (ns : List Int), xs = [.ref l] ∧ SqL K H l (ns.map V.int) ∧ ns.length ≤ 1000 ∧ ∀ p c, H p = none → c ≤ ns.length → Q (.ref p) (upd H p (SetO w p (fun j => decide (j ∈ ns)) c))
theorem cr_setI (hc : X.calm = true) : CallR X (.type "set") (rSetI X.K X.w) := by
  intro pins s σ H xs us Q I r h
  obtain ⟨l, ns, rfl, hl, hn, q⟩ := h
  rw [Vals.ref1 r]
  obtain ⟨its, rv, pl, hz⟩ := I.list hl
  have hN : H s.heap.objs.size = none := I.hok.fresh (Nat.le_refl _)
  have room : ns.length + 1 < scanBound := by unfold scanBound; omega
  refine set_list_ints ns (I.ok.hd hc) pl.isList (by simpa using RZ.intsAre_vals rv) room fun g tk c R hcc k => ?_
  exact ⟨.ref s.heap.objs.size, upd H s.heap.objs.size (SetO X.w s.heap.objs.size (fun j => decide (j ∈ ns)) c), I.laid (t' := tk) k (Nat.le_refl _) (setO_new R), rfl, q _ c hN hcc⟩
end
end EL
/-! d.setdefault(k, []).append(v), again and again: lists by keys. -/
namespace EL
open PySem PySem.Spec PyProof.Rows L2
/-- the keys, as they are met -/
def keysOf : List (L2.Key × PyData) → List L2.Key
  | [] => []
  | (k, _) :: r => k :: (keysOf r).filter fun j => decide (j ≠ k)
/-- what stands under a key -/
def ofK (es : List (L2.Key × PyData)) (k : L2.Key) : List PyData := (es.filter fun e => decide (e.1 = k)).map (·.2)
theorem ofK_snoc (es : List (L2.Key × PyData)) (k j : L2.Key) (d : PyData) : ofK (es ++ [(k, d)]) j = ofK es j ++ (if k = j then [d] else []) := by
  unfold ofK
  rw [List.filter_append, List.map_append]
  congr 1
  by_cases h : k = j
  · rw [if_pos h, List.filter_cons_of_pos (by simpa using h)]; rfl
  · rw [if_neg h, List.filter_cons_of_neg (by simpa using h)]; rfl
theorem mem_keysOf {es : List (L2.Key × PyData)} {k : L2.Key} : k ∈ keysOf es ↔ ∃ d, (k, d) ∈ es := by
  induction es with
  | nil => simp [keysOf]
  | cons e r ih =>
    obtain ⟨j, d⟩ := e
    simp only [keysOf, List.mem_cons, List.mem_filter, decide_eq_true_eq, ih]
    constructor
    · rintro (rfl | ⟨⟨x, hx⟩, _⟩)
      · exact ⟨d, .inl rfl⟩
      · exact ⟨x, .inr hx⟩
    · rintro ⟨x, h | h⟩
      · exact .inl (congrArg Prod.fst h)
      · by_cases e : k = j
        · exact .inl e
        · exact .inr ⟨⟨x, h⟩, e⟩
theorem keysOf_new' {es : List (L2.Key × PyData)} {k : L2.Key} (d : PyData) (h : k ∉ keysOf es) : keysOf (es ++ [(k, d)]) = keysOf es ++ [k] := by
  induction es with
  | nil => rfl
  | cons e r ih =>
    obtain ⟨j, x⟩ := e
    simp only [List.cons_append, keysOf] at h ⊢
    have h1 : k ≠ j := fun e => h (e ▸ List.mem_cons_self)
    have h2 : k ∉ keysOf r := fun q => h (List.mem_cons_of_mem _ (List.mem_filter.mpr ⟨q, by simpa using h1⟩))
    rw [ih h2, List.filter_append, List.filter_cons_of_pos (by simpa using h1)]; rfl
theorem keysOf_old {es : List (L2.Key × PyData)} {k : L2.Key} (d : PyData) (h : k ∈ keysOf es) : keysOf (es ++ [(k, d)]) = keysOf es := by
  induction es with
  | nil => simp [keysOf] at h
  | cons e r ih =>
    obtain ⟨j, x⟩ := e
    simp only [List.cons_append, keysOf] at h ⊢
    by_cases h1 : k = j
    · subst h1
      by_cases h2 : k ∈ keysOf r
      · rw [ih h2]
      · have := keysOf_new' (es := r) d h2
        rw [this, List.filter_append, List.filter_cons_of_neg (by simp)]; simp
    · rcases List.mem_cons.mp h with h | h
      · exact absurd h h1
      · rw [ih (List.mem_filter.mp h).1]
theorem keysOf_new {es : List (L2.Key × PyData)} {k : L2.Key} (d : PyData) (h : k ∉ keysOf es) : keysOf (es ++ [(k, d)]) = keysOf es ++ [k] := keysOf_new' d h
theorem keysOf_len (es : List (L2.Key × PyData)) : (keysOf es).length ≤ es.length := by
  induction es with
  | nil => exact Nat.le_refl _
  | cons e r ih =>
    simp only [keysOf, List.length_cons]
    have := List.length_filter_le (fun j => decide (j ≠ e.1)) (keysOf r)
    omega
theorem ofK_nil {es : List (L2.Key × PyData)} {k : L2.Key} (h : k ∉ keysOf es) : ofK es k = [] := by
  unfold ofK
  rw [List.map_eq_nil_iff, List.filter_eq_nil_iff]
  intro e he
  simp only [decide_eq_true_eq]
  intro z
  exact h (mem_keysOf.mpr ⟨e.2, by rw [← z]; exact he⟩)
theorem valV_keys {kvs : List (L2.Key × V)} {k : L2.Key} : valV kvs k = none ↔ k ∉ kvs.map (·.1) := by
  induction kvs with
  | nil => simp [valV_nil]
  | cons e r ih =>
    obtain ⟨j, v⟩ := e
    by_cases h : k = j
    · subst h; simp [valV]
    · have h' : ¬ j = k := fun e => h e.symm
      simp only [List.map_cons, List.mem_cons, h, false_or]
      rw [← ih]
      simp [valV, h']
/-- the heap without a dict and the lists that it holds -/
def hidO (d : Addr) (kvs : List (L2.Key × V)) (H : Hp) : Hp := fun b => if b = d ∨ V.ref b ∈ kvs.map (·.2) then none else H b
theorem hidO_ne {d b : Addr} {kvs : List (L2.Key × V)} {H : Hp} (h1 : b ≠ d) (h2 : V.ref b ∉ kvs.map (·.2)) : hidO d kvs H b = H b := if_neg fun z => z.elim h1 h2
theorem hidO_some {d b : Addr} {kvs : List (L2.Key × V)} {H : Hp} {o : HO} (h : hidO d kvs H b = some o) : b ≠ d ∧ V.ref b ∉ kvs.map (·.2) ∧ H b = some o := by
  unfold hidO at h
  split at h
  · cases h
  · rename_i z
    exact ⟨fun e => z (.inl e), fun e => z (.inr e), h⟩
theorem hidO_sub {d : Addr} {kvs : List (L2.Key × V)} {H : Hp} : Same (hidO d kvs H) H := fun _ _ h => (hidO_some h).2.2
theorem hidO_same {d : Addr} {kvs : List (L2.Key × V)} {H H' : Hp} (s : Same H H') : Same (hidO d kvs H) (hidO d kvs H') := fun b o h => by
  obtain ⟨h1, h2, h3⟩ := hidO_some h
  rw [hidO_ne h1 h2]; exact s b o h3
theorem valV_mem {kvs : List (L2.Key × V)} {k : L2.Key} {v : V} (h : valV kvs k = some v) : v ∈ kvs.map (·.2) := by
  induction kvs with
  | nil => rw [valV_nil] at h; cases h
  | cons e r ih =>
    obtain ⟨j, w⟩ := e
    by_cases hk : j = k
    · subst hk
      have : w = v := by simpa [valV] using h
      exact this ▸ List.mem_cons_self
    · exact List.mem_cons_of_mem _ (ih (by simpa [valV, hk] using h))
structure Grp (K : PySem.W.Frag) (Hb H : Hp) (d : Addr) (es : List (L2.Key × PyData)) : Prop where
  ex : ∃ kvs : List (L2.Key × V), H d = some (.dK kvs) ∧ kvs.map (·.1) = keysOf es ∧ Hb d = none ∧
    (∀ (k : L2.Key) (v : V), valV kvs k = some v → ∃ l vs, v = .ref l ∧ Hb l = none ∧ l ≠ d ∧ H l = some (.lst vs) ∧ DqAll K (hidO d kvs H) vs (ofK es k)) ∧
    (∀ (j k : L2.Key) (l : Addr), valV kvs j = some (.ref l) → valV kvs k = some (.ref l) → j = k) ∧
    (∀ v ∈ kvs.map (·.2), ∃ k, valV kvs k = some v) ∧ Same Hb (hidO d kvs H)
theorem Grp.same {K : PySem.W.Frag} {Hb H : Hp} {d : Addr} {es : List (L2.Key × PyData)} (g : Grp K Hb H d es) : Same Hb H := by
  obtain ⟨_, _, _, _, _, _, _, s⟩ := g.ex
  exact s.trans hidO_sub
theorem Grp.up {K : PySem.W.Frag} {Hb H H' : Hp} {d : Addr} {es : List (L2.Key × PyData)} (g : Grp K Hb H d es) (s : Same H H') : Grp K Hb H' d es := by
  obtain ⟨kvs, h1, h2, h3, h4, h5, h6, h7⟩ := g.ex
  refine ⟨kvs, s _ _ h1, h2, h3, fun k v hv => ?_, h5, h6, h7.trans (hidO_same s)⟩
  obtain ⟨l, vs, q1, q2, q3, q4, q5⟩ := h4 k v hv
  exact ⟨l, vs, q1, q2, q3, s _ _ q4, q5.up (hidO_same s)⟩
theorem Grp.start {K : PySem.W.Frag} {Hb : Hp} {d : Addr} (n : Hb d = none) : Grp K Hb (upd Hb d (.dK [])) d [] :=
  ⟨[], upd_same, rfl, n, fun k v h => (by rw [valV_nil] at h; cases h), fun j k l h => (by rw [valV_nil] at h; cases h), fun v h => (List.not_mem_nil h).elim, fun b o h => by
    rw [hidO_ne (ne_of_none h n) List.not_mem_nil, upd_ne (ne_of_none h n)]; exact h⟩
/-- the data under a key, as they may be read -/
theorem Grp.get {K : PySem.W.Frag} {Hb H : Hp} {d : Addr} {es : List (L2.Key × PyData)} (g : Grp K Hb H d es) : ∃ kvs : List (L2.Key × V), H d = some (.dK kvs) ∧ kvs.map (·.1) = keysOf es ∧
    ∀ k : L2.Key, (valV kvs k = none ∧ ofK es k = []) ∨ ∃ l vs, valV kvs k = some (.ref l) ∧ Hb l = none ∧ H l = some (.lst vs) ∧ DqAll K H vs (ofK es k) := by
  obtain ⟨kvs, h1, h2, h3, h4, h5, h6, h7⟩ := g.ex
  refine ⟨kvs, h1, h2, fun k => ?_⟩
  cases e : valV kvs k with
  | none => exact .inl ⟨rfl, ofK_nil (by rw [← h2]; exact valV_keys.mp e)⟩
  | some v =>
    obtain ⟨l, vs, rfl, q2, q3, q4, q5⟩ := h4 k v e
    exact .inr ⟨l, vs, rfl, q2, q4, q5.up hidO_sub⟩
/-- an item's data: beside the dict and its lists -/
def GrpItem (K : PySem.W.Frag) (H : Hp) (d : Addr) (v : V) (x : PyData) : Prop := ∀ kvs, H d = some (.dK kvs) → Dq K (hidO d kvs H) v x
theorem GrpItem.int {K : PySem.W.Frag} {H : Hp} {d : Addr} (i : Int) : GrpItem K H d (.int i) (.int i) := fun _ _ => .int i
theorem GrpItem.old {K : PySem.W.Frag} {Hb H : Hp} {d : Addr} {es : List (L2.Key × PyData)} {v : V} {x : PyData} (g : Grp K Hb H d es) (h : Dq K Hb v x) : GrpItem K H d v x := fun kvs e => by
  obtain ⟨kvs', h1, _, _, _, _, _, h7⟩ := g.ex
  rw [e] at h1; cases h1
  exact h.up h7
section
variable {K : PySem.W.Frag} {Hb H : Hp} {d : Addr} {es : List (L2.Key × PyData)} {kvs : List (L2.Key × V)}
/-- one more behind a list that is there -/
theorem grp_more {k : L2.Key} {l : Addr} {vs : List V} {v : V} {x : PyData} (g : Grp K Hb H d es) (gd : H d = some (.dK kvs)) (hk : valV kvs k = some (.ref l)) (gl : H l = some (.lst vs)) (hx : GrpItem K H d v x) :
    Grp K Hb (upd H l (.lst (vs ++ [v]))) d (es ++ [(k, x)]) := by
  obtain ⟨kvs', h1, h2, h3, h4, h5, h6, h7⟩ := g.ex
  rw [gd] at h1; cases h1
  obtain ⟨l', vs', e1, nl, ld, gl', dl⟩ := h4 k _ hk
  cases e1
  rw [gl] at gl'; cases gl'
  have hin : V.ref l ∈ kvs.map (·.2) := valV_mem hk
  have hh : hidO d kvs (upd H l (.lst (vs ++ [v]))) = hidO d kvs H := by
    funext b
    unfold hidO
    by_cases z : b = d ∨ V.ref b ∈ kvs.map (·.2)
    · rw [if_pos z, if_pos z]
    · rw [if_neg z, if_neg z, upd_ne (fun e => z (.inr (by rw [e]; exact hin)))]
  refine ⟨kvs, by rw [upd_ne ld.symm]; exact gd, ?_, h3, fun j w hw => ?_, h5, h6, by rw [hh]; exact h7⟩
  · rw [keysOf_old]; exact h2
    rw [← h2]
    exact Classical.byContradiction fun n => by rw [valV_keys.mpr n] at hk; cases hk
  · obtain ⟨m, us, rfl, nm, md, gm, dm⟩ := h4 j w hw
    by_cases e : k = j
    · subst e
      rw [hk] at hw; cases hw
      rw [gl] at gm; cases gm
      refine ⟨l, vs ++ [v], rfl, nl, ld, upd_same, ?_⟩
      rw [hh, ofK_snoc, if_pos rfl]
      exact dm.snoc' (hx kvs gd)
    · have hne : m ≠ l := fun z => e (h5 k j l hk (by rw [← z]; exact hw))
      refine ⟨m, us, rfl, nm, md, by rw [upd_ne hne]; exact gm, ?_⟩
      rw [hh, ofK_snoc, if_neg e, List.append_nil]; exact dm
/-- a new list under a new key -/
theorem grp_new {k : L2.Key} {z : Addr} (g : Grp K Hb H d es) (gd : H d = some (.dK kvs)) (hk : valV kvs k = none) (nz : H z = none) : ∀ {G : Hp}, Same H G → G z = some (.lst []) → ∀ {v : V} {x : PyData},
    ∀ {G' : Hp}, Same (upd G d (.dK (putK kvs k (.ref z)))) G' → (∀ ks, G' d = some (.dK ks) → Dq K (hidO d ks G') v x) → Grp K Hb (upd G' z (.lst [v])) d (es ++ [(k, x)]) := by
  intro G sG gz v x G' s' hx
  obtain ⟨kvs', h1, h2, h3, h4, h5, h6, h7⟩ := g.ex
  rw [gd] at h1; cases h1
  have zd : z ≠ d := fun e => by rw [e, gd] at nz; cases nz
  have gd' : G' d = some (.dK (putK kvs k (.ref z))) := s' _ _ upd_same
  have hput : putK kvs k (.ref z) = kvs ++ [(k, .ref z)] := putK_new _ hk
  have zb : Hb z = none := g.same.free nz
  have hh : hidO d (putK kvs k (.ref z)) (upd G' z (.lst [v])) = hidO d (putK kvs k (.ref z)) G' := by
    funext b
    unfold hidO
    by_cases q : b = d ∨ V.ref b ∈ (putK kvs k (.ref z)).map (·.2)
    · rw [if_pos q, if_pos q]
    · rw [if_neg q, if_neg q, upd_ne (fun e => q (.inr (by rw [e, hput, List.map_append]; exact List.mem_append_right _ (by simp))))]
  have sH : Same (hidO d kvs H) (hidO d (putK kvs k (.ref z)) G') := fun b o h => by
    obtain ⟨q1, q2, q3⟩ := hidO_some h
    have bz : b ≠ z := ne_of_none q3 nz
    rw [hidO_ne q1 (by
      rw [hput, List.map_append, List.mem_append]
      rintro (q | q)
      · exact q2 q
      · have : V.ref b = V.ref z := by simpa using q
        exact bz (by cases this; rfl))]
    exact s' _ _ (by rw [upd_ne q1]; exact sG _ _ q3)
  have old : ∀ {m : Addr} {us : List V}, H m = some (.lst us) → (upd G' z (.lst [v])) m = some (.lst us) := fun {m us} h => by
    have mz : m ≠ z := ne_of_none h nz
    have md : m ≠ d := fun e => by rw [e, gd] at h; cases h
    rw [upd_ne mz]
    exact s' _ _ (by rw [upd_ne md]; exact sG _ _ h)
  refine ⟨putK kvs k (.ref z), by rw [upd_ne zd.symm]; exact gd', ?_, h3, fun j w hw => ?_, fun i j l e1 e2 => ?_, fun w hw => ?_, by rw [hh]; exact h7.trans sH⟩
  · rw [hput, List.map_append, h2, keysOf_new _ (by rw [← h2]; exact valV_keys.mp hk)]; rfl
  · rw [valV_put] at hw
    by_cases e : j = k
    · subst e
      rw [if_pos rfl] at hw; cases hw
      refine ⟨z, [v], rfl, zb, zd, upd_same, ?_⟩
      rw [hh, ofK_snoc, if_pos rfl, ofK_nil (by rw [← h2]; exact valV_keys.mp hk)]
      exact .cons (hx _ gd') .nil
    · rw [if_neg e] at hw
      obtain ⟨m, us, rfl, nm, md, gm, dm⟩ := h4 j w hw
      refine ⟨m, us, rfl, nm, md, old gm, ?_⟩
      rw [hh, ofK_snoc, if_neg (fun q => e q.symm), List.append_nil]
      exact dm.up sH
  · have no : ∀ t : L2.Key, valV kvs t = some (.ref z) → False := fun t q => by
      obtain ⟨m, us, q1, _, _, gm, _⟩ := h4 t _ q
      cases q1; rw [nz] at gm; cases gm
    rw [valV_put] at e1 e2
    by_cases a : i = k
    · rw [if_pos a] at e1; cases e1
      by_cases b : j = k
      · exact a.trans b.symm
      · rw [if_neg b] at e2; exact (no j e2).elim
    · rw [if_neg a] at e1
      by_cases b : j = k
      · rw [if_pos b] at e2; cases e2; exact (no i e1).elim
      · rw [if_neg b] at e2; exact h5 i j l e1 e2
  · rw [hput, List.map_append, List.mem_append] at hw
    rcases hw with hw | hw
    · obtain ⟨j, hj⟩ := h6 w hw
      refine ⟨j, ?_⟩
      rw [valV_put, if_neg (fun e => by subst e; rw [hk] at hj; cases hj)]; exact hj
    · have : w = .ref z := by simpa using hw
      subst this
      exact ⟨k, by rw [valV_put, if_pos rfl]⟩
end
end EL
namespace EL
open PySem PySem.Spec PyProof.Rows L2
/-- d.setdefault(k, []).append(v) -/
def tGrp (K : PySem.W.Frag) (td tk ti : TE) : TS := fun D σ H => td σ H fun x H1 => ∃ a Hb es, x = .ref a ∧ Grp K Hb H1 a es ∧ es.length < 100000 ∧ tk σ H1 fun y H2 => ∃ key : L2.Key, y = kV key ∧ Same H1 H2 ∧
  ∀ H3, Same Hb H3 → (∃ ks, H3 a = some (.dK ks)) → ti σ H3 fun v H4 => ∃ dd, Same H3 H4 ∧ GrpItem K H4 a v dd ∧ ∀ H5, Grp K Hb H5 a (es ++ [(key, dd)]) → D.nx σ H5
section
variable {X : Cx} {o e i : Expr} {td tk ti : TE} {apos cpos lp ap2 cp2 p : Pos}
theorem grp_bound {K : PySem.W.Frag} {Hb H : Hp} {d : Addr} {es : List (L2.Key × PyData)} (g : Grp K Hb H d es) {kvs : List (L2.Key × V)} (h : H d = some (.dK kvs)) : kvs.length ≤ es.length ∧ ∀ k l vs, valV kvs k = some (.ref l) → H l = some (.lst vs) → vs.length ≤ es.length := by
  obtain ⟨kvs', h1, h2, h3, h4, h5, h6, h7⟩ := g.ex
  rw [h] at h1; cases h1
  refine ⟨by rw [← List.length_map (f := fun e : L2.Key × V => e.1), h2]; exact keysOf_len es, fun k l vs hk hl => ?_⟩
  obtain ⟨m, us, e1, _, _, gm, dm⟩ := h4 k _ hk
  cases e1
  rw [hl] at gm; cases gm
  rw [dm.len]
  unfold ofK
  rw [List.length_map]
  exact List.length_filter_le _ _
theorem ps_grp (hd : PE X o td) (hk : PE X e tk) (hi : PE X i ti) (m : M2 X o "setdefault" apos e (.List [] lp) cpos)
    (hbase : attributeBase (.Call (.Attribute o "setdefault" apos) [e, .List [] lp] [] cpos) "append" X.env (eval (.Call (.Attribute o "setdefault" apos) [e, .List [] lp] [] cpos) X.env) = eval (.Call (.Attribute o "setdefault" apos) [e, .List [] lp] [] cpos) X.env := by rfl)
    (hfew : ((backTo cp2 (starEach [i] X.env)).all (fun x => !x.1) && (backToKw cp2 (keywordEach [] X.env)).all (fun x => x.1.isSome)
      && decide (([i] : List Expr).length + ([] : List Keyword).length + (if ([] : List Keyword).isEmpty then 0 else 1) < 30)) = true := by rfl)
    (hline : (ap2.endLine == cp2.line) = true := by rfl) (hs : starEach [i] X.env = (false, eval i X.env) :: starEach [] X.env := by rfl) :
    PS X (.Expr (.Call (.Attribute (.Call (.Attribute o "setdefault" apos) [e, .List [] lp] [] cpos) "append" ap2) [i] [] cp2) p) (tGrp X.K td tk ti) := by
  refine ⟨fun pins s σ H D I h => (ps_expr (pe_bm PySem.F.plainAttrs_list PySem.F.slot_list_append PySem.F.type_list_append mt_append (pe_dsetd (EL.PE.cl hd) (EL.PE.cl hk) (pe_lst pa_nil) m) (pa_cons (EL.PE.cl hi) pa_nil hs) hbase hfew hline hs rfl)).run pins s σ H D I ?_⟩
  refine ⟨_, h, ?_⟩
  rintro x H1 ⟨d, Hb, es, rfl, g1, hlen, hky⟩
  obtain ⟨kvs, gd1, _⟩ := g1.get
  refine ⟨d, rfl, .inl ⟨kvs, .inl gd1⟩, _, hky, ?_⟩
  rintro y H2 ⟨key, rfl, s2, hit⟩
  have g2 := g1.up s2
  have gd2 := s2 _ _ gd1
  obtain ⟨bk, bl⟩ := grp_bound g2 gd2
  refine ⟨Nat.zero_le _, fun z nz => ?_⟩
  have s3 : Same H2 (upd H2 z (.lst [])) := same_upd nz
  have gz : upd H2 z (.lst []) z = some (.lst []) := upd_same
  generalize upd H2 z (.lst []) = H3 at s3 gz ⊢
  have g3 := g2.up s3
  have gd3 := s3 _ _ gd2
  refine ⟨kvs, key, gd3, rfl, lt_sz (by omega), fun v hv => ?_, fun hv => ?_⟩
  · obtain ⟨kvs', q1, q2, q3⟩ := g3.get
    rw [gd3] at q1; cases q1
    rcases q3 key with ⟨q, _⟩ | ⟨l, vs, q, nl, gl, dl⟩
    · rw [hv] at q; cases q
    · rw [hv] at q; cases q
      have lvs : vs.length ≤ es.length := (grp_bound g3 gd3).2 key l vs hv gl
      refine ⟨.inl ⟨rfl, _, sqOf gl⟩, _, hit H3 g3.same ⟨_, gd3⟩, ?_⟩
      rintro w H4 ⟨dd, s4, hx, fin⟩
      exact ⟨l, vs, _, rfl, rfl, s4 _ _ gl, lt_sz (by omega), fin _ (grp_more (g3.up s4) (s4 _ _ gd3) hv (s4 _ _ gl) hx)⟩
  · have zd : z ≠ d := fun e => by rw [e, gd2] at nz; cases nz
    have gz' : upd H3 d (.dK (putK kvs key (.ref z))) z = some (.lst []) := by rw [upd_ne zd]; exact gz
    have sB : Same Hb (upd H3 d (.dK (putK kvs key (.ref z)))) := fun b o h => by
      obtain ⟨_, _, _, nd, _⟩ := g2.ex
      rw [upd_ne (ne_of_none h nd)]; exact g3.same b o h
    refine ⟨.inl ⟨rfl, _, sqOf gz'⟩, _, hit _ sB ⟨_, upd_same⟩, ?_⟩
    rintro w H4 ⟨dd, s4, hx, fin⟩
    exact ⟨z, [], _, rfl, rfl, s4 _ _ gz', lt_sz (by show 0 ≤ _; omega), fin _ (grp_new g2 gd2 hv nz s3 gz s4 hx)⟩
end
end EL
/-! dict comprehensions: read by a walk; stored in a name. -/
namespace EL
open PySem PySem.Spec PyProof.Rows L2
section
variable {J : It} {n : Nat} {G : Hp → Prop} {Y : Nat → Hp → V → Hp → Prop}
theorem dc_it (wk : Walk J n G Y) {g : TG} {tt : TT} {tk tv : TE} {vs : List Nat} {σ : L2.St} {H1 : Hp} {D : Addr} {Qd : Hp → Prop} (P : Nat → Hp → Prop) (p0 : P 0 (upd H1 D (.dK []))) (pG : ∀ i H, i ≤ n → P i H → G H)
    (turn : ∀ i x H H', i < n → P i H → Y i H x H' → g x (wipe σ vs) H' fun σ2 H2 => wipe σ2 vs = wipe σ vs ∧ tt σ2 H2 fun b H3 =>
      if b = true then tk σ2 H3 fun y H4 => tv σ2 H4 fun z H5 => ∃ kvs k, y = kV k ∧ H5 D = some (.dK kvs) ∧ kvs.length < sizeLine ∧ P (i + 1) (upd H5 D (.dK (putK kvs k z))) else P (i + 1) H3) (fin : ∀ H, P n H → Qd H) :
    ∃ W : Nat → Nat → Hp → Prop, (∃ m, W 0 m (upd H1 D (.dK []))) ∧ ∀ i m H, W i m H →
      (J.stop i H ∧ Qd H) ∨ (J.go i H ∧ ∃ Nx : Hp → Prop, (∀ H', Nx H' → ∃ m', m' < m ∧ W (i + 1) m' H') ∧ ∀ x H', J.yld i H x H' → g x (wipe σ vs) H' fun σ2 H2 => wipe σ2 vs = wipe σ vs ∧ tt σ2 H2 fun b H3 =>
        if b = true then tk σ2 H3 fun y H4 => tv σ2 H4 fun z H5 => ∃ kvs k, y = kV k ∧ H5 D = some (.dK kvs) ∧ kvs.length < sizeLine ∧ Nx (upd H5 D (.dK (putK kvs k z))) else Nx H3) := by
  refine ⟨fun i m H => m + i = n ∧ P i H, ⟨n, rfl, p0⟩, fun i m H => ?_⟩
  rintro ⟨e, p⟩
  rcases Nat.lt_or_ge i n with lt | ge
  · exact .inr ⟨wk.goes i H lt (pG i H (Nat.le_of_lt lt) p), P (i + 1), fun _ p' => ⟨m - 1, by omega, by omega, p'⟩, fun x _ y => turn i x H _ lt p (wk.yields i H x _ lt (pG i H (Nat.le_of_lt lt) p) y)⟩
  · obtain rfl : i = n := by omega
    exact .inl ⟨wk.stops H (pG i H (Nat.le_refl _) p), fin H p⟩
end
section
variable {X : Cx}
/-- y = {k: v for ..}: stored before the block is let go -/
theorem ps_setDc {i : Nat} {y : Str} {py spos : Pos} {kx vx tg iter : Expr} {ifs : List Expr} {scope : Scope} {own : List (Str × Nat)} {pos : Pos} {wi : TI} {g : TG} {tt : TT} {tk tv : TE} (hc : X.calm = true) (hN : X.N.Nodup) (hy : X.N[i]? = some y) (hyl : X.env.scope.names.lookup y = some .local)
    (hsw : swapsWith (.DictComp kx vx [⟨tg, iter, ifs, 0⟩] scope pos) (some (.Name y py)) spos.line X.env = pure true) (hi : PI X tg iter wi) (ok : BlkOk X.N X.env.scope scope own)
    (hg : ∀ (s : Shared) (H : Hp) (C : Addr) (cl : List (Str × Addr)) (fp : List Addr), PG (X.blk s H scope (compEnvC scope cl C X.env) fp) tg g) (ht : ∀ (s : Shared) (H : Hp) (C : Addr) (cl : List (Str × Addr)) (fp : List Addr), PTs (X.blk s H scope (compEnvC scope cl C X.env) fp) ifs tt)
    (hk : ∀ (s : Shared) (H : Hp) (C : Addr) (cl : List (Str × Addr)) (fp : List Addr), PE (X.blk s H scope (compEnvC scope cl C X.env) fp) kx tk) (he : ∀ (s : Shared) (H : Hp) (C : Addr) (cl : List (Str × Addr)) (fp : List Addr), PE (X.blk s H scope (compEnvC scope cl C X.env) fp) vx tv)
    (hs : ∀ x, foldedSetIterable iter X.env x = pure x := by intro _; rfl) :
    PS X (.Assign [.Name y py] (.DictComp kx vx [⟨tg, iter, ifs, 0⟩] scope pos) spos) (tAsg (tDc wi g tt tk tv (own.map (·.2))) (gName i)) := by
  refine ⟨fun pins s σ H D I q0 => ?_⟩
  have q : tDc wi g tt tk tv (own.map (·.2)) σ H (fun v H1 => gName i v σ H1 D.nx) := q0
  rw [exec_Assign_Name_used _ _ _ _ hsw]
  refine wpAny_bind (wpAny_standAt (wpAny_bind (wpAny_bind ?_)))
  refine wpAny_mono (dc_core (use := some (assign (.Name y py) X.env)) (Qf := fun _ s' => SP X pins D .next s') hc hN I hi ok hg ht hk he hs q fun L C s' m H' J1 q1 hn f => ?_) (fun _ s' hq => wpAny_pure (wpAny_pure hq)) fun _ _ z => z
  show wpAny _ _ (assign (.Name y py) X.env (.ref L)) _ _ _
  refine wpAny_assign_Name (store_ok2 (v := V.ref L) J1 hN hy (.inl hyl) rfl (fun s2 J2 hst => ?_) (.inr hyl))
  obtain ⟨a, sb, ha⟩ := hst
  obtain ⟨f0, f1, f2, f3, f4, f5⟩ := f
  have far : C ≠ a := ha.elim (fun z => z ▸ f1) fun z e => f4 y a z e.symm
  exact ⟨m, hn.sameBut sb far, fun h3 sb3 => ⟨_, _, J2.turned (t' := s2.toks) (fun b o hb e => (sb3.2 b hb).trans e) f0 f1 f3 f4 f5, q1⟩⟩
end
end EL
namespace EL
open PySem PySem.Spec PyProof.Rows L2
/-- an expression's dict, list, ..: from here on it is walked and nothing else -/
def tLockA (te : TE) : TE := fun σ H Q => te σ H fun x H1 => ∃ d u, x = .ref d ∧ H1 d = some u ∧ Mut (some u) ∧ ∀ od, Q x (upd H1 d (.frz od u))
theorem pe_lockA {X : Cx} {e : Expr} {te : TE} (h : PE X e te) : PE X e (tLockA te) := by
  refine ⟨fun pins s σ H Q I hw => thn (h.run pins s σ H _ I hw) fun v s1 z => ?_⟩
  obtain ⟨x, H1, I1, r, d, u, ex, hd, mu, q⟩ := z
  obtain ⟨od, I2⟩ := I1.lock hd mu
  exact ⟨x, _, I2, r, q od⟩
end EL
namespace EL
open PySem PySem.Spec PyProof.Rows L2
theorem swd_true {kx vx : Expr} {gs : List Comprehension} {scope : Scope} {pos py : Pos} {y : Str} {l : Nat} {env : Env} (hk : env.scope.kind = .function) (hy : env.scope.names.lookup y = some .local) (hl : (py.line == pos.line) = true)
    (ha : (scope.names.any fun (n, k) => n == y && (k == .local || k == .cell)) = false) : swapsWith (.DictComp kx vx gs scope pos) (some (.Name y py)) l env = pure true := by
  have q1 : env.kindOf y = some .local := hy
  have q2 : env.blockKind = .function := by
    unfold Env.blockKind
    rw [hk]; rfl
  unfold swapsWith
  simp only [q2, q1, ha, Expr.pos, hl]; rfl
end EL
/-! Numbers that lead to numbers: what is reached, by mathematics; a dict of lists of numbers. -/
namespace EL
open PySem PySem.Spec PyProof.Rows L2
abbrev Edges := List (Nat × Nat)
inductive GR (es : Edges) (ss : List Nat) : Nat → Prop
  | base {s : Nat} : s ∈ ss → GR es ss s
  | step {p q : Nat} : GR es ss p → (p, q) ∈ es → GR es ss q
def outs (es : Edges) (s : Nat) : List Nat := (es.filter fun e => decide (e.1 = s)).map (·.2)
theorem mem_outs {es : Edges} {s t : Nat} : t ∈ outs es s ↔ (s, t) ∈ es := by
  unfold outs
  simp only [List.mem_map, List.mem_filter, decide_eq_true_eq]
  constructor
  · rintro ⟨⟨a, b⟩, ⟨h, rfl⟩, rfl⟩; exact h
  · intro h; exact ⟨(s, t), ⟨h, rfl⟩, rfl⟩
theorem outs_len (es : Edges) (s : Nat) : (outs es s).length ≤ es.length := by
  unfold outs
  rw [List.length_map]
  exact List.length_filter_le _ _
theorem GR.mono {es fs : Edges} {ss : List Nat} {p : Nat} (w : ∀ e ∈ es, e ∈ fs) (h : GR es ss p) : GR fs ss p := by
  induction h with
  | base m => exact .base m
  | step _ e ih => exact .step ih (w _ e)
/-- going: what was met, and what of it waits -/
structure Goes (es : Edges) (ss : List Nat) (M W : List Nat) : Prop where
  nd : M.Nodup
  re : ∀ p ∈ M, GR es ss p
  st : ∀ s ∈ ss, s ∈ M
  su : ∀ p ∈ W, p ∈ M
  cl : ∀ p ∈ M, p ∉ W → ∀ q, (p, q) ∈ es → q ∈ M
theorem Goes.done {es : Edges} {ss M : List Nat} (g : Goes es ss M []) (p : Nat) : p ∈ M ↔ GR es ss p := by
  refine ⟨g.re p, fun h => ?_⟩
  induction h with
  | base m => exact g.st _ m
  | step _ e ih => exact g.cl _ ih (List.not_mem_nil) _ e
theorem gr_lt {es : Edges} {ss : List Nat} {n p : Nat} (hs : ∀ s ∈ ss, s < n) (he : ∀ e ∈ es, e.2 < n) (h : GR es ss p) : p < n := by
  cases h with
  | base m => exact hs _ m
  | step _ e => exact he _ e
theorem nodup_len : ∀ (n : Nat) (l : List Nat), l.Nodup → (∀ x ∈ l, x < n) → l.length ≤ n
  | 0, l, _, h => by
    cases l with
    | nil => exact Nat.le_refl _
    | cons a r => exact absurd (h a List.mem_cons_self) (Nat.not_lt_zero _)
  | n + 1, l, d, h => by
    by_cases m : n ∈ l
    · have e := List.length_erase_of_mem m
      have ih := nodup_len n (l.erase n) (d.erase n) fun x hx => by
        have h1 := h x (List.mem_of_mem_erase hx)
        have h2 : x ≠ n := fun e => by subst e; exact (List.Nodup.not_mem_erase d) hx
        omega
      have : 0 < l.length := List.length_pos_of_mem m
      omega
    · have ih := nodup_len n l d fun x hx => by
        have h1 := h x hx
        have h2 : x ≠ n := fun e => m (e ▸ hx)
        omega
      omega
/-- a dict of lists: what follows each number -/
structure Fol (K : PySem.W.Frag) (H : Hp) (d : Addr) (es : Edges) : Prop where
  ex : ∃ (kvs : List (L2.Key × V)) (ks : List Nat), H d = some (.dK kvs) ∧ kvs.map (·.1) = ks.map (fun n : Nat => (Sum.inl (n : Int) : L2.Key)) ∧ (∀ s, s ∈ ks ↔ outs es s ≠ []) ∧ ks.length ≤ es.length ∧
    ∀ s : Nat, (valV kvs (.inl (s : Int)) = none ∧ outs es s = []) ∨ ∃ l, valV kvs (.inl (s : Int)) = some (.ref l) ∧ H l = some (.lst ((outs es s).map fun n : Nat => V.int (n : Int)))
theorem Fol.up {K : PySem.W.Frag} {H H' : Hp} {d : Addr} {es : Edges} (f : Fol K H d es) (s : Same H H') : Fol K H' d es := by
  obtain ⟨kvs, ks, h1, h2, h3, h4, h5⟩ := f.ex
  exact ⟨kvs, ks, s _ _ h1, h2, h3, h4, fun t => (h5 t).imp id fun ⟨l, q1, q2⟩ => ⟨l, q1, s _ _ q2⟩⟩
abbrev edgeD (e : Nat × Nat) : L2.Key × PyData := (.inl (e.1 : Int), .int (e.2 : Int))
theorem ofK_edges (es : Edges) (s : Nat) : ofK (es.map edgeD) (.inl (s : Int)) = (outs es s).map fun n : Nat => PyData.int (n : Int) := by
  induction es with
  | nil => rfl
  | cons e r ih =>
    unfold ofK outs at ih ⊢
    by_cases h : e.1 = s
    · have hk : (edgeD e).1 = (Sum.inl (s : Int) : L2.Key) := by rw [h.symm]
      rw [List.map_cons, List.filter_cons, if_pos (by simpa using hk), List.filter_cons, if_pos (by simpa using h), List.map_cons, List.map_cons, List.map_cons, ih]
    · have hk : ¬ (edgeD e).1 = (Sum.inl (s : Int) : L2.Key) := fun q => h (by
        have := Sum.inl.inj q
        omega)
      rw [List.map_cons, List.filter_cons, if_neg (by simpa using hk), List.filter_cons, if_neg (by simpa using h), ih]
theorem dqAll_nums {K : PySem.W.Frag} {H : Hp} : ∀ {ns : List Nat} {vs : List V}, DqAll K H vs (ns.map fun n : Nat => PyData.int (n : Int)) → vs = ns.map fun n : Nat => V.int (n : Int)
  | [], _, h => by cases h; rfl
  | n :: r, _, h => by
    cases h with
    | cons h1 h2 => cases h1; rw [dqAll_nums h2]; rfl
theorem keys_nums : ∀ es : Edges, ∃ ks : List Nat, keysOf (es.map edgeD) = ks.map (fun n : Nat => (Sum.inl (n : Int) : L2.Key)) ∧ (∀ s, s ∈ ks ↔ outs es s ≠ []) ∧ ks.length ≤ es.length := by
  intro es
  have key : ∀ l : List L2.Key, (∀ k ∈ l, ∃ n : Nat, k = .inl (n : Int)) → ∃ ks : List Nat, l = ks.map (fun n : Nat => (Sum.inl (n : Int) : L2.Key)) := by
    intro l
    induction l with
    | nil => exact fun _ => ⟨[], rfl⟩
    | cons k r ih =>
      intro h
      obtain ⟨n, rfl⟩ := h k List.mem_cons_self
      obtain ⟨ks, e⟩ := ih fun j hj => h j (List.mem_cons_of_mem _ hj)
      exact ⟨n :: ks, by rw [e]; rfl⟩
  obtain ⟨ks, e⟩ := key (keysOf (es.map edgeD)) fun k hk => by
    obtain ⟨d, hd⟩ := mem_keysOf.mp hk
    obtain ⟨x, _, ex⟩ := List.mem_map.mp hd
    exact ⟨x.1, (congrArg Prod.fst ex).symm⟩
  refine ⟨ks, e, fun s => ?_, ?_⟩
  · have m1 : s ∈ ks ↔ (Sum.inl (s : Int) : L2.Key) ∈ keysOf (es.map edgeD) := by
      rw [e, List.mem_map]
      constructor
      · intro h; exact ⟨s, h, rfl⟩
      · rintro ⟨n, hn, q⟩
        have := Sum.inl.inj q
        have : n = s := by omega
        exact this ▸ hn
    rw [m1]
    constructor
    · intro h
      obtain ⟨d, hd⟩ := mem_keysOf.mp h
      obtain ⟨x, hx, ex⟩ := List.mem_map.mp hd
      have : x.1 = s := by
        have := Sum.inl.inj (congrArg Prod.fst ex)
        omega
      intro z
      have : x.2 ∈ outs es s := mem_outs.mpr (by rw [← this]; exact hx)
      rw [z] at this
      exact List.not_mem_nil this
    · intro h
      obtain ⟨t, ht⟩ := List.exists_mem_of_ne_nil _ h
      exact mem_keysOf.mpr ⟨_, List.mem_map.mpr ⟨(s, t), mem_outs.mp ht, rfl⟩⟩
  · have := keysOf_len (es.map edgeD)
    rw [e, List.length_map, List.length_map] at this
    exact this
theorem Grp.fol {K : PySem.W.Frag} {Hb H : Hp} {d : Addr} {es : Edges} (g : Grp K Hb H d (es.map edgeD)) : Fol K H d es := by
  obtain ⟨kvs, h1, h2, h3⟩ := g.get
  obtain ⟨ks, k1, k2, k3⟩ := keys_nums es
  refine ⟨kvs, ks, h1, h2.trans k1, k2, k3, fun s => ?_⟩
  rcases h3 (.inl (s : Int)) with ⟨q1, q2⟩ | ⟨l, vs, q1, _, q3, q4⟩
  · rw [ofK_edges] at q2
    exact .inl ⟨q1, List.map_eq_nil_iff.mp q2⟩
  · rw [ofK_edges] at q4
    rw [dqAll_nums q4] at q3
    exact .inr ⟨l, q1, q3⟩
/-- a dict of numbers, each with True -/
abbrev oneD (M : List Nat) : List (L2.Key × V) := M.map fun n : Nat => ((.inl (n : Int) : L2.Key), V.bl true)
theorem oneD_get {M : List Nat} {s : Nat} : valV (oneD M) (.inl (s : Int)) = if s ∈ M then some (.bl true) else none := by
  induction M with
  | nil => simp [valV_nil]
  | cons n r ih =>
    by_cases h : n = s
    · subst h; simp [valV]
    · have hk : ¬ (Sum.inl (n : Int) : L2.Key) = .inl (s : Int) := fun q => h (by have := Sum.inl.inj q; omega)
      have hs : ¬ s = n := fun e => h e.symm
      have h2 : valV (oneD (n :: r)) (.inl (s : Int)) = valV (oneD r) (.inl (s : Int)) := by
        simp only [List.map_cons, valV, List.find?_cons]
        rw [decide_eq_false hk]
      rw [h2, ih]
      simp [hs]
theorem oneD_put {M : List Nat} {s : Nat} (h : s ∉ M) : putK (oneD M) (.inl (s : Int)) (.bl true) = oneD (M ++ [s]) := by
  rw [putK_new _ (by rw [oneD_get, if_neg h])]
  show _ = List.map _ (M ++ [s])
  rw [List.map_append]; rfl
theorem oneD_put' {M : List Nat} {s : Nat} (h : s ∈ M) : putK (oneD M) (.inl (s : Int)) (.bl true) = oneD M := by
  unfold putK
  have ha : ((oneD M).any fun kv => decide (kv.1 = (Sum.inl (s : Int) : L2.Key))) = true := by
    rw [List.any_eq_true]
    exact ⟨(.inl (s : Int), .bl true), List.mem_map.mpr ⟨s, h, rfl⟩, decide_eq_true rfl⟩
  rw [if_pos ha, List.map_map]
  refine List.map_congr_left fun n _ => ?_
  show (if (Sum.inl (n : Int) : L2.Key) = .inl (s : Int) then _ else _) = _
  split <;> rfl
end EL
namespace EL
open PySem PySem.Spec PyProof.Rows L2
/-- o.f where K is named (in a comprehension) -/
theorem pe_fldK {X : Cx} {K : PySem.W.Frag} {e : Expr} {ta : TE} {f : Str} {pos : Pos} (he : PE X e ta) (hb : attributeBase e f X.env (eval e X.env) = eval e X.env) (hK : X.K = K := by rfl) : PE X (.Attribute e f pos) (tFld K ta f) := by
  subst hK
  exact pe_fld he hb
theorem kdK {X : Cx} {K : PySem.W.Frag} {e : Expr} {d : PyData} (h : PE X e (tK X.K d)) (hK : X.K = K := by rfl) : PE X e (tK K d) := by
  subst hK
  exact h
end EL
namespace EL
open PySem PySem.Spec PyProof.Rows L2
def kwM1 {α : Type} : List α → List α → List α
  | [s], [z] => [s, z]
  | _, _ => []
theorem kwM1_rel {vs : List V} {us : List Value} {zs : List V} {ws : List Value} (h1 : Vals vs us) (h2 : Vals zs ws) : Vals (kwM1 vs zs) (kwM1 us ws) := by
  cases h1 with
  | nil => exact .nil
  | cons r0 rr0 =>
    cases rr0 with
    | cons _ _ => exact .nil
    | nil =>
    cases h2 with
    | nil => exact .nil
    | cons r rr =>
      cases rr with
      | nil => exact .cons r0 (.cons r .nil)
      | cons _ _ => exact .nil
theorem Fun.kwM1 {K : PySem.W.Frag} {x qual : Str} {st : Stmt} {f : Addr} {fd : FuncData} {r p : Str} (F : Fun K x qual st f fd)
    (h : ∀ (kV doc pm : Value) (an : Option Addr) (cdv ct : Value) (t u : Value), bindArgs (PySem.W.fnOf x qual (defArgs st) (defBody st) (defScope st) .none kV doc pm an cdv ct) ⟨[t], [(p, u)]⟩ = pure [(r, t), (p, u)]) : KBinds K fd [r, p] [p] EL.kwM1 EL.kwM1 := by
  obtain ⟨oc, od, kV, doc, pm, an, cdv, ct, osl, rfl, lk, hcd⟩ := F.ex
  refine ⟨fun s us ws _ hl => ?_, kwM1_rel⟩
  match us, ws, hl with
  | [t], [u], _ => exact .of_eq (h kV doc pm an cdv ct t u)
  | [], _, hl => exact absurd hl (by simp [EL.kwM1])
  | [_], [], hl => exact absurd hl (by simp [EL.kwM1])
  | [_], _ :: _ :: _, hl => exact absurd hl (by simp [EL.kwM1])
  | _ :: _ :: _, _, hl => exact absurd hl (by simp [EL.kwM1])
end EL
/-! Data of tuples alone stands as long as tuples stand; lists of such data that grow. -/
namespace EL
open PySem PySem.Spec PyProof.Rows L2
/-- tuples stand -/
def KpT (H H' : Hp) : Prop := ∀ b xs, (H b = some (.tup xs) → H' b = some (.tup xs)) ∧ ∀ o, H b = some (.frz o (.tup xs)) → H' b = some (.frz o (.tup xs))
theorem KpT.of {H H' : Hp} (s : Same H H') : KpT H H' := fun b xs => ⟨fun h => s _ _ h, fun o h => s _ _ h⟩
theorem KpT.trans {H H1 H2 : Hp} (x : KpT H H1) (y : KpT H1 H2) : KpT H H2 := fun b xs => ⟨fun h => (y b xs).1 ((x b xs).1 h), fun o h => (y b xs).2 o ((x b xs).2 o h)⟩
theorem KpT.lst {H : Hp} {p : Addr} {vs : List V} {o : HO} (h : H p = some (.lst vs)) : KpT H (upd H p o) := fun b xs => ⟨fun e => by rw [upd_ne (fun q => by rw [q, h] at e; cases e)]; exact e, fun o e => by rw [upd_ne (fun q => by rw [q, h] at e; cases e)]; exact e⟩
theorem KpT.dT {H : Hp} {p : Addr} {vs : List (List L2.Key × V)} {o : HO} (h : H p = some (.dT vs)) : KpT H (upd H p o) := fun b xs => ⟨fun e => by rw [upd_ne (fun q => by rw [q, h] at e; cases e)]; exact e, fun o e => by rw [upd_ne (fun q => by rw [q, h] at e; cases e)]; exact e⟩
theorem KpT.dK {H : Hp} {p : Addr} {vs : List (L2.Key × V)} {o : HO} (h : H p = some (.dK vs)) : KpT H (upd H p o) := fun b xs => ⟨fun e => by rw [upd_ne (fun q => by rw [q, h] at e; cases e)]; exact e, fun o e => by rw [upd_ne (fun q => by rw [q, h] at e; cases e)]; exact e⟩
theorem KpT.wo {H : Hp} {p : Addr} {vs : List V} (h : H p = some (.lst vs)) : KpT H (wo p H) := fun b xs => ⟨fun e => by rw [wo_ne (fun q => by rw [q, h] at e; cases e)]; exact e, fun o e => by rw [wo_ne (fun q => by rw [q, h] at e; cases e)]; exact e⟩
theorem sqT_kpt {K : PySem.W.Frag} {H H' : Hp} {b : Addr} {xs : List V} (k : KpT H H') (h : SqT K H b xs) : SqT K H' b xs := by
  rcases h with (h | ⟨o, h⟩) | h
  · exact .inl (.inl ((k b xs).1 h))
  · exact .inl (.inr ⟨o, (k b xs).2 o h⟩)
  · exact .inr h
mutual
theorem dq_kpt {K : PySem.W.Frag} {H H' : Hp} (k : KpT H H') : ∀ (d : PyData) (v : V), Dq K H v d → noLD d = true → Dq K H' v d
  | .none, _, h, _ => by cases h; exact .non
  | .bool b, _, h, _ => by cases h; exact .bl b
  | .int i, _, h, _ => by cases h; exact .int i
  | .str x, _, h, _ => by cases h; exact .str x
  | .list ds, _, h, n => by simp [noLD] at n
  | .tuple ds, _, h, n => by
    cases h with
    | tup hs ha => exact .tup (sqT_kpt k hs) (dqAll_kpt k ds _ ha (by simpa [noLD] using n))
  | .dict _, _, h, n => by simp [noLD] at n
theorem dqAll_kpt {K : PySem.W.Frag} {H H' : Hp} (k : KpT H H') : ∀ (ds : List PyData) (vs : List V), DqAll K H vs ds → noLDs ds = true → DqAll K H' vs ds
  | [], _, h, _ => by cases h; exact .nil
  | d :: ds, _, h, n => by
    cases h with
    | cons h1 h2 =>
      obtain ⟨n1, n2⟩ : noLD d = true ∧ noLDs ds = true := by simpa [noLDs] using n
      exact .cons (dq_kpt k d _ h1 n1) (dqAll_kpt k ds _ h2 n2)
end
theorem noLDs_map {α : Type} {f : α → PyData} (h : ∀ a, noLD (f a) = true) : ∀ l : List α, noLDs (l.map f) = true
  | [] => rfl
  | a :: r => by simp only [List.map_cons, noLDs, h a, noLDs_map h r, Bool.and_self]
theorem noLDs_nats (ns : List Nat) : noLDs (ns.map fun n : Nat => PyData.int (n : Int)) = true := noLDs_map (fun _ => rfl) ns
end EL
/-! own binary operators: x + y, x | y of two instances of one class, the answer an object. -/
namespace EL
open PySem PySem.Spec PyProof.Rows L2
section
variable {X : Cx} {k : Nat} {C f : Addr} {fd : FuncData} {ps : List Str} {sp : Sp} {E : XK}
def rOwnB (C : Addr) (sp : Sp) (E : XK) : R2 := fun x y H Q => ∃ a b dx dy fs gs, x = .ref a ∧ y = .ref b ∧ H a = some (.ins C dx fs) ∧ H b = some (.ins C dy gs) ∧ sp [.ref a, .ref b] H (fun v H' => ∃ r : Addr, v = .ref r ∧ Q (.ref r) H') E
theorem run_ownB {A : Around} {pins : List (Addr × Obj)} {s : Shared} {σ : L2.St} {H : Hp} {a b : Addr} {Q : VK} (hA : A.frames = X.A.frames) (hr : Room k A) (F : FnOk X.prog X.w X.K X.mg X.base CX0 k f fd ps sp) (hb : Binds X.K fd ps []) (hx : Passes CX0 X E) (I : Inv X pins σ H s)
    (hsp : sp [.ref a, .ref b] H (fun v H' => ∃ r : Addr, v = .ref r ∧ Q (.ref r) H') E) :
    wpAny (model X.prog X.w) A (call (.ref f) [.ref a, .ref b]) (PySem.W.CmpBack (EP X pins σ Q)) X.xe s := by
  have e0 : Env0 X.prog X.w X.K X.mg X.base A X.stack s H := by
    have e := I.env0
    exact ⟨by rw [hA]; exact e.frames, e.mod, e.bs, e.bsz, e.funs, e.frf, e.hok, e.bare⟩
  have hl := F.len _ _ _ _ hsp
  have r2 : Vals [V.ref a, V.ref b] [Value.ref a, Value.ref b] := .cons rfl (.cons rfl .nil)
  refine wpAny_call (codeAny_mono (F.run A X.stack s H ⟨[.ref a, .ref b], []⟩ [.ref a, .ref b] [.ref a, .ref b] _ E hr e0 (by
    have := hb s [.ref a, .ref b] I.kIn (by simpa using hl)
    simpa using this) r2 hsp) fun r s' hq => ?_)
  cases r with
  | error e => exact hx pins σ H s e s' I hq
  | ok fl =>
    cases fl with
    | ret w =>
      obtain ⟨z, H', I', rz, r, ez, q⟩ := I.after hq
      subst ez
      cases rz
      exact ⟨.ref r, H', I', rfl, q⟩
    | next => exact False.elim hq
    | brk => exact False.elim hq
    | cont => exact False.elim hq
/-- what an operator wants to know of the class -/
structure BinOwn (K : PySem.W.Frag) (C f : Addr) (op : Operator) : Prop where
  sf : PySem.W.selfFirst K C = true
  at_ : PySem.W.findIn K (.ref C) (PySem.dunder op.info.snd) = some (some (.ref f))
  fn : PySem.W.isFn K (.ref f) = true
theorem op_ownB {op : Operator} (F : FnOk X.prog X.w X.K X.mg X.base CX0 k f fd ps sp) (hr : Room k X.A) (N : BinOwn X.K C f op) (hb : Binds X.K fd ps []) (hx : Passes CX0 X E) :
    OpR X (binaryOp op) (rOwnB C sp E) := by
  intro pins s σ H x y v u Q I rx ry hq
  obtain ⟨a, b, dx, dy, fs, gs, rfl, rfl, ha, hb', hsp⟩ := hq
  cases rx
  cases ry
  obtain ⟨mA, J, _⟩ := ins_get I.hok ha
  obtain ⟨mB, J', _⟩ := ins_get I.hok hb'
  obtain ⟨od, J, _⟩ := J.look
  obtain ⟨od', J', _⟩ := J'.look
  obtain ⟨m, hF⟩ := I.fr
  exact PySem.W.binop_K (op := op) hF I.ok.mod.kin J J'.type N.sf N.at_ N.fn (run_ownB rfl hr F hb hx I hsp)
end
end EL
/-! [e for a in xs for b in ys]: both walks by what holds between turns. -/
namespace EL
open PySem PySem.Spec PyProof.Rows L2
#print L2.Walk
theorem it_gen {J : It} {n : Nat} {G : Hp → Prop} {Y : Nat → Hp → V → Hp → Prop} (w : Walk J n G Y) {H0 : Hp} {Qd : Hp → Prop} {B : V → Hp → (Hp → Prop) → Prop} (Pv : Nat → Hp → Prop) (h0 : Pv 0 H0) (hG : ∀ i H, i ≤ n → Pv i H → G H)
    (hs : ∀ i x H H', i < n → Pv i H → Y i H x H' → B x H' (Pv (i + 1))) (hd : ∀ H, Pv n H → Qd H) :
    ∃ W : Nat → Nat → Hp → Prop, (∃ m, W 0 m H0) ∧ ∀ i m H, W i m H → (J.stop i H ∧ Qd H) ∨ (J.go i H ∧ ∃ Nx : Hp → Prop, (∀ H', Nx H' → ∃ m', m' < m ∧ W (i + 1) m' H') ∧ ∀ x H', J.yld i H x H' → B x H' Nx) := by
  refine ⟨fun i m H => i ≤ n ∧ m = n - i ∧ Pv i H, ⟨n, Nat.zero_le _, rfl, h0⟩, fun i m H ⟨hi, hm, hp⟩ => ?_⟩
  by_cases e : i = n
  · subst e; exact .inl ⟨w.stops H (hG _ _ hi hp), hd H hp⟩
  · refine .inr ⟨w.goes i H (by omega) (hG _ _ hi hp), Pv (i + 1), fun H' h => ⟨n - (i + 1), by omega, by omega, rfl, h⟩, fun x H' y => hs i x H H' (by omega) hp (w.yields i H x H' (by omega) (hG _ _ hi hp) y)⟩
end EL
namespace KP
open PySem PySem.Spec PyProof.Rows L2 EL
open Evl (pss_cut)
abbrev sWordOf : Stmt := topS 16
theorem scWordOf : FnScope ["text"] ["text"] (defScope sWordOf) := ⟨rfl, rfl, rfl, by decide +kernel, rfl, by decide +kernel, by decide +kernel⟩
abbrev sLineOf : Stmt := topS 17
theorem scLineOf : FnScope ["head", "states", "told", "state"] ["head", "states"] (defScope sLineOf) := ⟨rfl, rfl, rfl, by decide +kernel, rfl, by decide +kernel, by decide +kernel⟩
/-- a word of a line: - for the empty text -/
def wordS (t : Str) : Str := if t.length = 0 then "-" else t
theorem wordS_len (t : Str) : (wordS t).length ≤ t.length + 1 := by
  unfold wordS
  split
  · have : ("-" : Str).length = 1 := by decide
    omega
  · omega
def spWordOf : Sp := fun vs H Q _ => ∃ t : Str, vs = [.str t] ∧ t.length ≤ 1000000 ∧ Q (.str (wordS t)) H
section
variable {P : Program} {w : World} {K : PySem.W.Frag} {mg : Str → Option Value} {base : Heap}
theorem ok_WordOf {f : Addr} {fd : FuncData} {k : Nat} (F : Fun K "word_of" "word_of" sWordOf f fd) (m_NOTHING : StrAt mg "NOTHING" "-") : FnOk P w K mg base CX0 (k + 1) f fd ["text"] spWordOf := by
  refine F.ok scWordOf (fun vs H Q E h => ?_) (fun cdv A outer s H vs Q E hr h => ?_)
  · obtain ⟨t, rfl, _⟩ := h; rfl
  · obtain ⟨t, rfl, ht, kQ⟩ := h
    refine ⟨_, (pss_one (ps_ret (pe_ifExp (pt_truth (pv 0) (by intro _; rfl)) (pv 0) (pe_gstr m_NOTHING)))), ?_⟩
    refine ⟨_, rfl, _, ⟨len_sz ht, rfl⟩, ?_⟩
    unfold wordS at kQ
    by_cases e : t.length = 0
    · rw [if_pos e] at kQ
      rw [show (((t.length : Nat) : Int) != 0) = false by rw [e]; rfl]
      exact iteF kQ
    · rw [if_neg e] at kQ
      rw [show (((t.length : Nat) : Int) != 0) = true by simpa using e]
      exact iteT ⟨_, rfl, kQ⟩
end
abbrev numS (n : Nat) : Str := Str.ofString (toString (n : Int))
theorem numS_len : ∀ n < 1000, (numS n).length ≤ 3 := by decide +kernel
theorem app_len (a b : Str) : (a ++ b).length = a.length + b.length := by
  show (a.cps ++ b.cps).size = _
  rw [Array.size_append]; rfl
theorem nums_sum : ∀ {ns : List Nat}, (∀ n ∈ ns, n < 1000) → ((ns.map numS).map (·.length)).sum ≤ 3 * ns.length
  | [], _ => by simp
  | n :: r, h => by
    have ih := nums_sum (ns := r) fun m hm => h m (List.mem_cons_of_mem _ hm)
    have := numS_len n (h n List.mem_cons_self)
    simp only [List.map_cons, List.sum_cons, List.length_cons]; omega
theorem join_nums {ns : List Nat} (h : ∀ n ∈ ns, n < 1000) : (Txt.join (" " : Str) (ns.map numS)).length ≤ 4 * ns.length := by
  have e1 : (" " : Str).length = 1 := by decide
  have h1 := nums_sum h
  have h2 := StrLaws.join_length_le (" " : Str) (ns.map numS)
  rw [e1, List.length_map] at h2
  unfold Txt.join
  rw [StrLaws.glued_eq_join]
  omega
abbrev lineS (hd : Str) (ns : List Nat) : Str := ((Str.empty ++ hd) ++ (" " : Str)) ++ wordS (Txt.join (" " : Str) (ns.map numS))
def spLineOf (K : PySem.W.Frag) : Sp := fun vs H Q _ => ∃ (hd : Str) (v : V) (ns : List Nat), vs = [.str hd, v] ∧ Dq K H v (.tuple (nats ns)) ∧ hd.length ≤ 100 ∧ ns.length ≤ 1000 ∧ (∀ n ∈ ns, n < 1000) ∧ ∀ H', Same H H' → Q (.str (lineS hd ns)) H'
section
variable {P : Program} {w : World} {K : PySem.W.Frag} {mg : Str → Option Value} {base : Heap}
theorem ok_LineOf {f : Addr} {fd : FuncData} {k : Nat} (F : Fun K "line_of" "line_of" sLineOf f fd) (nstr : mg "str" = none) (CWordOf : Cal P w K mg base k "word_of" ["text"] spWordOf) : FnOk P w K mg base CX0 (k + 1) f fd ["head", "states"] (spLineOf K) := by
  refine F.ok scLineOf (fun vs H Q E h => ?_) (fun cdv A outer s H vs Q E hr h => ?_)
  · obtain ⟨hd, v, ns, rfl, _⟩ := h; rfl
  · obtain ⟨hd, v, ns, rfl, hv, h1, h2, h3, kQ⟩ := h
    refine ⟨_, (pss_cons (ps_set (i := 2) scLineOf.nd rfl (by first | exact Or.inl rfl | exact Or.inr rfl) (pe_join pe_str (pe_lc (own := [("state", 3)]) (g := (gName 3)) (by rfl) scLineOf.nd (pi_tup (pv 1)) (blkOk_by (own := [("state", 3)]) (N := ["head", "states", "told", "state"]) (sc := defScope sLineOf) (by decide +kernel)) (fun _ _ _ _ _ => (pg_name (i := 3) scLineOf.nd rfl (by first | exact Or.inl rfl | exact Or.inr rfl))) (fun _ _ _ _ _ => pts_nil) (fun _ _ _ _ _ => (pe_callTy call_str_int (by rfl) nstr (by decide +kernel) (pa_cons (pv 3) pa_nil))))))
      (pss_one (ps_ret (pe_joined (PJ.cons (pe_fmt (pv 0)) (PJ.cons pe_str (PJ.cons (pe_fmt (pe_cal CWordOf hr (by rfl) pass0 (pa_cons (pv 2) pa_nil))) PJ.nil))))))), ?_⟩
    obtain ⟨a, xs, rfl, hxs, hxa⟩ : ∃ a xs, v = .ref a ∧ SqT K H a xs ∧ DqAll K H xs (nats ns) := by
      cases hv with | tup hs ha => exact ⟨_, _, rfl, hs, ha⟩
    obtain rfl := dqAll_nats hxa
    refine ⟨⟨_, rfl⟩, _, rfl, a, rfl, ⟨_, hxs⟩, fun D nD => ?_⟩
    refine lc_it walk_tup (LcP D (fun _ H' => Same H H') (fun j v => ∃ s : Nat, ns[j]? = some s ∧ v = some (V.str (numS s)))) (LcP.start (same_upd nD)) (fun i H' _ z => by obtain ⟨_, _, _, _, sm⟩ := z; exact ex_t' sm hxs) ?_ ?_
    · rintro j v H9 H1 hj ⟨ys, hl2, hR, hD, sm⟩ ⟨rfl, hv⟩
      obtain ⟨s', hs', rfl⟩ : ∃ b, ns[j]? = some b ∧ v = .int (b : Int) := by
        rw [List.getElem?_map] at hv
        cases e : ns[j]? with
        | none => rw [e] at hv; cases hv
        | some b => rw [e] at hv; exact ⟨b, rfl, (Option.some.inj hv).symm⟩
      have hj2 : j < ns.length := (List.getElem?_eq_some_iff.mp hs').1
      have hsm := h3 s' (List.mem_of_getElem? hs')
      refine ⟨rfl, ?_⟩
      dsimp only [tYes]
      refine iteT ⟨_, rfl, _, rfl, ?_, ?_⟩
      · show (s' : Int).natAbs.log2 < 1920
        rw [Int.natAbs_natCast]
        exact Nat.lt_of_le_of_lt (Nat.log2_le_self _) (by omega)
      · exact lcp_some hl2 hR hD (by omega) ⟨s', hs', rfl⟩ fun b o q => by rw [upd_ne (ne_of_none q nD)]; exact sm b o q
    rintro H1 ⟨ys, hl2, hR, hD, s1⟩
    have e := rows_map (f := fun s : Nat => some (V.str (numS s))) (l := ns) (by rw [hl2, List.length_map]) hR
    have e2 : (ns.map fun s : Nat => some (V.str (numS s))).filterMap id = (ns.map numS).map V.str := by rw [List.filterMap_map, List.map_map]; simp [Function.comp_def]
    rw [e, e2] at hD
    refine ⟨_, D, ns.map numS, rfl, rfl, .inl (sqOf hD), ?_, ?_⟩
    · have e1 : (" " : Str).length = 1 := by decide
      have := nums_sum h3
      rw [List.length_map]
      show _ + _ * (" " : Str).length ≤ 16777216
      rw [e1]; omega
    have jl := join_nums h3
    have wl := wordS_len (Txt.join (" " : Str) (ns.map numS))
    have e1 : (" " : Str).length = 1 := by decide
    have e0 : Str.empty.length = 0 := by decide
    have zs : sizeLine = 16777216 := by decide
    refine ⟨_, rfl, .inl ⟨hd, rfl, len_sz (by omega), hd, rfl, ?_, _, rfl, ?_, ⟨_, rfl, _, rfl, ?_, .inl ⟨_, rfl, len_sz (by omega), _, rfl, ?_, kQ _ s1⟩⟩⟩⟩
    · rw [app_len, e0]; omega
    · rw [app_len, app_len, e0]; show _ + (" " : Str).length ≤ _; omega
    · show (Txt.join (" " : Str) (ns.map numS)).length ≤ 1000000
      omega
    · rw [app_len, app_len, app_len, e0]
      show 0 + hd.length + (" " : Str).length + (wordS (Txt.join (" " : Str) (ns.map numS))).length ≤ _
      omega
end
end KP
/-! f-strings by a name of their own, so that a comprehension's element may be one. -/
namespace EL
open PySem PySem.Spec PyProof.Rows L2
def tJd (ts : List TE) : TE := fun σ H Q => tJs ts Str.empty σ H fun out H1 => Q (V.str out) H1
theorem pe_joinedD {X : Cx} {v1 v2 : Expr} {rest : List Expr} {ts : List TE} {pos : Pos} (h : PJ X (v1 :: v2 :: rest) ts) : PE X (.JoinedStr (v1 :: v2 :: rest) pos) (tJd ts) := pe_joined h
end EL
namespace KP
open PySem PySem.Spec PyProof.Rows L2 EL
open Evl (pss_cut)
abbrev sTextLines : Stmt := topS 33
theorem scTextLines : FnScope ["pacer", "moves", "state", "left", "right", "further"] ["pacer"] (defScope sTextLines) := ⟨rfl, rfl, rfl, by decide +kernel, rfl, by decide +kernel, by decide +kernel⟩
abbrev moveS (m : Mv) : Str := ((((((Str.empty ++ ("move " : Str)) ++ numS m.s) ++ (" " : Str)) ++ wordS ⟨m.l.toArray⟩) ++ (" " : Str)) ++ wordS ⟨m.r.toArray⟩) ++ (" " : Str) ++ numS m.t
def linesS (pl : Plan) : List Str := ((Str.empty ++ ("pacer " : Str)) ++ numS pl.wide) :: lineS "begins" pl.ins :: lineS "ends" pl.outs :: pl.ways.map moveS
/-- a plan that can be written and read -/
structure Plan.Fine (p : Plan) : Prop where
  w1 : 1 ≤ p.wide
  w2 : p.wide ≤ 999
  i : Asc p.wide p.ins
  o : Asc p.wide p.outs
  n : p.ways.length ≤ 1000
  m : ∀ m ∈ p.ways, m.s < p.wide ∧ m.t < p.wide ∧ m.l.length ≤ 1000 ∧ m.r.length ≤ 1000 ∧ (∀ c ∈ m.l, 97 ≤ c ∧ c ≤ 122) ∧ ∀ c ∈ m.r, 97 ≤ c ∧ c ≤ 122
theorem Plan.Ok.fine {p : Plan} {a b c : Nat} (h : p.Ok a b c) (h1 : a ≤ 50) (h2 : b ≤ 50) (h3 : c ≤ 50) : p.Fine :=
  ⟨h.w1, by have := h.w2; omega, h.i, h.o, by have := h.n; omega, fun m hm => by
    obtain ⟨q1, q2, q3, q4, q5, q6⟩ := h.m m hm
    exact ⟨q1, q2, by omega, by omega, fun x hx => by have := q5 x hx; omega, fun x hx => by have := q6 x hx; omega⟩⟩
def spTextLines (K : PySem.W.Frag) (C : Addr) : Sp := fun vs H Q _ => ∃ (p : Addr) (pl : Plan), vs = [.ref p] ∧ PacAt K C H p pl ∧ pl.Fine ∧ ∀ l H', Same H H' → H l = none → H' l = some (.lst ((linesS pl).map V.str)) → Q (.ref l) H'
section
variable {P : Program} {w : World} {K : PySem.W.Frag} {mg : Str → Option Value} {base : Heap}
theorem ok_TextLines {f C : Addr} {fd : FuncData} {k : Nat} (F : Fun K "text_lines" "text_lines" sTextLines f fd) (T : PTxt K C) (CWordOf : Cal P w K mg base k "word_of" ["text"] spWordOf) (CLineOf : Cal P w K mg base k "line_of" ["head", "states"] (spLineOf K)) : FnOk P w K mg base CX0 (k + 1) f fd ["pacer"] (spTextLines K C) := by
  refine F.ok scTextLines (fun vs H Q E h => ?_) (fun cdv A outer s H vs Q E hr h => ?_)
  · obtain ⟨p, pl, rfl, _⟩ := h; rfl
  · obtain ⟨p, pl, rfl, hP, hO, kQ⟩ := h
    refine ⟨_, (pss_cons (ps_setLc (i := 1) (own := [("state", 2), ("left", 3), ("right", 4), ("further", 5)]) (g := (gTup K 4 (gCons (gName 2) (gCons (gName 3) (gCons (gName 4) (gCons (gName 5) gNil)))))) (by rfl) scTextLines.nd rfl rfl (sw_true rfl rfl rfl (by decide +kernel)) (pi_tup (pe_fld (pv 0) rfl)) (blkOk_by (own := [("state", 2), ("left", 3), ("right", 4), ("further", 5)]) (N := ["pacer", "moves", "state", "left", "right", "further"]) (sc := defScope sTextLines) (by decide +kernel)) (fun _ _ _ _ _ => (pg_tup (by rfl) (pgs_cons (pg_name (i := 2) scTextLines.nd rfl (by first | exact Or.inl rfl | exact Or.inr rfl)) (pgs_cons (pg_name (i := 3) scTextLines.nd rfl (by first | exact Or.inl rfl | exact Or.inr rfl)) (pgs_cons (pg_name (i := 4) scTextLines.nd rfl (by first | exact Or.inl rfl | exact Or.inr rfl)) (pgs_cons (pg_name (i := 5) scTextLines.nd rfl (by first | exact Or.inl rfl | exact Or.inr rfl)) pgs_nil)))))) (fun _ _ _ _ _ => pts_nil) (fun _ _ _ _ _ => (pe_joinedD (PJ.cons pe_str (PJ.cons (pe_fmt (pv 2)) (PJ.cons pe_str (PJ.cons (pe_fmt (pe_cal CWordOf hr (by rfl) pass0 (pa_cons (pv 3) pa_nil))) (PJ.cons pe_str (PJ.cons (pe_fmt (pe_cal CWordOf hr (by rfl) pass0 (pa_cons (pv 4) pa_nil))) (PJ.cons pe_str (PJ.cons (pe_fmt (pv 5)) PJ.nil)))))))))))
      (pss_one (ps_ret (pe_lst (pa_cons (pe_joinedD (PJ.cons pe_str (PJ.cons (pe_fmt (pe_fld (pv 0) rfl)) PJ.nil))) (pa_cons (pe_cal CLineOf hr (by rfl) pass0 (pa_cons pe_str (pa_cons (pe_fld (pv 0) rfl) pa_nil))) (pa_cons (pe_cal CLineOf hr (by rfl) pass0 (pa_cons pe_str (pa_cons (pe_fld (pv 0) rfl) pa_nil))) (StX.pa_star (pv 1) pa_nil)))))))), ?_⟩

    obtain ⟨dx, vb, vm, ve, e1, e2, e3, e4⟩ := hP.at'
    have hn := hO.n
    have w2 := hO.w2
    have l1 := asc_len hO.i
    have l2 := asc_len hO.o
    have zs : sizeLine = 16777216 := by decide
    obtain ⟨ms, hms, hma⟩ : ∃ ms, SqT K H vm ms ∧ DqAll K H ms (pl.ways.map mvD) := by
      cases e3 with
      | tup hs ha => exact ⟨_, hs, ha⟩
    have hml : ms.length = pl.ways.length := by rw [hma.len, List.length_map]
    refine ⟨_, rfl, p, C, dx, _, _, rfl, e1, T.cl, T.nM, pf_m _ _ _ _, vm, rfl, ⟨ms, hms⟩, fun D nD => ?_⟩
    refine lc_it walk_tup (LcP D (fun _ H' => Same H H') (fun j v => ∃ m : Mv, pl.ways[j]? = some m ∧ v = some (V.str (moveS m)))) (LcP.start (same_upd nD)) (fun i H' _ z => by obtain ⟨_, _, _, _, sm⟩ := z; exact ex_t' sm hms) ?_ ?_
    · rintro j v H9 H1 hj ⟨ys, hl2, hR, hD, sm⟩ ⟨rfl, hv⟩
      obtain ⟨d, hd, hdq⟩ := hma.at hv
      obtain ⟨mv, hmv, rfl⟩ := mv_get hd
      obtain ⟨e, rfl, hab⟩ := dq_mv (hdq.up sm)
      have hmm := hO.m mv (List.mem_of_getElem? hmv)
      have hj2 : j < pl.ways.length := (List.getElem?_eq_some_iff.mp hmv).1
      refine ⟨e, _, rfl, hab, rfl, _, _, rfl, _, _, rfl, _, _, rfl, _, _, rfl, rfl, rfl, ?_⟩
      dsimp only [tYes]
      have n1 := numS_len mv.s (by omega)
      have n2 := numS_len mv.t (by omega)
      have k1 := wordS_len (⟨mv.l.toArray⟩ : Str)
      have k2 := wordS_len (⟨mv.r.toArray⟩ : Str)
      have z1 : (⟨mv.l.toArray⟩ : Str).length = mv.l.length := by rw [str_len]
      have z2 : (⟨mv.r.toArray⟩ : Str).length = mv.r.length := by rw [str_len]
      have z3 : ("move " : Str).length = 5 := by decide
      have z4 : (" " : Str).length = 1 := by decide
      have z5 : Str.empty.length = 0 := by decide
      have lg : ∀ n : Nat, n < 1000 → (n : Int).natAbs.log2 < 1920 := fun n h => by
        rw [Int.natAbs_natCast]
        exact Nat.lt_of_le_of_lt (Nat.log2_le_self _) (by omega)
      have ln : ∀ z : Str, z.length ≤ 5000 → z.length ≤ sizeLine := fun z h => len_sz (by omega)
      refine iteT ⟨_, rfl, ln _ ?_, _, rfl, .inr ⟨_, rfl, lg _ (by omega), _, rfl, ln _ ?_, _, rfl, ln _ ?_, _, rfl, _, rfl, (by omega), .inl ⟨_, rfl, ln _ (by omega), _, rfl, ln _ ?_, _, rfl, ln _ ?_, _, rfl, _, rfl, (by omega), .inl ⟨_, rfl, ln _ (by omega), _, rfl, ln _ ?_, _, rfl, ln _ ?_, _, rfl, .inr ⟨_, rfl, lg _ (by omega), _, rfl, ln _ ?_, ?_⟩⟩⟩⟩⟩
      rotate_right
      · exact lcp_some hl2 hR hD (by omega) ⟨mv, hmv, rfl⟩ fun b o q => by rw [upd_ne (ne_of_none q nD)]; exact sm b o q
      all_goals
        simp only [app_len, z3, z4, z5]
        have n1 : (Str.ofString (toString (mv.s : Int))).length ≤ 3 := n1
        have n2 : (Str.ofString (toString (mv.t : Int))).length ≤ 3 := n2
        omega
    rintro H1 ⟨ys, hl2, hR, hD, s1⟩
    have e := rows_map (f := fun m : Mv => some (V.str (moveS m))) (l := pl.ways) (by rw [hl2, hml]) hR
    have e2' : (pl.ways.map fun m : Mv => some (V.str (moveS m))).filterMap id = (pl.ways.map moveS).map V.str := by rw [List.filterMap_map, List.map_map]; simp [Function.comp_def]
    rw [e, e2'] at hD
    have z3 : ("pacer " : Str).length = 6 := by decide
    have z5 : Str.empty.length = 0 := by decide
    have n1 := numS_len pl.wide (by omega)
    have lg : (pl.wide : Int).natAbs.log2 < 1920 := by
      rw [Int.natAbs_natCast]
      exact Nat.lt_of_le_of_lt (Nat.log2_le_self _) (by omega)
    have ln : ∀ z : Str, z.length ≤ 5000 → z.length ≤ sizeLine := fun z h => len_sz (by omega)
    refine ⟨_, rfl, ln _ ?_, _, rfl, p, C, dx, _, _, rfl, s1 _ _ e1, T.cl, T.nS, pf_s _ _ _ _, .inr ⟨_, rfl, lg, _, rfl, ln _ ?_, ?_⟩⟩
    · simp only [app_len, z3, z5]; omega
    · have n1 : (Str.ofString (toString (pl.wide : Int))).length ≤ 3 := n1
      simp only [app_len, z3, z5]; omega
    refine ⟨_, rfl, p, C, dx, _, _, rfl, s1 _ _ e1, T.cl, T.nB, pf_b _ _ _ _, "begins", _, pl.ins, rfl, e2.up s1, by decide, by omega, fun n hn => by have := hO.i.2 n hn; omega, fun H2 s2 => ?_⟩
    have s12 := s1.trans s2
    refine ⟨_, rfl, p, C, dx, _, _, rfl, s12 _ _ e1, T.cl, T.nE, pf_e _ _ _ _, "ends", _, pl.outs, rfl, e4.up s12, by decide, by omega, fun n hn => by have := hO.o.2 n hn; omega, fun H3 s3 => ?_⟩
    have gD := s3 _ _ (s2 _ _ hD)
    refine ⟨_, rfl, D, _, rfl, .inr (sqOf gD), ?_⟩
    refine ⟨len_sz (by simp only [List.length_cons, List.length_append, List.length_map, List.length_nil]; omega), fun l nl => ?_⟩
    refine kQ l _ ((s12.trans s3).trans (same_upd nl)) ((s12.trans s3).free nl) ?_
    rw [upd_same]
    simp [linesS]
    rfl
end
end KP
namespace KP
open PySem PySem.Spec PyProof.Rows L2 EL
open Evl (pss_cut)
abbrev sPacerStr : Stmt := inClass (topS 26) 8
theorem scPacerStr : FnScope ["self"] ["self"] (defScope sPacerStr) := ⟨rfl, rfl, rfl, by decide +kernel, rfl, by decide +kernel, by decide +kernel⟩
abbrev textS (pl : Plan) : Str := Txt.join (Str.ofString "\n") (linesS pl)
theorem moveS_len {m : Mv} (hs : m.s < 1000) (ht : m.t < 1000) (hl : m.l.length ≤ 1000) (hr : m.r.length ≤ 1000) : (moveS m).length ≤ 2100 := by
  have n1 := numS_len m.s hs
  have n2 := numS_len m.t ht
  have k1 := wordS_len (⟨m.l.toArray⟩ : Str)
  have k2 := wordS_len (⟨m.r.toArray⟩ : Str)
  have z1 : (⟨m.l.toArray⟩ : Str).length = m.l.length := by rw [str_len]
  have z2 : (⟨m.r.toArray⟩ : Str).length = m.r.length := by rw [str_len]
  have z3 : ("move " : Str).length = 5 := by decide
  have z4 : (" " : Str).length = 1 := by decide
  have z5 : Str.empty.length = 0 := by decide
  simp only [moveS, app_len, z3, z4, z5]
  have n1 : (Str.ofString (toString (m.s : Int))).length ≤ 3 := n1
  have n2 : (Str.ofString (toString (m.t : Int))).length ≤ 3 := n2
  omega
theorem moves_sum : ∀ {ms : List Mv}, (∀ m ∈ ms, (moveS m).length ≤ 2100) → ((ms.map moveS).map (·.length)).sum ≤ 2100 * ms.length
  | [], _ => by simp
  | m :: r, h => by
    have ih := moves_sum (ms := r) fun x hx => h x (List.mem_cons_of_mem _ hx)
    have := h m List.mem_cons_self
    simp only [List.map_cons, List.sum_cons, List.length_cons]; omega
theorem lineS_len {hd : Str} {ns : List Nat} (h : ∀ n ∈ ns, n < 1000) : (lineS hd ns).length ≤ hd.length + 2 + 4 * ns.length := by
  have jl := join_nums h
  have wl := wordS_len (Txt.join (" " : Str) (ns.map numS))
  have z4 : (" " : Str).length = 1 := by decide
  have z5 : Str.empty.length = 0 := by decide
  show (((Str.empty ++ hd) ++ (" " : Str)) ++ wordS (Txt.join (" " : Str) (ns.map numS))).length ≤ _
  rw [app_len, app_len, app_len, z4, z5]; omega
theorem lines_sum {pl : Plan} (hO : pl.Fine) : ((linesS pl).map (·.length)).sum + (linesS pl).length ≤ 3000000 := by
  have w2 := hO.w2
  have hn := hO.n
  have l1 := asc_len hO.i
  have l2 := asc_len hO.o
  have m1 := moves_sum (ms := pl.ways) fun m hm => by
    obtain ⟨q1, q2, q3, q4, _⟩ := hO.m m hm
    exact moveS_len (by omega) (by omega) (by omega) (by omega)
  have k1 := lineS_len (hd := "begins") (ns := pl.ins) fun n hn => by have := hO.i.2 n hn; omega
  have k2 := lineS_len (hd := "ends") (ns := pl.outs) fun n hn => by have := hO.o.2 n hn; omega
  have n1 := numS_len pl.wide (by omega)
  have z1 : ("begins" : Str).length = 6 := by decide
  have z2 : ("ends" : Str).length = 4 := by decide
  have z3 : ("pacer " : Str).length = 6 := by decide
  have z5 : Str.empty.length = 0 := by decide
  have a1 : (Str.empty ++ ("pacer " : Str) ++ numS pl.wide).length ≤ 9 := by rw [app_len, app_len, z3, z5]; omega
  rw [z1] at k1
  rw [z2] at k2
  simp only [linesS, List.map_cons, List.sum_cons, List.length_cons, List.length_map] at m1 ⊢
  omega
def spStr (K : PySem.W.Frag) (C : Addr) : Sp := fun vs H Q _ => ∃ (p : Addr) (pl : Plan), vs = [.ref p] ∧ PacAt K C H p pl ∧ pl.Fine ∧ ∀ H', Same H H' → Q (.str (textS pl)) H'
section
variable {P : Program} {w : World} {K : PySem.W.Frag} {mg : Str → Option Value} {base : Heap}
theorem ok_PacerStr {f C : Addr} {fd : FuncData} {k : Nat} (F : Fun K "__str__" "Pacer.__str__" sPacerStr f fd) (CTextLines : Cal P w K mg base k "text_lines" ["pacer"] (spTextLines K C)) : FnOk P w K mg base CX0 (k + 1) f fd ["self"] (spStr K C) := by
  refine F.ok scPacerStr (fun vs H Q E h => ?_) (fun cdv A outer s H vs Q E hr h => ?_)
  · obtain ⟨p, pl, rfl, _⟩ := h; rfl
  · obtain ⟨p, pl, rfl, hP, hO, kQ⟩ := h
    refine ⟨_, (pss_one (ps_ret (pe_join pe_str (pe_cal CTextLines hr (by rfl) pass0 (pa_cons (pv 0) pa_nil))))), ?_⟩
    have hs := lines_sum hO
    have z : (Str.ofString "\n").length = 1 := by decide
    refine ⟨⟨_, rfl⟩, _, rfl, p, pl, rfl, hP, hO, fun l H1 s1 nl gl => ⟨_, l, linesS pl, rfl, rfl, .inl (sqOf gl), ?_, kQ H1 s1⟩⟩
    rw [z]; omega
end
end KP
/-! own exceptions whose chain ends with Exception (not ValueError) -/
namespace PySem
namespace EEX
open PySem.W PySem.Calls PyProof.Rows PySem.HandSPX
open Builtin Builtin.ObjectAttr
abbrev lastEx : List Value := [.type "Exception", .type "BaseException", .type "object"]
def OnEx (l : List Value) : Prop := ∃ cs : List Addr, l = cs.map Value.ref ++ lastEx
theorem OnEx.cons {c : Addr} {l : List Value} (h : OnEx l) : OnEx (.ref c :: l) := by
  obtain ⟨cs, rfl⟩ := h
  exact ⟨c :: cs, rfl⟩
theorem OnEx.lets {l : List Value} (h : OnEx l) (me : Value) : refuseLoop me "__setattr__" l = pure () := by
  obtain ⟨cs, rfl⟩ := h
  induction cs with
  | nil => exact F.store_Exception.passes me
  | cons c r ih =>
    show refuseLoop me "__setattr__" (Value.ref c :: (r.map Value.ref ++ lastEx)) = pure ()
    rw [refuseLoop_ref]
    exact ih
theorem OnEx.has {l : List Value} (h : OnEx l) (x : String) : l.contains (.type x) = lastEx.contains (.type x) := by
  obtain ⟨cs, rfl⟩ := h
  induction cs with
  | nil => rfl
  | cons c r ih =>
    show (Value.ref c :: (r.map Value.ref ++ lastEx)).contains (.type x) = _
    rw [List.contains_cons, ih]
    rfl
theorem OnEx.some {l : List Value} (h : OnEx l) : l.isEmpty = false := by
  obtain ⟨cs, rfl⟩ := h
  cases cs <;> rfl
section
variable {prog : Program} {w : World} {A : Around} {E : Value → Shared → Prop} {R : Result → Shared → Prop} {hp : Heap} {g : Array GenState} {d : Drawn} {t : Nat} {os : OsState}
/-- the first field of an exception -/
theorem first_field {K : W.Frag} {f : Str} {tk : Tok} {v : Value} {x C : Addr} {old : Array Value} {cd : ClassData}
    (KX : K.In hp) (ox : hp.get? x = some { cls := .ref C, data := .fields old }) (oc : W.clsIn K C = some cd) (oe : OnEx cd.mro) (od : cd.hasDict = true) (nf : W.findIn K (.ref C) f = some none)
    (wish : ∀ h2 t2 dx, (∀ b o, b ≠ x → hp.get? b = some o → h2.get? b = some o) → hp.objs.size ≤ dx → dx ≠ x → h2.get? x = some { cls := .ref C, dict := some dx, data := .fields old } →
      h2.Ns1 dx (fun y => if y = f then some v else none) → R (.ok (.ret .none)) ⟨h2, g, d, t2, os⟩) :
    codeAny (model prog w) A (.call (.builtin "object.__setattr__") ⟨[.ref x, .str f tk, v], []⟩) R ⟨hp, g, d, t, os⟩ := by
  have IA : W.InstAt hp x { cls := .ref C, data := .fields old } C none := ⟨ox, rfl, rfl, trivial⟩
  have SO := F.store_object
  have isO : cd.mro.contains (.type "object") = true := (oe.has "object").trans (by decide +kernel)
  have far : x ≠ hp.objs.size := Nat.ne_of_lt (Heap.lt_size ox)
  have sbo : W.Looks (model prog w) hp (isInstance (.ref x) (.type "object")) true := IA.type.andThen (W.looks_mroIn KX (by unfold W.mroIn; rw [oc, Option.bind_some, if_neg (by rw [oe.some]; decide), isO]))
  refine codeAny_call_builtin SO.slot.plain SO.entry (@W.check_slot (model prog w) _ _ ⟨hp, g, d, t, os⟩ "object.__setattr__" "object" "__setattr__" (.ref x) [.str f tk, v] [] _ SO.kind SO.split sbo (SO.args (.ref x) (.str f tk) v) ?_)
  have lm : W.Looks (model prog w) hp (mroOf (.ref C)) cd.mro := (W.looks_clsIn KX oc).andThen .now
  have ls : W.Looks (model prog w) hp (storeTaker? none) none := .now
  have lc : W.Looks (model prog w) hp (classData C) cd := W.looks_clsIn KX oc
  rw [W.osa_eq, refuse_eq]
  refine wpAny_bind (wpAny_bind (IA.type.at (wpAny_bind (lm.at ?_))))
  rw [oe.lets]
  refine wpAny_pure (wpAny_bind (IA.type.at (wpAny_bind ((W.looks_findIn KX nf).at (wpAny_bind (ls.at ?_))))))
  show wpAny _ _ (storeInOwnDict (.ref x) (.ref C) (.str f tk) f v false) _ _ _
  obtain ⟨a1, a2, a3, a4, a5, a6, a7, a8, a9, a10, a11⟩ := cd
  dsimp only at od
  subst od
  unfold storeInOwnDict ownDictForStores
  repeat (first | with_reducible refine store_in_new ?_ ?_ | with_reducible refine wpAny_loadPart_at ox ?_ | with_reducible refine lc.at ?_ | wp_step)
  · exact ⟨_, #[], _, (Heap.get?_update_ne _ _ _ _ far.symm).trans (Heap.get?_push_at rfl rfl), rfl, fun e he => absurd he (by simp), fun _ => rfl⟩
  · intro h2 t2 n2 same2
    have ox2 : (hp.push { cls := .type "dict", data := .dict #[] }).get? x = some { cls := .ref C, data := .fields old } := Heap.get?_push_of_some _ ox
    refine wish h2 t2 hp.objs.size (fun b o hb ho => ?_) (Nat.le_refl _) far.symm ?_ n2
    · exact (same2.2 b (Nat.ne_of_lt (Heap.lt_size ho))).trans ((Heap.get?_update_ne _ _ _ _ hb).trans (Heap.get?_push_of_some _ ho))
    · exact (same2.2 x far).trans (Heap.get?_update_self _ ox2 rfl)
end
end EEX
end PySem
/-! str(o) by an own __str__; C.m(k = v), m a classmethod; c(..), c a local that holds a class; defs that may raise, by name. -/
namespace EL
open PySem PySem.Spec PyProof.Rows L2
section
variable {X : Cx} {k : Nat} {C f : Addr} {fd : FuncData} {ps : List Str} {sp : Sp} {E : XK}
/-- what a call's way back is, in an around with the same frames -/
theorem run_in {CX : CXT} {A : Around} {pins : List (Addr × Obj)} {s : Shared} {σ : L2.St} {H : Hp} {us : List Value} {vs : List V} {Q : VK} (hA : A.frames = X.A.frames) (hr : Room k A) (F : FnOk X.prog X.w X.K X.mg X.base CX k f fd ps sp) (hb : Binds X.K fd ps []) (hx : Passes CX X E) (I : Inv X pins σ H s)
    (r2 : Vals vs us) (hsp : sp vs H Q E) : wpAny (model X.prog X.w) A (call (.ref f) us) (EP X pins σ Q) X.xe s := by
  have e0 : Env0 X.prog X.w X.K X.mg X.base A X.stack s H := by
    have e := I.env0
    exact ⟨by rw [hA]; exact e.frames, e.mod, e.bs, e.bsz, e.funs, e.frf, e.hok, e.bare⟩
  have hl := F.len _ _ _ _ hsp
  have hl2 : us.length = ps.length := by rw [← r2.length]; exact hl
  refine wpAny_call (codeAny_mono (F.run A X.stack s H ⟨us, []⟩ us vs _ E hr e0 (by
    have := hb s us I.kIn (by simpa using hl2)
    simpa using this) r2 hsp) fun r s' hq => ?_)
  cases r with
  | error e => exact hx pins σ H s e s' I hq
  | ok fl =>
    cases fl with
    | ret w => exact I.after hq
    | next => exact False.elim hq
    | brk => exact False.elim hq
    | cont => exact False.elim hq
def rStrO (C : Addr) (sp : Sp) (E : XK) : List V → Hp → VK → Prop := fun xs H Q => ∃ a dx fs, xs = [.ref a] ∧ H a = some (.ins C dx fs) ∧ sp [.ref a] H (fun v H' => ∃ z, v = .str z ∧ Q (.str z) H') E
/-- str(o) -/
theorem call_strO (F : FnOk X.prog X.w X.K X.mg X.base CX0 k f fd ps sp) (hr : Room (k + 2) X.A) (hs : PySem.W.findIn X.K (.ref C) "__str__" = some (some (.ref f))) (hf : PySem.W.isFn X.K (.ref f) = true) (hb : Binds X.K fd ps []) (hx : Passes CX0 X E) :
    CallR X (.type "str") (rStrO C sp E) := by
  intro pins s σ H xs us Q I rs h
  obtain ⟨a, dx, fs, rfl, ha, hsp⟩ := h
  cases rs with
  | cons r1 rs =>
    cases rs
    cases r1
    obtain ⟨mA, J, _⟩ := ins_get I.hok ha
    obtain ⟨od, J, _⟩ := J.look
    have r1 : Room (k + 1) X.A.in1 := hr.in1
    have r2 : Room k X.A.in1.in1 := r1.in1
    refine PySem.W.kso_call (by have := r1.in1.units0; exact this) I.kIn J hs hf ?_
    refine thn (run_in (A := X.A.in1.in1) (vs := [V.ref a]) (us := [Value.ref a]) rfl r2 F hb hx I (.cons rfl .nil) hsp) fun v s' hq => ?_
    obtain ⟨z, H', I', rz, y, rfl, q⟩ := hq
    obtain ⟨t, rfl⟩ := rz
    exact ⟨.str y, H', I', ⟨t, rfl⟩, q⟩
end
/-! ### C.m(k = v, ..), m a classmethod -/
section
variable {X : Cx} {CX : CXT} {k : Nat} {C p g : Addr} {mc : Value} {fd : FuncData} {m : Str} {ps ks : List Str} {sp : Sp} {E : XK} {o : Expr} {kws : List Keyword} {ta : TE} {tk : TA} {apos pos : Pos} {gg : List Value → List Value → List Value} {gV : List V → List V → List V} {pl : Sem Bool}
theorem run_cmK {pins : List (Addr × Obj)} {s : Shared} {σ : L2.St} {H : Hp} {q : Addr} {Q : VK} {ws : List Value} {zs : List V} (F : FnOk X.prog X.w X.K X.mg X.base CX k g fd ps sp) (hr : Room k X.A) (kb : KBinds X.K fd ps ks gg gV) (hx : Passes CX X E) (I : Inv X ((q, PySem.W.methodObj (.ref g) (.ref C)) :: pins) σ H s)
    (rz : Vals zs ws) (h : sp (gV [.ref C] zs) H Q E) : wpAny (model X.prog X.w) X.A (call (.ref q) [] (ks.zip ws)) (EP X pins σ Q) X.xe s := by
  have z : wpAny (model X.prog X.w) X.A (call (.ref q) [] (ks.zip ws)) (EP X ((q, PySem.W.methodObj (.ref g) (.ref C)) :: pins) σ Q) X.xe s := by
    have r2 := kb.rel (vs := [V.ref C]) (us := [Value.ref C]) (.cons rfl .nil) rz
    have hl : (gg [Value.ref C] ws).length = ps.length := by rw [← r2.length]; exact F.len _ _ _ _ h
    refine wpAny_call (PySem.W.method_call (ClX.pin_at I) (codeAny_mono (F.run X.A X.stack s H ⟨[.ref C], ks.zip ws⟩ (gg [.ref C] ws) (gV [.ref C] zs) Q E hr I.env0 (kb.to s [.ref C] ws I.kIn hl) r2 h) fun r s' hq => ?_))
    cases r with
    | error e => exact hx _ σ H s e s' I hq
    | ok fl =>
      cases fl with
      | ret u => exact I.after hq
      | next => exact False.elim hq
      | brk => exact False.elim hq
      | cont => exact False.elim hq
  exact thn z fun _ _ y => ClX.unpinE y
theorem pe_cmethK0 (he : PE X o ta) (r : ClX.CRead X.K C mc) (c : ClX.CMet X.K C mc m p g) (F : FnOk X.prog X.w X.K X.mg X.base CX k g fd ps sp) (hr : Room k X.A) (kb : KBinds X.K fd ps ks gg gV) (hx : Passes CX X E) (hkw : PK X kws tk)
    (hall : (backToKw pos (keywordEach kws X.env)).all (·.1.isSome) = true := by rfl) (hks : (backToKw pos (keywordEach kws X.env)).filterMap (·.1) = ks := by rfl)
    (hpl : ((backTo pos (starEach [] X.env)).any (·.1) || (backToKw pos (keywordEach kws X.env)).any (·.1.isNone)) = false := by rfl)
    (ht : eval (.Call (.Attribute o m apos) [] kws pos) X.env = (do
      let ov ← eval o X.env
      standAt apos.atName
      let (f, first) ← holding [ov] (getMethod ov m pl)
      callWith pos f first (backTo pos (starEach [] X.env)) (backToKw pos (keywordEach kws X.env))) := by rfl) :
    PE X (.Call (.Attribute o m apos) [] kws pos) (fun σ H Q => ta σ H fun x H1 => x = .ref C ∧ tk σ H1 fun zs H2 => sp (gV [.ref C] zs) H2 Q E) := by
  refine ⟨fun pins s σ H Q I h => ?_⟩
  refine PySem.W.methodCall_KW (pl := pl) (thn (he.run pins s σ H _ I h) fun u s1 ⟨x, H1, I1, rx, ex, q⟩ => ?_) ht
  subst ex
  obtain rfl : u = Value.ref C := rx
  refine ClX.getmethcm_ok I1 r c fun s2 I2 => ?_
  refine PySem.W.callWith_of hpl (PySem.W.keeps_M (K := X.K) (self := .ref C) c.fi) (PyProof.Rows.evalArgs_kw2_nil hall (thn (hkw.run pos _ s2 σ H1 _ I2 q) fun ws s3 ⟨zs, H2, I3, rz, q2⟩ => ⟨⟨ClX.pin_at I3, I3.kIn⟩, ?_⟩))
  rw [hks]
  exact run_cmK F hr kb hx I3 rz q2
end
/-! ### a class held by a local, called -/
section
variable {X : Cx} {CX : CXT} {k i : Nat} {C f : Addr} {fd : FuncData} {x : Str} {ps : List Str} {sp : Sp} {E : XK} {e : Expr} {es : List Expr} {t : TA} {p pos : Pos} {ds : List Value} {dvs : List V}
theorem pe_makeL (M : Mk X.K C f) (F : FnOk X.prog X.w X.K X.mg X.base CX k f fd ps sp) (hr : Room (k + 1) X.A) (hN : X.N[i]? = some x) (hv : Vis X.env.scope x) (hb : Binds X.K fd ps ds) (hd : Vals dvs ds) (hx : Passes CX X E) (ha : PA X (e :: es) t)
    (hdb : (x == ("__debug__" : Str)) = false := by decide) (hcd : (x == ("__classdict__" : Str)) = false := by decide)
    (he : starEach (e :: es) X.env = (false, eval e X.env) :: starEach es X.env := by rfl) (hpl : (backTo pos (starEach es X.env)).any (·.1) = false := by rfl) :
    PE X (.Call (.Name x p) (e :: es) [] pos) (fun σ H Q => σ[i]? = some (some (.ref C)) ∧ tMake C sp dvs E t σ H Q) := by
  refine ⟨fun pins s σ H Q I h => ?_⟩
  obtain ⟨hs, ht⟩ := h
  refine wpAny_Call_Name_kw (thn ((pe_var (pos := p) hN hv hdb hcd).run pins s σ H (fun v H1 => v = .ref C ∧ H1 = H) I ⟨.ref C, hs, rfl, rfl⟩) fun u s1 ⟨v, H1, I1, r1, q1⟩ => ?_)
  obtain ⟨rfl, rfl⟩ := q1
  cases r1
  refine PySem.W.callWith_K (h₀ := X.base) I.ok.mod.kin M.kp (thn (ha.run pos pins s1 σ _ _ I1 ht) fun us s2 ⟨vs, H2, I2, r, q⟩ => ⟨I2.kIn, ?_⟩) he hpl
  exact run_make M F hr hb hd hx I2 r q
end
/-! ### a def that may raise, callable -/
structure CalX (P : Program) (w : World) (K : PySem.W.Frag) (mg : Str → Option Value) (base : Heap) (k : Nat) (x : Str) (ps : List Str) (sp : Sp) where
  f : Addr
  fd : FuncData
  ok : FnOk P w K mg base (L2.CX P w) k f fd ps sp
  g : mg x = some (.ref f)
  kp : PySem.W.keepIn K (.ref f) = true
  b : Binds K fd ps []
theorem pe_calX {X : Cx} {k : Nat} {x : Str} {ps : List Str} {sp : Sp} {E : XK} {e : Expr} {es : List Expr} {t : TA} {p pos : Pos} (C : CalX X.prog X.w X.K X.mg X.base k x ps sp) (hr : Room k X.A) (hg : Gl X x) (hx : Passes (L2.CX X.prog X.w) X E) (ha : PA X (e :: es) t)
    (hdb : (x == ("__debug__" : Str)) = false := by decide) (he : starEach (e :: es) X.env = (false, eval e X.env) :: starEach es X.env := by rfl) (hpl : (backTo pos (starEach es X.env)).any (·.1) = false := by rfl) :
    PE X (.Call (.Name x p) (e :: es) [] pos) (tCall sp [] E t) := pe_call C.ok hr hg C.g C.kp C.b .nil hx ha hdb he hpl
end EL
namespace KP
open PySem PySem.Spec PyProof.Rows L2 EL
open Evl (pss_cut)
open TL
abbrev sNumberOf : Stmt := topS 19
theorem scNumberOf : FnScope ["word", "number", "digit"] ["word"] (defScope sNumberOf) := ⟨rfl, rfl, rfl, by decide +kernel, rfl, by decide +kernel, by decide +kernel⟩
abbrev sTextOf : Stmt := topS 18
theorem scTextOf : FnScope ["word"] ["word"] (defScope sTextOf) := ⟨rfl, rfl, rfl, by decide +kernel, rfl, by decide +kernel, by decide +kernel⟩
/-! ### what words say -/
def isDig (c : Nat) : Bool := decide (c ∈ (Str.ofString "0123456789").cps.toList)
theorem dig_iff {c : Nat} : isDig c = true ↔ 48 ≤ c ∧ c ≤ 57 := by
  have e : (Str.ofString "0123456789").cps.toList = [48, 49, 50, 51, 52, 53, 54, 55, 56, 57] := by decide +kernel
  unfold isDig
  rw [e, decide_eq_true_iff]
  simp only [List.mem_cons, List.not_mem_nil, or_false]
  omega
/-- a number written with at most three digits -/
def numOf (w : Str) : Option Nat := if w.length ≠ 0 ∧ w.length ≤ 3 ∧ (tl w).all isDig = true ∧ numS (NumText.digitsVal (tl w)) = w then some (NumText.digitsVal (tl w)) else none
abbrev optN : Option Nat → V
  | some n => .int (n : Int)
  | none => .non
theorem numL_lt1000 {n : Nat} (h : (numL n).length ≤ 3) : n < 1000 := by
  rcases Nat.lt_or_ge n 1000 with q | q
  · exact q
  · rw [numL_step (by omega), numL_step (by omega), numL_step (by omega)] at h
    have := numL_ne (n / 10 / 10 / 10)
    have h2 : 0 < (numL (n / 10 / 10 / 10)).length := List.length_pos_iff.mpr this
    simp only [List.length_append, List.length_cons, List.length_nil] at h
    omega
theorem tl_numS (n : Nat) : tl (numS n) = numL n := tl_num n
theorem numOf_lt {w : Str} {n : Nat} (h : numOf w = some n) : n < 1000 ∧ w = numS n := by
  unfold numOf at h
  split at h
  · rename_i q
    obtain ⟨_, h2, _, h4⟩ := q
    have e := Option.some.inj h
    subst e
    refine ⟨numL_lt1000 ?_, h4.symm⟩
    rw [← tl_numS, h4, ← len_tl]; exact h2
  · cases h
theorem numOf_num {n : Nat} (h : n < 1000) : numOf (numS n) = some n := by
  have e : NumText.digitsVal (tl (numS n)) = n := by rw [tl_numS]; exact numL_val n
  unfold numOf
  rw [e, if_pos]
  refine ⟨?_, numS_len n h, ?_, rfl⟩
  · rw [len_tl, tl_numS]
    exact fun z => numL_ne n (List.length_eq_zero_iff.mp z)
  · rw [tl_numS, List.all_eq_true]
    exact fun c hc => dig_iff.mpr (numL_digits n c hc)
theorem digv_lt : ∀ (l : List Nat), (∀ c ∈ l, 48 ≤ c ∧ c ≤ 57) → NumText.digitsVal l < 10 ^ l.length := by
  have key : ∀ (l : List Nat) (a : Nat), (∀ c ∈ l, 48 ≤ c ∧ c ≤ 57) → l.foldl (fun acc c => acc * 10 + (c - 48)) a < (a + 1) * 10 ^ l.length := by
    intro l
    induction l with
    | nil => intro a _; simp
    | cons c r ih =>
      intro a h
      have hc := h c List.mem_cons_self
      have := ih (a * 10 + (c - 48)) fun x hx => h x (List.mem_cons_of_mem _ hx)
      rw [List.foldl_cons, List.length_cons]
      refine Nat.lt_of_lt_of_le this ?_
      rw [Nat.pow_succ, Nat.mul_comm (10 ^ r.length) 10, ← Nat.mul_assoc]
      exact Nat.mul_le_mul_right _ (by omega)
  intro l h
  have := key l 0 h
  rw [Nat.zero_add, Nat.one_mul] at this
  exact this
def spNum : Sp := fun vs H Q _ => ∃ w : Str, vs = [.str w] ∧ w.length ≤ 500000 ∧ ∀ H', Same H H' → Q (optN (numOf w)) H'
/-- the text for which a word stands -/
def txtOf (w : Str) : Option Str := if w = ("-" : Str) then some Str.empty else if w.length ≠ 0 ∧ isTextD (.str w) = true then some w else none
abbrev optT : Option Str → V
  | some n => .str n
  | none => .non
def spTxt : Sp := fun vs H Q _ => ∃ w : Str, vs = [.str w] ∧ w.length ≤ 500000 ∧ ∀ H', Same H H' → Q (optT (txtOf w)) H'
section
variable {P : Program} {w : World} {K : PySem.W.Frag} {mg : Str → Option Value} {base : Heap}
theorem ok_NumberOf {f : Addr} {fd : FuncData} {k : Nat} (F : Fun K "number_of" "number_of" sNumberOf f fd) (nlen : mg "len" = none) (nall : mg "all" = none) (nint : mg "int" = none) (nstr : mg "str" = none) {tM : Tok} (m_MOST_DIGITS : mg "MOST_DIGITS" = some (.int 3 tM)) (m_DIGITS : StrAt mg "DIGITS" "0123456789") : FnOk P w K mg base CX0 (k + 1) f fd ["word"] spNum := by
  refine F.ok scNumberOf (fun vs H Q E h => ?_) (fun cdv A outer s H vs Q E hr h => ?_)
  · obtain ⟨t, rfl, _⟩ := h; rfl
  · obtain ⟨w, rfl, hw, kQ⟩ := h
    refine ⟨_, (pss_cons (ps_if (PW.pt (pw_or (pt_not (pt_truth (pv 0) (by intro _; rfl))) (pw_or (pt_cmpR op_gt (pe_callB (show CallR _ _ (rLenK K) from call_len) (by rfl) nlen (by decide +kernel) (pa_cons (pv 0) pa_nil)) (pe_glob rfl m_MOST_DIGITS (show RelV (.int 3) (.int 3 tM) from ⟨_, rfl⟩)) (nomark _)) (pw_or1 (pt_not (pt_val (pe_callB (cr_all rfl) (by rfl) nall (by decide +kernel) (pa_cons (pe_lc (own := [("digit", 2)]) (g := (gName 2)) (by rfl) scNumberOf.nd (pi_str (pv 0)) (blkOk_by (own := [("digit", 2)]) (N := ["word", "number", "digit"]) (sc := defScope sNumberOf) (by decide +kernel)) (fun _ _ _ _ _ => (pg_name (i := 2) scNumberOf.nd rfl (by first | exact Or.inl rfl | exact Or.inr rfl))) (fun _ _ _ _ _ => pts_nil) (fun _ _ _ _ _ => (pe_cmpR op_in_sign (pv 2) (pe_gstr m_DIGITS) (by rfl)))) pa_nil)))))))) (pss_one (ps_ret pe_non)) pss_nil)
      (pss_cons (ps_set (i := 1) scNumberOf.nd rfl (by first | exact Or.inl rfl | exact Or.inr rfl) (pe_callTy call_int_str (by rfl) nint (by decide +kernel) (pa_cons (pv 0) pa_nil)))
      (pss_one (ps_ret (pe_ifExp (pt_cmpR op_eq (pe_callTy call_str_int (by rfl) nstr (by decide +kernel) (pa_cons (pv 1) pa_nil)) (pv 0) (nomark _)) (pv 1) pe_non))))), ?_⟩
    have hw2 : w.cps.size ≤ 500000 := hw
    refine ⟨_, rfl, _, ⟨len_sz (by omega), rfl⟩, ?_⟩
    by_cases e0 : w.length = 0
    · rw [show (((w.length : Nat) : Int) != 0) = false by rw [e0]; rfl]
      refine iteT ?_
      have : numOf w = none := by unfold numOf; rw [if_neg (fun z => z.1 e0)]
      rw [this] at kQ
      exact kQ H (Same.refl H)
    rw [show (((w.length : Nat) : Int) != 0) = true by simpa using e0]
    refine iteF ⟨_, rfl, _, _, rfl, ⟨len_sz (by omega), rfl⟩, _, _, rfl, rfl, _, rfl, ?_⟩
    by_cases e3 : w.length ≤ 3
    · rw [show decide ((3 : Int) < (w.length : Nat)) = false from decide_eq_false (by omega)]
      refine iteF ⟨.str w, rfl, w, rfl, fun D nD => ?_⟩
      refine lc_it walk_str (LcP D (fun _ H' => Same H H') (fun j v => ∃ c, w.cps.toList[j]? = some c ∧ v = some (.bl (isDig c)))) (LcP.start (same_upd nD)) (fun _ _ _ _ => trivial) ?_ ?_
      · rintro i y H1 H2 hi ⟨ys, hl, hR, hD, hP⟩ ⟨rfl, c, hc, rfl⟩
        refine ⟨rfl, ?_⟩
        dsimp only [tYes]
        refine iteT ⟨_, rfl, c, _, rfl, rfl, ?_⟩
        exact lcp_some hl hR hD (by omega) ⟨c, by rw [Array.getElem?_toList]; exact hc, rfl⟩ fun b o q => by rw [upd_ne (ne_of_none q nD)]; exact hP b o q
      rintro H2 ⟨ys, hl, hR, hD, hP⟩
      have e := rows_map (f := fun c => some (V.bl (isDig c))) (l := w.cps.toList) (by rw [hl, Array.length_toList]) hR
      refine ⟨D, (tl w).map isDig, rfl, sqOf (by rw [hD, e]; simp [List.filterMap_map, Function.comp_def]), ?_⟩
      rw [show ((tl w).map isDig).all id = (tl w).all isDig by simp [List.all_map, Function.comp_def]]
      cases ea : (tl w).all isDig with
      | false =>
        refine ⟨false, rfl, iteT ?_⟩
        have : numOf w = none := by unfold numOf; rw [if_neg (fun z => by rw [ea] at z; exact absurd z.2.2.1 Bool.false_ne_true)]
        rw [this] at kQ
        exact kQ H2 hP
      | true =>
        refine ⟨true, rfl, iteF ?_⟩
        have wl : (tl w).length = w.length := (len_tl w).symm
        have iT : PySem.intText? w = some ((NumText.digitsVal (tl w) : Nat) : Int) := intText_digits (fun c hc => dig_iff.mp (List.all_eq_true.mp ea c hc)) (fun z => e0 (by rw [← wl, show tl w = [] from z]; rfl)) (by omega)
        refine ⟨.str w, rfl, w, _, rfl, iT, by omega, ?_⟩
        have dl := digv_lt (tl w) (fun c hc => dig_iff.mp (List.all_eq_true.mp ea c hc))
        have dl3 : NumText.digitsVal (tl w) < 1000 := Nat.lt_of_lt_of_le dl (Nat.pow_le_pow_right (by decide) (by omega) : 10 ^ (tl w).length ≤ 10 ^ 3)
        generalize hv : NumText.digitsVal (tl w) = v at dl3 ⊢
        have lg : (v : Int).natAbs.log2 < 1920 := by rw [Int.natAbs_natCast]; exact Nat.lt_of_le_of_lt (Nat.log2_le_self _) (by omega)
        refine ⟨_, rfl, (v : Int), rfl, lg, .str w, rfl, rfl, ?_⟩
        have kq := kQ H2 hP
        unfold numOf at kq
        by_cases ev : numS v = w
        · rw [if_pos ⟨e0, e3, ea, by rw [hv]; exact ev⟩, hv] at kq
          rw [show decide (V.str (Str.ofString (toString (v : Int))) = V.str w) = true from decide_eq_true (by rw [← ev])]
          exact ⟨true, rfl, iteT ⟨_, rfl, kq⟩⟩
        · rw [if_neg (fun z => ev (by rw [← hv]; exact z.2.2.2))] at kq
          rw [show decide (V.str (Str.ofString (toString (v : Int))) = V.str w) = false from decide_eq_false (fun z => ev (V.str.inj z))]
          exact ⟨false, rfl, iteF kq⟩
    · rw [show decide ((3 : Int) < (w.length : Nat)) = true from decide_eq_true (by omega)]
      refine iteT ?_
      have : numOf w = none := by unfold numOf; rw [if_neg (fun z => e3 z.2.1)]
      rw [this] at kQ
      exact kQ H (Same.refl H)
theorem ok_TextOf {f : Addr} {fd : FuncData} {k : Nat} (F : Fun K "text_of" "text_of" sTextOf f fd) (m_NOTHING : StrAt mg "NOTHING" "-") (CIsText : Cal P w K mg base k "is_text" ["thing"] (spLook K isTextD)) : FnOk P w K mg base CX0 (k + 1) f fd ["word"] spTxt := by
  refine F.ok scTextOf (fun vs H Q E h => ?_) (fun cdv A outer s H vs Q E hr h => ?_)
  · obtain ⟨t, rfl, _⟩ := h; rfl
  · obtain ⟨w, rfl, hw, kQ⟩ := h
    refine ⟨_, (pss_cons (ps_if (pt_cmpR op_eq (pv 0) (pe_gstr m_NOTHING) (nomark _)) (pss_one (ps_ret pe_str)) pss_nil)
      (pss_one (ps_ret (pe_ifExp (PW.pt (pw_and (pt_truth (pv 0) (by intro _; rfl)) (pw_and1 (pt_val (pe_cal CIsText hr (by rfl) pass0 (pa_cons (pv 0) pa_nil)))))) (pv 0) pe_non)))), ?_⟩
    have hz : Sz (.str w) := hw
    refine ⟨.str w, rfl, rfl, _, rfl, ?_⟩
    by_cases e : w = ("-" : Str)
    · subst e
      rw [decide_eq_true rfl]
      refine iteT ?_
      have := kQ H (Same.refl H)
      unfold txtOf at this
      rw [if_pos rfl] at this
      exact this
    rw [show decide (V.str w = V.str ("-" : Str)) = false from decide_eq_false (fun z => e (V.str.inj z))]
    refine iteF ?_
    unfold txtOf at kQ
    rw [if_neg e] at kQ
    refine ⟨.str w, rfl, _, ⟨len_sz (by omega), rfl⟩, ?_⟩
    by_cases e0 : w.length = 0
    · rw [show (((w.length : Nat) : Int) != 0) = false by rw [e0]; rfl]
      refine iteF (iteF ?_)
      rw [if_neg (fun z => z.1 e0)] at kQ
      exact kQ H (Same.refl H)
    rw [show (((w.length : Nat) : Int) != 0) = true by simpa using e0]
    refine iteT ⟨.str w, rfl, .str w, .str w, rfl, .str w, hz, fun H1 s1 => ⟨_, rfl, ?_⟩⟩
    have := kQ H1 s1
    cases ht : isTextD (.str w) with
    | true =>
      rw [if_pos ⟨e0, ht⟩] at this
      exact iteT ⟨_, rfl, this⟩
    | false =>
      rw [if_neg (fun z => by rw [ht] at z; exact absurd z.2 Bool.false_ne_true)] at this
      exact iteF this
end
end KP
/-! lists of texts as data. -/
namespace EL
open PySem PySem.Spec PyProof.Rows L2 TL
def Low7 (x : Str) : Prop := ∀ c ∈ tl x, c < 128
theorem Low7.ok {x : Str} (h : Low7 x) : PyData.strOk x = true := by
  unfold PyData.strOk
  rw [Array.all_eq_true']
  intro c hc
  have := h c (Array.mem_toList_iff.mpr hc)
  simp
  omega
theorem dpStrs {K : PySem.W.Frag} {H : Hp} : ∀ ws : List Str, DpAll K H (ws.map V.str) (ws.map PyData.str)
  | [] => .nil
  | w :: r => .cons (.str w) (dpStrs r)
theorem canLay_strs : ∀ {ws : List Str}, (∀ w ∈ ws, Low7 w) → PyData.canLayAll0 (ws.map PyData.str) = true
  | [], _ => by simp [PyData.canLayAll0]
  | w :: r, h => by
    have h1 := (h w List.mem_cons_self).ok
    have h2 := canLay_strs (ws := r) fun x hx => h x (List.mem_cons_of_mem _ hx)
    simp [PyData.canLayAll0, PyData.canLay0, h1, h2]
theorem depth_strs : ∀ ws : List Str, PyData.depthAll (ws.map PyData.str) = 0
  | [] => by simp [PyData.depthAll]
  | w :: r => by simp [PyData.depthAll, PyData.depth, depth_strs r]
theorem shaped_strs {ws : List Str} (h : ∀ w ∈ ws, Low7 w) : SeqAt.shaped (.list (ws.map PyData.str)) = true := by
  simp [SeqAt.shaped, PyData.canLay0, PyData.depth, canLay_strs h, depth_strs]
theorem eqv_strs : ∀ a b : List Str, PyData.eqvAll (a.map PyData.str) (b.map PyData.str) = decide (a = b)
  | [], [] => by simp [PyData.eqvAll]
  | [], _ :: _ => by simp [PyData.eqvAll]
  | _ :: _, [] => by simp [PyData.eqvAll]
  | x :: a, y :: b => by
    have ih := eqv_strs a b
    simp only [List.map_cons, PyData.eqvAll, PyData.eqv, ih]
    by_cases h : x = y
    · subst h; simp
    · simp [h]
theorem eqv_strL (a b : List Str) : PyData.eqv (.list (a.map PyData.str)) (.list (b.map PyData.str)) = decide (a = b) := by
  simp only [PyData.eqv]; exact eqv_strs a b
end EL
namespace PySem
namespace LowBadText
open PySem.W PySem.Calls PyProof.Rows PySem.HandSPX
/-! ### the text of __init__ -/
def iA (p1 p2 : Pos) : Arguments := { posonlyargs := [], args := [{ arg := "self", annotation := none, pos := p1 }, { arg := "line", annotation := none, pos := p2 }], vararg := none, kwonlyargs := [], kw_defaults := [], kwarg := none, defaults := [] }
def iB (q1 q2 q3 q4 : Pos) : List Stmt := [.Assign [.Attribute (.Name "self" q1) "line" q2] (.Name "line" q3) q4]
def iS : Scope := { kind := .function, names := [(PySem.Str.ofString "self", .local), (PySem.Str.ofString "line", .local)], isGenerator := false, isCoroutine := false, more := [] }
/-- what the written part says of Low, at C, and of its __init__, at fI -/
structure LowTxt (K : Frag) (mg : Str → Option Value) (C fI : Addr) : Prop where
  gC : mg "BadText" = some (.ref C)
  cls : ∃ nm q N bs bm sn sub ab col dd k0 k1 k2 k3 k5, K.lookup C = some (excClassObj nm q C N bs bm true sn sub ab col dd k0 k1 k2 k3 k5 "Exception.__new__") ∧ EEX.OnEx bm
  sa : findIn K (.ref C) "__setattr__" = some (some (.builtin "object.__setattr__"))
  ga : findIn K (.ref C) "__getattribute__" = some (some (.builtin "BaseException.__getattribute__"))
  gg : findIn K (.ref C) "__getattr__" = some none
  noN : findIn K (.ref C) "line" = some none
  iC : findIn K (.ref C) "__init__" = some (some (.ref fI))
  tC : typeIn K (.ref fI) = some (.type "function")
  kC : keepIn K (.ref C) = true
  exC : subIn K (.ref C) (.type "BaseException") = some true
  tyC : typeIn K (.ref C) = some (.type "type")
  hdC : hasDictIn K C = true
  te : exmOne K (.ref C) (.ref C) = some true
  fn : ∃ (oc : Value) (od : Option Addr) (doc pm : Value) (an : Option Addr) (cdv ct : Value) (osl : Array (Option Value)) (p1 p2 q1 q2 q3 q4 : Pos),
    K.lookup fI = some ⟨oc, od, .func (fnOf "__init__" "BadText.__init__" (iA p1 p2) (iB q1 q2 q3 q4) iS .none .none doc pm an cdv ct), osl⟩ ∧ codeIn K cdv "BadText.__init__" = true
theorem one_size (v : Value) : [v].length ≤ sizeLine := by
  rw [sizeLine_eq]
  exact (by decide : 1 ≤ 16777216)
theorem kept_but {K : Frag} {h h' : Heap} {x : Addr} (X : K.In h) (hx : K.lookup x = none) (k : ∀ b o, b ≠ x → h.get? b = some o → h'.get? b = some o) : K.In h' := fun a o e =>
  k a o (fun z => by rw [z, hx] at e; cases e) (X a o e)
theorem ldC {M : Model} {s : Shared} {name : Str} {scope : Scope} {L a : Addr} {cd : Value} {m : Str → Option Value} {x : Str} {pos : Pos} {v : Value} {Q : Value → Shared → Prop} {A : Around} {E : Value → Shared → Prop} (hn : s.heap.Ns L m) (hv : m x = some v) (h : Q v s)
    (hk : scope.kind = .function := by rfl) (hl : (envOfC name scope L a cd).kindOf x = some .local := by rfl) (hd : (x == ("__debug__" : Str)) = false := by decide) :
    wpAny M A (eval (.Name x pos) (envOfC name scope L a cd)) Q E s := wpAny_Name (wpAny_loadName_local hk hl hn hv h) hd
/-- what __init__ leaves of a fresh exception at x -/
structure InitEnd (h h' : Heap) (x C dx t1 : Addr) (v : Value) : Prop where
  keep : ∀ b o, b ≠ x → h.get? b = some o → h'.get? b = some o
  obj : h'.get? x = some { cls := .ref C, dict := some dx, data := .fields #[.ref t1, .none, .none, .none, .bool false, .none] }
  dbig : h.objs.size ≤ dx
  dne : dx ≠ x
  ns : h'.Ns1 dx (fun y => if y = "line" then some v else none)
/-- a made Low -/
structure OwnMade (h h' : Heap) (e C d : Addr) (v : Value) : Prop where
  keep : ∀ b o, h.get? b = some o → h'.get? b = some o
  new : h.objs.size ≤ e
  obj : ∃ oe vs, h'.get? e = some oe ∧ oe.cls = .ref C ∧ oe.dict = some d ∧ oe.data = .fields vs ∧ vs[1]? = some .none
  dbig : h.objs.size ≤ d
  dne : d ≠ e
  ns : h'.Ns1 d (fun y => if y = "line" then some v else none)
section
variable {prog : Program} {w : World} {A : Around} {E : Value → Shared → Prop} {R : Result → Shared → Prop} {s : Shared} {K : Frag} {mg : Str → Option Value} {C fI : Addr}
theorem low_init (T : LowTxt K mg C fI) {x t0 : Addr} {v : Value} (X : K.In s.heap) (hlim : s.heap.NoLimit) (hx : s.heap.get? x = some (excO C t0)) (hnx : K.lookup x = none) (hroom : A.depth < recursionLimit)
    (hq : ∀ h' tk dx, InitEnd s.heap h' x C dx t0 v → R (.ok (.ret .none)) { s with heap := h', toks := tk }) :
    codeAny (model prog w) A (.call (.ref fI) ⟨[.ref x, v], []⟩) R s := by
  obtain ⟨oc, od, doc, pm, an, cdv, ct, osl, p1, p2, q1, q2, q3, q4, ho, hcd⟩ := T.fn
  obtain ⟨nm, q, N, bs, bm, sn, sub, ab, col, dd, k0, k1, k2, k3, k5, hC, hbm⟩ := T.cls
  have hcl : clsIn K C = some { name := nm, bases := bs, mro := .ref C :: bm, ns := N, qualname := q, hasDict := true, slotNames := sn, subclasses := sub, abstract := ab, collection := col, hasDel := false } := by unfold clsIn; rw [hC] <;> rfl
  refine Att.call_fn (binds := [("self", .ref x), ("line", v)]) X hlim ho hcd hroom (BindsTo.of_eq (by first | rfl | with_unfolding_all rfl)) (by first | rfl | decide | with_unfolding_all rfl) (fun s₁ IC => ?_) rfl rfl rfl
  obtain ⟨h₁, tk₁, rfl⟩ := IC.toInCall.same
  have k : ∀ b o, s.heap.get? b = some o → h₁.get? b = some o := IC.toInCall.keep
  have hn := IC.toInCall.ns
  have hxL : s.heap.objs.size ≠ x := Nat.ne_of_gt (Heap.lt_size hx)
  have X₁ : K.In h₁ := X.keeps k
  have hx₁ := k _ _ hx
  -- self.by = by
  show wpAny _ _ (execs _ _) _ _ _
  refine wpAny_execs_cons (plainObj_wpAny_Assign_Attribute ?_)
  refine ldC (v := v) hn (by first | rfl | with_unfolding_all rfl | kernel_rfl) (ldC (v := .ref x) hn (by first | rfl | with_unfolding_all rfl | kernel_rfl) ?_)
  refine set_plain X₁ (ox := excO C t0) (od := none) ⟨hx₁, rfl, rfl, trivial⟩ T.sa ?_
  refine EEX.first_field X₁ hx₁ hcl (show EEX.OnEx (.ref C :: bm) from hbm.cons) rfl T.noN (fun h₃ tk₃ dx k₃ dn dne hx₃ hn₃ => ?_)
  show wpAny _ _ (execs _ _) _ _ _
  have z : s.heap.objs.size < h₁.objs.size := hn.lt
  exact wpAny_execs_nil (hq h₃ tk₃ dx ⟨fun b o hb e => k₃ b o hb (k b o e), hx₃, Nat.le_of_lt (Nat.lt_of_lt_of_le z dn), dne, hn₃⟩)
theorem low_made (T : LowTxt K mg C fI) {v : Value} (X : K.In s.heap) (hlim : s.heap.NoLimit) (hroom : A.depth + 1 < recursionLimit)
    (hq : ∀ h' tk e d, OwnMade s.heap h' e C d v → R (.ok (.ret (.ref e))) { s with heap := h', toks := tk }) :
    codeAny (model prog w) A (.call (.ref C) ⟨[v], []⟩) R s := by
  obtain ⟨nm, q, N, bs, bm, sn, sub, ab, col, dd, k0, k1, k2, k3, k5, hC, hbm⟩ := T.cls
  obtain ⟨hp, g, dr, tk, os⟩ := s
  have k : ∀ b o, hp.get? b = some o → ((hp.push (kdv_tup [v])).push (excO C hp.objs.size)).get? b = some o := fun b o e => Heap.get?_push_of_some _ (Heap.get?_push_of_some _ e)
  have hget : ((hp.push (kdv_tup [v])).push (excO C hp.objs.size)).get? (hp.objs.size + 1) = some (excO C hp.objs.size) := by heap_get
  have hnx : K.lookup (hp.objs.size + 1) = none := by
    cases e : K.lookup (hp.objs.size + 1) with
    | none => rfl
    | some o =>
      have z : hp.get? (hp.objs.size + 1) = some o := X _ _ e
      exact absurd (Nat.lt_of_succ_lt (Heap.lt_size z)) (Nat.lt_irrefl _)
  refine call_own F.excBase_Exception (fun X => hbm.has X) (X _ _ hC) (looks_findIn X T.iC) (fun self => bind_fn X self T.tC) (one_size v) ?_
  refine low_init (s := ⟨(hp.push (kdv_tup [v])).push (excO C hp.objs.size), g, dr, tk, os⟩) T (X.keeps k) (hlim.keeps k) hget hnx ?_ fun h' tk' dx ⟨k', hx, dn, dne, hns⟩ => ?_
  · show A.depth + 1 < recursionLimit
    exact hroom
  · have old : ∀ b o, hp.get? b = some o → h'.get? b = some o := fun b o e => k' b o (Nat.ne_of_lt (Nat.lt_succ_of_lt (Heap.lt_size e))) (k b o e)
    have z : hp.objs.size + 1 + 1 ≤ dx := by
      first
        | (simpa only [Heap.size_push] using dn)
        | exact dn
        | (have q := dn; rw [Heap.size_push, Heap.size_push] at q; exact q)
    exact ⟨rfl, hq h' tk' (hp.objs.size + 1) dx ⟨old, Nat.le_succ _, ⟨_, _, hx, rfl, rfl, rfl, rfl⟩, Nat.le_trans (Nat.le_trans (Nat.le_succ _) (Nat.le_succ _)) z, dne, hns⟩⟩
end
end LowBadText
end PySem
namespace L2
open PySem PySem.Spec PyProof.Rows
theorem relO_BadText {v : V} {v' : Value} (r : RelV v v') (f : Str) : RelO (List.lookup f [(("line" : Str), v)]) (if f = "line" then some v' else none) := by
  by_cases hw : f = "line"
  · subst hw
    rw [if_pos rfl]
    have q : List.lookup ("line" : Str) [(("line" : Str), v)] = some v := by simp [List.lookup]
    rw [q]
    exact r
  · rw [if_neg hw]
    have qw : (f == ("line" : Str)) = false := by simpa using hw
    have q2 : List.lookup f [(("line" : Str), v)] = none := by simp [List.lookup, qw]
    rw [q2]
    trivial
section
variable {X : Cx} {C fI : Addr}
/-- Low(e) -/
def tMkBadText (C : Addr) (ta : TA) : St → Hp → XK → Prop := fun σ H Q => ta σ H fun vs H1 => ∃ v, vs = [v] ∧ ∀ d, H1 d = none → Q (.ref C) (some d) (upd H1 d (.xd [(("line" : Str), v)]))
theorem pmk_BadText {a : Expr} {ta : TA} {p pos : Pos} {k : Nat} (T : PySem.LowBadText.LowTxt X.K X.mg C fI) (hr : Room k X.A) (ha : PA X [a] ta) (hg : Gl X "BadText" := by rfl)
    (he : starEach (a :: []) X.env = (false, eval a X.env) :: starEach [] X.env := by rfl) (hpl : (backTo pos (starEach [] X.env)).any (·.1) = false := by rfl) :
    PMk X (.Call (.Name "BadText" p) [a] [] pos) (tMkBadText C ta) := by
  intro pins s σ H Q I h
  refine wpAny_Call_Name_kw (ld_glob I hg T.gC ?_)
  refine PySem.W.callWith_K (h₀ := X.base) I.ok.mod.kin T.kC (thn (ha.run pos pins s σ H _ I h) fun us s1 hh => ?_) he hpl
  obtain ⟨vs, H1, I1, r1, v, ev, q1⟩ := hh
  subst ev
  refine ⟨I1.kIn, ?_⟩
  cases r1 with
  | cons rv rn =>
    rename_i v' us'
    cases rn
    show wpAny _ _ (call (.ref C) [v']) _ _ _
    have hlim := I1.nolimit
    obtain ⟨hp, g, dr, tk, os⟩ := s1
    refine wpAny_call (PySem.LowBadText.low_made T I1.kIn hlim (by have := hr.dp; omega) fun h' tk' e d M => ?_)
    show MkP X pins σ Q (.ref e) ⟨h', g, dr, tk', os⟩
    obtain ⟨oe, fv, hoe, hc, hd, hdat, h1⟩ := M.obj
    have hns := M.ns
    obtain ⟨G', g1, g2⟩ := restrict h' fun b => decide (b ≠ e)
    have gk : ∀ b, b ≠ e → G'.get? b = h'.get? b := fun b hb => g1 b (decide_eq_true hb)
    have ge : G'.get? e = none := g2 e (by simp)
    have old : ∀ b o, hp.get? b = some o → G'.get? b = some o := fun b o q => (gk b (Nat.ne_of_lt (Nat.lt_of_lt_of_le (Heap.lt_size q) M.new))).trans (M.keep b o q)
    have ob : ObjOk X.prog X.w (upd H1 d (.xd [(("line" : Str), v)])) G' d (.xd [(("line" : Str), v)]) :=
      ⟨_, hns.at (fun o q => (gk d M.dne).trans q), fun f => relO_BadText rv f⟩
    have J : Inv X pins σ (upd H1 d (.xd [(("line" : Str), v)])) ⟨G', g, dr, tk', os⟩ := I1.laid (t' := tk') old M.dbig ob
    refine ⟨e, oe, fv, ⟨G', g, dr, tk', os⟩, _, .ref C, some d, rfl, J, fun b o q => ?_, ge, hoe, ⟨hc, hd⟩, hdat, h1, ?_, rfl, I1.bare, raises_own T.exC T.tyC, q1 d (I1.hok.fresh M.dbig)⟩
    · by_cases hb : b = e
      · have q' : G'.get? b = some o := q
        rw [hb, ge] at q'; cases q'
      · exact (gk b hb).symm.trans q
    · rw [upd_ne (Ne.symm M.dne)]
      exact I1.hok.fresh M.new
/-- raise Low(e) -/
def tRaiseBadText (C : Addr) (W : WX) (ta : TA) : TS := fun _ σ H => tMkBadText C ta σ H fun cls d H' => W cls d σ H'
theorem ps_raiseBadText {a : Expr} {ta : TA} {W : WX} {p pos pos2 : Pos} {k : Nat} (hc : X.calm = true) (T : PySem.LowBadText.LowTxt X.K X.mg C fI) (hr : Room k X.A) (tk : Takes X W) (ha : PA X [a] ta) (hg : Gl X "BadText" := by rfl)
    (he : starEach (a :: []) X.env = (false, eval a X.env) :: starEach [] X.env := by rfl) (hpl : (backTo pos (starEach [] X.env)).any (·.1) = false := by rfl) :
    PS X (.Raise (some (.Call (.Name "BadText" p) [a] [] pos)) none pos2) (tRaiseBadText C W ta) := ps_raise hc tk (pmk_BadText T hr ha hg he hpl)
/-- low.by, low the exception that the suite holds (at a; its class cls, its dict d) -/
def tByBadText (C : Addr) (a : Addr) (cls : Value) (d : Option Addr) (te : TE) : TE := fun σ H Q => te σ H fun x H1 => x = .ref a ∧ cls = .ref C ∧ ∃ (dd : Addr) (v : V), d = some dd ∧ H1 dd = some (.xd [(("line" : Str), v)]) ∧ Q v H1
theorem pe_byBadText {a : Addr} {oe : Obj} {cls : Value} {d : Option Addr} {pn : List (Addr × Obj)} {e : Expr} {te : TE} {pos : Pos} (T : PySem.LowBadText.LowTxt X.K X.mg C fI) (hz : Zc cls d oe) (hf : ∃ vs, oe.data = .fields vs) (he : PE (X.suite a ((a, oe) :: pn)) e te)
    (hb : attributeBase e "line" X.env (eval e X.env) = eval e X.env := by rfl) :
    PE (X.suite a ((a, oe) :: pn)) (.Attribute e "line" pos) (tByBadText C a cls d te) := by
  refine ⟨fun pins s σ H Q I h => ?_⟩
  refine attr_of hb (thn (he.run pins s σ H _ I h) fun u s1 hh => ?_)
  obtain ⟨x, H1, I1, rx, ex, ec, dd, v, ed, ea, q⟩ := hh
  subst ex
  obtain rfl : u = Value.ref a := rx
  subst ec
  subst ed
  obtain ⟨ha, _⟩ := I1.pin (a, oe) (List.mem_append_left _ List.mem_cons_self)
  obtain ⟨vs, hd⟩ := hf
  have hx : ObjOk X.prog X.w H1 s1.heap dd (.xd [(("line" : Str), v)]) := I1.hok dd _ ea
  obtain ⟨mA, hns, hr⟩ := hx
  obtain ⟨od, ho, hl⟩ := lookIn_ns hns
  have l : List.lookup ("line" : Str) [(("line" : Str), v)] = some v := by simp [List.lookup]
  obtain ⟨u, hu, ru⟩ := RelO.some_of (v := v) (o := mA "line") (by rw [← l]; exact hr "line")
  have J : PySem.W.InstAt s1.heap a oe C (some od) := ⟨ha, hz.1, by unfold PySem.W.notCls; rw [hd] <;> rfl, by rw [hz.2]; exact ho⟩
  exact HandSPX.exc_get I1.kIn J T.ga T.gg T.exC (PySem.W.findObj_own T.hdC T.noN rfl (by rw [hl, hu])) (handed_of ru) ⟨v, H1, I1.tok _, ru, q⟩
end
end L2
namespace KP
open PySem PySem.Spec PyProof.Rows L2 EL
open Evl (pss_cut)
open TL
abbrev sLinesOf : Stmt := topS 20
theorem scLinesOf : FnScope ["text"] ["text"] (defScope sLinesOf) := ⟨rfl, rfl, rfl, by decide +kernel, rfl, by decide +kernel, by decide +kernel⟩
abbrev sWordsAt : Stmt := topS 21
theorem scWordsAt : FnScope ["lines", "at", "head", "words"] ["lines", "at", "head"] (defScope sWordsAt) := ⟨rfl, rfl, rfl, by decide +kernel, rfl, by decide +kernel, by decide +kernel⟩
abbrev sSizeAt : Stmt := topS 22
theorem scSizeAt : FnScope ["lines", "at", "head", "words", "size"] ["lines", "at", "head"] (defScope sSizeAt) := ⟨rfl, rfl, rfl, by decide +kernel, rfl, by decide +kernel, by decide +kernel⟩
abbrev sStatesAt : Stmt := topS 23
theorem scStatesAt : FnScope ["lines", "at", "head", "size", "words", "states", "word"] ["lines", "at", "head", "size"] (defScope sStatesAt) := ⟨rfl, rfl, rfl, by decide +kernel, rfl, by decide +kernel, by decide +kernel⟩
abbrev sMoveAt : Stmt := topS 34
theorem scMoveAt : FnScope ["lines", "at", "size", "words", "state", "left", "right", "further", "move"] ["lines", "at", "size"] (defScope sMoveAt) := ⟨rfl, rfl, rfl, by decide +kernel, rfl, by decide +kernel, by decide +kernel⟩
abbrev nlS : Str := Str.ofString "\n"
abbrev spS : Str := " "
/-- an error about a line, on its way -/
def badE (E : XK) (CB : Addr) (H : Hp) (n : Nat) : Prop := ∀ d H', Same H H' → H d = none → H' d = some (.xd [(("line" : Str), .int (n : Int))]) → E (.ref CB) (some d) H'
theorem badE.up {E : XK} {CB : Addr} {H H' : Hp} {n : Nat} (h : badE E CB H n) (s : Same H H') : badE E CB H' n := fun d H2 s2 nd g => h d H2 (s.trans s2) (s.free nd) g
theorem badE.go {E : XK} {CB d : Addr} {H H1 : Hp} {n : Nat} (h : badE E CB H n) (s : Same H H1) (nd : H1 d = none) : E (.ref CB) (some d) (upd H1 d (.xd [(("line" : Str), .int (n : Int))])) := h d _ (s.trans (same_upd nd)) (s.free nd) upd_same
/-- a page of lines -/
def Page (t : Str) : Prop := t.length ≤ 100000 ∧ Low7 t
def Pages (ls : List Str) : Prop := ls.length ≤ 100002 ∧ ∀ l ∈ ls, Page l
theorem Page.split {t : Str} (h : Page t) (c : Nat) : ∀ p ∈ Txt.split t ⟨#[c]⟩, Page p := fun p hp => by
  refine ⟨Nat.le_trans (PyProof.Rows.part_short hp) h.1, fun x hx => h.2 x ?_⟩
  have e := StrLaws.join_split t ⟨#[c]⟩
  have e2 := tl_join (⟨#[c]⟩ : Str) (Txt.split t ⟨#[c]⟩)
  rw [e] at e2
  rw [e2]
  have key : ∀ {l : List (List Nat)} {q : List Nat}, q ∈ l → ∀ x ∈ q, x ∈ joinL [c] l := by
    intro l
    induction l with
    | nil => intro q hq; cases hq
    | cons a r ih =>
      intro q hq x hx
      cases r with
      | nil =>
        rcases List.mem_cons.mp hq with z | z
        · subst z; exact hx
        · cases z
      | cons b r' =>
        unfold joinL
        simp only [List.mem_append]
        rcases List.mem_cons.mp hq with z | z
        · subst z; first | exact .inl hx | exact .inl (.inl hx)
        · first | exact .inr (ih z x hx) | exact .inr (.inr (ih z x hx))
  exact key (List.mem_map.mpr ⟨p, hp, rfl⟩) x hx
def linesOf (t : Str) : List Str := Txt.split t nlS
def wordsOf (l : Str) : List Str := Txt.split l spS
theorem nlS_eq : nlS = ⟨#[10]⟩ := by decide +kernel
theorem spS_eq : spS = ⟨#[32]⟩ := by decide +kernel
theorem pages_lines {t : Str} (h : Page t) : Pages (linesOf t) := by
  unfold linesOf
  rw [nlS_eq]
  refine ⟨?_, h.split 10⟩
  have := PyProof.Rows.split_le t ⟨#[10]⟩
  have := h.1
  omega
/-- the words behind a line's first one -/
def wordsAt (ls : List Str) (i : Nat) (hd : Str) : Option (List Str) := match ls[i]? with
  | none => none
  | some l => if (wordsOf l).take 1 = [hd] then some ((wordsOf l).drop 1) else none
def spWordsAt (K : PySem.W.Frag) (CB : Addr) : Sp := fun vs H Q E => ∃ (v : Addr) (ls : List Str) (i : Nat) (hd : Str), vs = [.ref v, .int (i : Int), .str hd] ∧ SqL K H v (ls.map V.str) ∧ Pages ls ∧ Low7 hd ∧
  (∀ ws, wordsAt ls i hd = some ws → (∀ w ∈ ws, Page w) → ws.length ≤ 100002 → ∀ l H', Same H H' → H l = none → H' l = some (.lst (ws.map V.str)) → Q (.ref l) H') ∧ (wordsAt ls i hd = none → badE E CB H (i + 1))
section
variable {P : Program} {w : World} {K : PySem.W.Frag} {mg : Str → Option Value} {base : Heap}
/-- lines_of(text): a text's lines, or the error about line 0 -/
def spLinesOf (K : PySem.W.Frag) (CB : Addr) : Sp := fun vs H Q E => ∃ (v : V) (d : PyData), vs = [v] ∧ Dq K H v d ∧
  (∀ t, d = .str t → Page t ∧ ∀ l H', Same H H' → H l = none → H' l = some (.lst ((linesOf t).map V.str)) → Q (.ref l) H') ∧ ((∀ t, d ≠ .str t) → badE E CB H 0)
theorem ok_LinesOf {f CB fI : Addr} {fd : FuncData} {k : Nat} (F : Fun K "lines_of" "lines_of" sLinesOf f fd) (nisinstance : mg "isinstance" = none) (nstr : mg "str" = none) (TB : PySem.LowBadText.LowTxt K mg CB fI) : FnOk P w K mg base (L2.CX P w) (k + 1) f fd ["text"] (spLinesOf K CB) := by
  refine F.okX scLinesOf (fun vs H Q E h => ?_) (fun cdv A outer s H vs Q E hr h => ?_)
  · obtain ⟨v, d, rfl, _⟩ := h; rfl
  · obtain ⟨v, d, rfl, hd, kG, kB⟩ := h
    refine ⟨_, (pss_cons (ps_if (pt_not (pt_val (pe_callB (show CallR _ _ (rIsi K) from call_isi) (by rfl) nisinstance (by decide +kernel) (pa_cons (pv 0) (pa_cons (pe_tyN (n := "str") nstr (by decide +kernel)) pa_nil))))) (pss_one (ps_raiseBadText rfl TB hr (takes_of rfl rfl rfl rfl) (pa_cons pe_int pa_nil))) pss_nil)
      (pss_one (ps_ret (pe_split (pv 0) pe_str)))), ?_⟩
    refine ⟨v, rfl, v, .ty "str", _, _, _, rfl, .ty "str", tyx_of hd, kit_ty (kit_str d), _, rfl, ?_⟩
    cases d with
    | str t =>
      cases hd
      obtain ⟨hp, kq⟩ := kG t rfl
      have := hp.1
      exact iteF ⟨.str t, rfl, ⟨t, rfl⟩, t, nlS, rfl, rfl, by decide +kernel, len_sz (by omega), fun p np => kq p _ (same_upd np) np upd_same⟩
    | _ => exact iteT ⟨_, rfl, fun d nd => (kB (by intro t z; cases z)).go (Same.refl H) nd⟩
theorem ok_WordsAt {f CB fI : Addr} {fd : FuncData} {k : Nat} (F : Fun K "words_at" "words_at" sWordsAt f fd) (nlen : mg "len" = none) (TB : PySem.LowBadText.LowTxt K mg CB fI) : FnOk P w K mg base (L2.CX P w) (k + 1) f fd ["lines", "at", "head"] (spWordsAt K CB) := by
  refine F.okX scWordsAt (fun vs H Q E h => ?_) (fun cdv A outer s H vs Q E hr h => ?_)
  · obtain ⟨v, ls, i, hd, rfl, _⟩ := h; rfl
  · obtain ⟨v, ls, i, hd, rfl, hv, hp, hh, kG, kB⟩ := h
    have hu := hr.units
    refine ⟨_, (pss_cons (ps_set (i := 3) scWordsAt.nd rfl (by first | exact Or.inl rfl | exact Or.inr rfl) (pe_ifExp (pt_cmpR op_lt (pv 1) (pe_callB (show CallR _ _ (rLenK K) from call_len) (by rfl) nlen (by decide +kernel) (pa_cons (pv 0) pa_nil)) (nomark _)) (pe_split (pe_ix (show IxR _ (rIxL K) from ix_list) (pv 0) (pv 1) (fun _ _ => rfl)) pe_str) (pe_lst pa_nil)))
      (pss_cons (ps_if (pt_cmpR (op_neD hu) (pe_slice sl_list (pv 3) po_none (po_some pe_int)) (pe_lst (pa_cons (pv 2) pa_nil)) (nomark _)) (pss_one (ps_raiseBadText rfl TB hr (takes_of rfl rfl rfl rfl) (pa_cons (pe_op op_add (pv 1) pe_int) pa_nil))) pss_nil)
      (pss_one (ps_ret (pe_slice sl_list (pv 3) (po_some pe_int) po_none))))), ?_⟩
    have zs : sizeLine = 16777216 := by decide
    refine ⟨_, rfl, .ref v, rfl, .ref v, _, rfl, .inl ⟨_, hv, rfl⟩, _, _, rfl, rfl, _, rfl, ?_⟩
    rw [List.length_map]
    by_cases hi : i < ls.length
    · obtain ⟨t, ht⟩ : ∃ t, ls[i]? = some t := ⟨_, List.getElem?_eq_getElem hi⟩
      have pt := hp.2 t (List.mem_of_getElem? ht)
      have := pt.1
      rw [decide_eq_true (by omega)]
      refine iteT ⟨.ref v, rfl, _, rfl, v, _, (i : Int), .str t, rfl, rfl, hv, atI_nat (by rw [List.getElem?_map, ht]; rfl), ⟨t, rfl⟩, t, spS, rfl, rfl, by decide +kernel, len_sz (by omega), fun p np => ?_⟩
      have s1 : Same H (upd H p (.lst ((Txt.split t spS).map V.str))) := same_upd np
      have gp : upd H p (.lst ((Txt.split t spS).map V.str)) p = some (.lst ((Txt.split t spS).map V.str)) := upd_same
      generalize upd H p (.lst ((Txt.split t spS).map V.str)) = H1 at s1 gp ⊢
      have sl := PyProof.Rows.split_le t spS
      have pw : ∀ w ∈ Txt.split t spS, Page w := by rw [spS_eq]; exact pt.split 32
      have e : wordsAt ls i hd = if (Txt.split t spS).take 1 = [hd] then some ((Txt.split t spS).drop 1) else none := by unfold wordsAt wordsOf; rw [ht]
      generalize Txt.split t spS = ws at gp sl pw e
      refine ⟨.ref p, rfl, ?_⟩
      dsimp only [tNoPart]
      refine ⟨_, rfl, p, _, rfl, sqOf gp, fun q nq => ?_⟩
      have s2 : Same H1 (upd H1 q (.lst (cutV (ws.map V.str) none (some 1)))) := same_upd nq
      have gq : upd H1 q (.lst (cutV (ws.map V.str) none (some 1))) q = some (.lst ((ws.take 1).map V.str)) := by rw [upd_same, show (1 : Int) = ((1 : Nat) : Int) from rfl, cut_tk, List.map_take]
      generalize upd H1 q (.lst (cutV (ws.map V.str) none (some 1))) = H2 at s2 gq ⊢
      refine ⟨_, rfl, by show 1 ≤ sizeLine; decide, fun r nr => ?_⟩
      have s3 : Same H2 (upd H2 r (.lst [.str hd])) := same_upd nr
      have gr : upd H2 r (.lst [.str hd]) r = some (.lst (([hd] : List Str).map V.str)) := upd_same
      generalize upd H2 r (.lst [.str hd]) = H3 at s3 gr ⊢
      refine ⟨_, _, .lst (sqOf (s3 _ _ gq)) (dpStrs (ws.take 1)), .lst (sqOf gr) (dpStrs [hd]), shaped_strs (fun w hw => (pw w (List.mem_of_mem_take hw)).2), shaped_strs (fun w hw => by rw [List.mem_singleton.mp hw]; exact hh), _, rfl, ?_⟩
      rw [eqv_strL]
      have s13 := (s1.trans s2).trans s3
      by_cases c : ws.take 1 = [hd]
      · rw [decide_eq_true c]
        rw [if_pos c] at e
        refine iteF ⟨.ref p, rfl, _, rfl, ?_⟩
        dsimp only [tNoPart]
        refine ⟨p, _, rfl, sqOf (s3 _ _ (s2 _ _ gp)), fun l nl => kG _ e (fun w hw => pw w (List.mem_of_mem_drop hw)) (by rw [List.length_drop]; omega) l _ (s13.trans (same_upd nl)) (s13.free nl) ?_⟩
        rw [upd_same, show (1 : Int) = ((1 : Nat) : Int) from rfl, cut_dp, List.map_drop]
      · rw [decide_eq_false c]
        rw [if_neg c] at e
        exact iteT ⟨_, rfl, _, _, rfl, rfl, _, rfl, fun d nd => (kB e).go s13 nd⟩
    · have e : wordsAt ls i hd = none := by unfold wordsAt; rw [List.getElem?_eq_none (by omega)]
      rw [decide_eq_false (by omega)]
      refine iteF ⟨by show 0 ≤ sizeLine; decide, fun p np => ?_⟩
      have s1 : Same H (upd H p (.lst [])) := same_upd np
      have gp : upd H p (.lst []) p = some (.lst []) := upd_same
      generalize upd H p (.lst []) = H1 at s1 gp ⊢
      refine ⟨.ref p, rfl, ?_⟩
      dsimp only [tNoPart]
      refine ⟨_, rfl, p, _, rfl, sqOf gp, fun q nq => ?_⟩
      have s2 : Same H1 (upd H1 q (.lst (cutV [] none (some 1)))) := same_upd nq
      have gq : upd H1 q (.lst (cutV [] none (some 1))) q = some (.lst (([] : List Str).map V.str)) := by rw [upd_same, show (1 : Int) = ((1 : Nat) : Int) from rfl, cut_tk]; rfl
      generalize upd H1 q (.lst (cutV [] none (some 1))) = H2 at s2 gq ⊢
      refine ⟨_, rfl, by show 1 ≤ sizeLine; decide, fun r nr => ?_⟩
      have s3 : Same H2 (upd H2 r (.lst [.str hd])) := same_upd nr
      have gr : upd H2 r (.lst [.str hd]) r = some (.lst (([hd] : List Str).map V.str)) := upd_same
      generalize upd H2 r (.lst [.str hd]) = H3 at s3 gr ⊢
      refine ⟨_, _, .lst (sqOf (s3 _ _ gq)) (dpStrs []), .lst (sqOf gr) (dpStrs [hd]), shaped_strs (fun w hw => by cases hw), shaped_strs (fun w hw => by rw [List.mem_singleton.mp hw]; exact hh), _, rfl, ?_⟩
      rw [eqv_strL]
      have s13 := (s1.trans s2).trans s3
      rw [decide_eq_false (by simp)]
      exact iteT ⟨_, rfl, _, _, rfl, rfl, _, rfl, fun d nd => (kB e).go s13 nd⟩
end
end KP
namespace KP
open PySem PySem.Spec PyProof.Rows L2 EL
open Evl (pss_cut)
open TL
theorem dash_low : Low7 ("-" : Str) := by
  intro c hc
  have e : tl ("-" : Str) = [45] := by decide +kernel
  rw [e] at hc
  rw [List.mem_singleton.mp hc]; decide
def optND : Option Nat → PyData
  | some n => .int (n : Int)
  | none => .none
def optTD : Option Str → PyData
  | some t => .str t
  | none => .none
theorem dq_optN {K : PySem.W.Frag} {H : Hp} (o : Option Nat) : Dq K H (optN o) (optND o) := by cases o <;> constructor
theorem dq_optT {K : PySem.W.Frag} {H : Hp} (o : Option Str) : Dq K H (optT o) (optTD o) := by cases o <;> constructor
theorem dqAll_map {α : Type} {K : PySem.W.Frag} {H : Hp} {f : α → V} {g : α → PyData} (h : ∀ a, Dq K H (f a) (g a)) : ∀ l : List α, DqAll K H (l.map f) (l.map g)
  | [] => .nil
  | a :: r => .cons (h a) (dqAll_map h r)
theorem txt_len {w t : Str} (h : txtOf w = some t) : t.length ≤ w.length ∧ isTextD (.str t) = true := by
  unfold txtOf at h
  split at h
  · cases h; exact ⟨Nat.zero_le _, by decide +kernel⟩
  · split at h
    · rename_i q; cases h; exact ⟨Nat.le_refl _, q.2⟩
    · cases h
/-- the number of states that a line tells -/
def sizeAt (ls : List Str) (i : Nat) (hd : Str) : Option Nat := match wordsAt ls i hd with
  | some [w] => (match numOf w with | some n => if 1 ≤ n then some n else none | none => none)
  | _ => none
def spSizeAt (K : PySem.W.Frag) (CB : Addr) : Sp := fun vs H Q E => ∃ (v : Addr) (ls : List Str) (i : Nat) (hd : Str), vs = [.ref v, .int (i : Int), .str hd] ∧ SqL K H v (ls.map V.str) ∧ Pages ls ∧ Low7 hd ∧
  (∀ n, sizeAt ls i hd = some n → 1 ≤ n → n < 1000 → ∀ H', Same H H' → Q (.int (n : Int)) H') ∧ (sizeAt ls i hd = none → badE E CB H (i + 1))
/-- the states that a line tells -/
def statesAt (ls : List Str) (i : Nat) (hd : Str) (size : Nat) : Option (List Nat) := match wordsAt ls i hd with
  | none => none
  | some ws => if ws = [("-" : Str)] then some [] else if ws ≠ [] ∧ statesD (size : Int) (.tuple (ws.map fun w => optND (numOf w))) = true then some (ws.filterMap numOf) else none
def spStatesAt (K : PySem.W.Frag) (CB : Addr) : Sp := fun vs H Q E => ∃ (v : Addr) (ls : List Str) (i : Nat) (hd : Str) (size : Nat), vs = [.ref v, .int (i : Int), .str hd, .int (size : Int)] ∧ SqL K H v (ls.map V.str) ∧ Pages ls ∧ Low7 hd ∧
  (∀ ns, statesAt ls i hd size = some ns → Asc size ns → ∀ u H', Same H H' → Dq K H' u (.tuple (nats ns)) → Q u H') ∧ (statesAt ls i hd size = none → badE E CB H (i + 1))
/-- the move that a line tells -/
def moveAt (ls : List Str) (i : Nat) (size : Nat) : Option Mv := match wordsAt ls i "move" with
  | some [a, b, c, d] => (match numOf a, txtOf b, txtOf c, numOf d with
    | some s, some l, some r, some t => if s < size ∧ t < size then some ⟨s, tl l, tl r, t⟩ else none
    | _, _, _, _ => none)
  | _ => none
def spMoveAt (K : PySem.W.Frag) (CB : Addr) : Sp := fun vs H Q E => ∃ (v : Addr) (ls : List Str) (i : Nat) (size : Nat), vs = [.ref v, .int (i : Int), .int (size : Int)] ∧ SqL K H v (ls.map V.str) ∧ Pages ls ∧
  (∀ m, moveAt ls i size = some m → ∀ u H', Same H H' → Dq K H' u (mvD m) → Q u H') ∧ (moveAt ls i size = none → badE E CB H (i + 1))
theorem states_some {size : Nat} : ∀ {ws : List Str}, ((ws.map fun w => optND (numOf w)).all (stateD (size : Int))) = true → ∃ ns : List Nat, ws.filterMap numOf = ns ∧ (ws.map fun w => optND (numOf w)) = nats ns ∧ (∀ n ∈ ns, n < size)
  | [], _ => ⟨[], rfl, rfl, fun _ h => by cases h⟩
  | w :: r, h => by
    obtain ⟨h1, h2⟩ : stateD (size : Int) (optND (numOf w)) = true ∧ (r.map fun w => optND (numOf w)).all (stateD (size : Int)) = true := by simpa using h
    obtain ⟨ns, e1, e2, e3⟩ := states_some h2
    cases e : numOf w with
    | none => rw [e] at h1; cases h1
    | some n =>
      rw [e] at h1
      have hn : n < size := by
        simp only [optND, stateD, Bool.and_eq_true, decide_eq_true_eq] at h1; omega
      refine ⟨n :: ns, by rw [List.filterMap_cons, e, e1], by rw [List.map_cons, e, e2]; rfl, fun m hm => ?_⟩
      rcases List.mem_cons.mp hm with z | z
      · rw [z]; exact hn
      · exact e3 m z
theorem asc_of : ∀ {ns : List Nat}, ascI ((nats ns).map intOf) = true → ns.Pairwise (· < ·)
  | [], _ => List.Pairwise.nil
  | [a], _ => List.pairwise_singleton _ _
  | a :: b :: r, h => by
    obtain ⟨h1, h2⟩ : (a : Int) < (b : Int) ∧ ascI ((nats (b :: r)).map intOf) = true := by simpa [nats, ascI, intOf] using h
    have ih := asc_of h2
    refine List.pairwise_cons.mpr ⟨fun x hx => ?_, ih⟩
    rcases List.mem_cons.mp hx with z | z
    · rw [z]; omega
    · have := (List.pairwise_cons.mp ih).1 x z; omega
theorem sz_wordsN {ws : List Str} (h : ws.length ≤ 100002) : Sz (.tuple (ws.map fun w => optND (numOf w))) := by
  show PyData.bulkAll _ ≤ 500000
  have key : ∀ l : List Str, PyData.bulkAll (l.map fun w => optND (numOf w)) ≤ 3 * l.length := by
    intro l
    induction l with
    | nil => simp [PyData.bulkAll]
    | cons a r ih =>
      rw [List.map_cons, List.length_cons]
      have z : (optND (numOf a)).bulk = 0 := by cases numOf a <;> rfl
      simp only [PyData.bulkAll, z]; omega
  have := key ws
  omega
section
variable {P : Program} {w : World} {K : PySem.W.Frag} {mg : Str → Option Value} {base : Heap}
theorem ok_SizeAt {f CB fI : Addr} {fd : FuncData} {k : Nat} (F : Fun K "size_at" "size_at" sSizeAt f fd) (nlen : mg "len" = none) (TB : PySem.LowBadText.LowTxt K mg CB fI) (CWordsAt : CalX P w K mg base k "words_at" ["lines", "at", "head"] (spWordsAt K CB)) (CNumberOf : Cal P w K mg base k "number_of" ["word"] spNum) (CIsSize : Cal P w K mg base k "is_size" ["thing"] (spLook K sizeD)) : FnOk P w K mg base (L2.CX P w) (k + 1) f fd ["lines", "at", "head"] (spSizeAt K CB) := by
  refine F.okX scSizeAt (fun vs H Q E h => ?_) (fun cdv A outer s H vs Q E hr h => ?_)
  · obtain ⟨v, ls, i, hd, rfl, _⟩ := h; rfl
  · obtain ⟨v, ls, i, hd, rfl, hv, hp, hh, kG, kB⟩ := h
    refine ⟨_, (pss_cons (ps_set (i := 3) scSizeAt.nd rfl (by first | exact Or.inl rfl | exact Or.inr rfl) (pe_calX CWordsAt hr (by rfl) (passes_call (takes_of rfl rfl rfl rfl) (fun _ _ _ _ h => h)) (pa_cons (pv 0) (pa_cons (pv 1) (pa_cons (pv 2) pa_nil)))))
      (pss_cons (ps_set (i := 4) scSizeAt.nd rfl (by first | exact Or.inl rfl | exact Or.inr rfl) (pe_ifExp (pt_cmpR op_eq (pe_callB (show CallR _ _ (rLenK K) from call_len) (by rfl) nlen (by decide +kernel) (pa_cons (pv 3) pa_nil)) pe_int (nomark _)) (pe_cal CNumberOf hr (by rfl) pass0 (pa_cons (pe_ix (show IxR _ (rIxL K) from ix_list) (pv 3) pe_int (fun _ _ => rfl)) pa_nil)) pe_non))
      (pss_cons (ps_if (pt_not (pt_val (pe_cal CIsSize hr (by rfl) pass0 (pa_cons (pv 4) pa_nil)))) (pss_one (ps_raiseBadText rfl TB hr (takes_of rfl rfl rfl rfl) (pa_cons (pe_op op_add (pv 1) pe_int) pa_nil))) pss_nil)
      (pss_one (ps_ret (pv 4)))))), ?_⟩
    have zs : sizeLine = 16777216 := by decide
    refine ⟨_, rfl, _, rfl, _, rfl, v, ls, i, hd, rfl, hv, hp, hh, fun ws e pw wl l H1 s1 nl gl => ?_, fun e => kB (by unfold sizeAt; rw [e])⟩
    refine ⟨_, rfl, .ref l, _, rfl, .inl ⟨_, sqOf gl, rfl⟩, rfl, _, rfl, ?_⟩
    rw [List.length_map]
    by_cases c : ws.length = 1
    · obtain ⟨w, rfl⟩ := List.length_eq_one_iff.mp c
      have pw1 := pw w List.mem_cons_self
      have := pw1.1
      rw [decide_eq_true (by simp)]
      refine iteT ⟨.ref l, rfl, l, _, 0, .str w, rfl, rfl, sqOf gl, atI_nat (j := 0) rfl, w, rfl, by omega, fun H2 s2 => ?_⟩
      have s12 := s1.trans s2
      refine ⟨_, rfl, optN (numOf w), optND (numOf w), rfl, dq_optN _, ?_, fun H3 s3 => ?_⟩
      · cases numOf w <;> (show (0 : Nat) ≤ 500000; decide)
      · have s13 := s12.trans s3
        unfold sizeAt at kG kB
        rw [e] at kG kB
        cases en : numOf w with
        | none =>
          simp only [en] at kB
          exact ⟨_, rfl, iteT ⟨_, rfl, _, _, rfl, rfl, _, rfl, fun d nd => (kB trivial).go s13 nd⟩⟩
        | some n =>
          simp only [en] at kG kB
          by_cases hn : 1 ≤ n
          · rw [if_pos hn] at kG
            refine ⟨_, rfl, ?_⟩
            rw [show sizeD (optND (some n)) = true from decide_eq_true (by omega)]
            exact iteF ⟨_, rfl, kG n rfl hn (numOf_lt en).1 H3 s13⟩
          · rw [if_neg hn] at kB
            refine ⟨_, rfl, ?_⟩
            rw [show sizeD (optND (some n)) = false from decide_eq_false (by omega)]
            exact iteT ⟨_, rfl, _, _, rfl, rfl, _, rfl, fun d nd => (kB rfl).go s13 nd⟩
    · rw [decide_eq_false (by intro z; exact c (by have := V.int.inj z; omega))]
      have kb := kB (by
        unfold sizeAt; rw [e]
        match ws, c with
        | [], _ => rfl
        | _ :: _ :: _, _ => rfl)
      refine iteF ?_
      refine ⟨_, rfl, .non, .none, rfl, .non, (Nat.zero_le 500000), fun H3 s3 => ⟨_, rfl, iteT ⟨_, rfl, _, _, rfl, rfl, _, rfl, fun d nd => kb.go (s1.trans s3) nd⟩⟩⟩
theorem ok_StatesAt {f CB fI : Addr} {fd : FuncData} {k : Nat} (F : Fun K "states_at" "states_at" sStatesAt f fd) (ntuple : mg "tuple" = none) (m_NOTHING : StrAt mg "NOTHING" "-") (TB : PySem.LowBadText.LowTxt K mg CB fI) (CWordsAt : CalX P w K mg base k "words_at" ["lines", "at", "head"] (spWordsAt K CB)) (CNumberOf : Cal P w K mg base k "number_of" ["word"] spNum) (CIsTupleOfStates : Cal P w K mg base k "is_tuple_of_states" ["thing", "size"] (spLookN K statesD)) : FnOk P w K mg base (L2.CX P w) (k + 1) f fd ["lines", "at", "head", "size"] (spStatesAt K CB) := by
  refine F.okX scStatesAt (fun vs H Q E h => ?_) (fun cdv A outer s H vs Q E hr h => ?_)
  · obtain ⟨v, ls, i, hd, size, rfl, _⟩ := h; rfl
  · obtain ⟨v, ls, i, hd, size, rfl, hv, hp, hh, kG, kB⟩ := h
    have hu := hr.units
    refine ⟨_, (pss_cons (ps_set (i := 4) scStatesAt.nd rfl (by first | exact Or.inl rfl | exact Or.inr rfl) (pe_calX CWordsAt hr (by rfl) (passes_call (takes_of rfl rfl rfl rfl) (fun _ _ _ _ h => h)) (pa_cons (pv 0) (pa_cons (pv 1) (pa_cons (pv 2) pa_nil)))))
      (pss_cons (ps_if (pt_cmpR (op_eqD hu) (pv 4) (pe_lst (pa_cons (pe_gstr m_NOTHING) pa_nil)) (nomark _)) (pss_one (ps_ret (pe_tup pa_nil))) pss_nil)
      (pss_cons (ps_set (i := 5) scStatesAt.nd rfl (by first | exact Or.inl rfl | exact Or.inr rfl) (pe_callTy call_tuple_of (by rfl) ntuple (by decide +kernel) (pa_cons (pe_lc (own := [("word", 6)]) (g := (gName 6)) (by rfl) scStatesAt.nd (pi_list (pv 4)) (blkOk_by (own := [("word", 6)]) (N := ["lines", "at", "head", "size", "words", "states", "word"]) (sc := defScope sStatesAt) (by decide +kernel)) (fun _ _ _ _ _ => (pg_name (i := 6) scStatesAt.nd rfl (by first | exact Or.inl rfl | exact Or.inr rfl))) (fun _ _ _ _ _ => pts_nil) (fun _ _ _ _ _ => (pe_cal CNumberOf hr (by rfl) pass0 (pa_cons (pv 6) pa_nil)))) pa_nil)))
      (pss_cons (ps_if (PW.pt (pw_or (pt_not (pt_truth (pv 5) (by intro _; rfl))) (pw_or1 (pt_not (pt_val (pe_cal CIsTupleOfStates hr (by rfl) pass0 (pa_cons (pv 5) (pa_cons (pv 3) pa_nil)))))))) (pss_one (ps_raiseBadText rfl TB hr (takes_of rfl rfl rfl rfl) (pa_cons (pe_op op_add (pv 1) pe_int) pa_nil))) pss_nil)
      (pss_one (ps_ret (pv 5))))))), ?_⟩
    have zs : sizeLine = 16777216 := by decide
    refine ⟨_, rfl, _, rfl, _, rfl, v, ls, i, hd, rfl, hv, hp, hh, fun ws e pw wl l H1 s1 nl gl => ?_, fun e => kB (by unfold statesAt; rw [e])⟩
    unfold statesAt at kG kB
    simp only [e] at kG kB
    refine ⟨.ref l, rfl, by show 1 ≤ sizeLine; decide, fun r nr => ?_⟩
    have s2 : Same H1 (upd H1 r (.lst [.str ("-" : Str)])) := same_upd nr
    have gr : upd H1 r (.lst [.str ("-" : Str)]) r = some (.lst (([("-" : Str)] : List Str).map V.str)) := upd_same
    generalize upd H1 r (.lst [.str ("-" : Str)]) = H2 at s2 gr ⊢
    refine ⟨_, _, .lst (sqOf (s2 _ _ gl)) (dpStrs ws), .lst (sqOf gr) (dpStrs [("-" : Str)]), shaped_strs (fun w hw => (pw w hw).2), shaped_strs (fun w hw => by rw [List.mem_singleton.mp hw]; exact dash_low), _, rfl, ?_⟩
    rw [eqv_strL]
    have s12 := s1.trans s2
    by_cases c : ws = [("-" : Str)]
    · rw [decide_eq_true c]
      rw [if_pos c] at kG
      exact iteT ⟨by show 0 ≤ sizeLine; decide, fun t nt => kG [] rfl ⟨List.Pairwise.nil, fun _ h => by cases h⟩ _ _ (s12.trans (same_upd nt)) (.tup (stOf upd_same) .nil)⟩
    rw [decide_eq_false c]
    rw [if_neg c] at kG kB
    refine iteF ⟨.ref l, rfl, l, rfl, ⟨_, sqOf (s2 _ _ gl)⟩, fun D nD => ?_⟩
    refine lc_it walk_list (LcP D (fun _ H' => Same H2 H') (fun j v => ∃ w : Str, ws[j]? = some w ∧ v = some (optN (numOf w)))) (LcP.start (same_upd nD)) (fun i H' _ z => by obtain ⟨_, _, _, _, sm⟩ := z; exact sqOf (sm _ _ (s2 _ _ gl))) ?_ ?_
    · rintro j v H9 H3 hj ⟨ys, hl2, hR, hD, sm⟩ ⟨rfl, hv2⟩
      obtain ⟨w, hw, rfl⟩ : ∃ b, ws[j]? = some b ∧ v = .str b := by
        rw [List.getElem?_map] at hv2
        cases ej : ws[j]? with
        | none => rw [ej] at hv2; cases hv2
        | some b => rw [ej] at hv2; exact ⟨b, rfl, (Option.some.inj hv2).symm⟩
      have hj2 : j < ws.length := (List.getElem?_eq_some_iff.mp hw).1
      have := (pw w (List.mem_of_getElem? hw)).1
      refine ⟨rfl, ?_⟩
      dsimp only [tYes]
      refine iteT ⟨.str w, rfl, w, rfl, by omega, fun H4 s4 => ?_⟩
      exact lcp_some hl2 hR (s4 _ _ hD) (by omega) ⟨w, hw, rfl⟩ fun b o q => by rw [upd_ne (ne_of_none q nD)]; exact s4 _ _ (sm b o q)
    rintro H3 ⟨ys, hl2, hR, hD, s3⟩
    have e1 := rows_map (f := fun w : Str => some (optN (numOf w))) (l := ws) (by rw [hl2, List.length_map]) hR
    have e2 : (ws.map fun w : Str => some (optN (numOf w))).filterMap id = ws.map fun w => optN (numOf w) := by rw [List.filterMap_map]; simp [Function.comp_def]
    rw [e1, e2] at hD
    refine ⟨D, _, rfl, .inl ⟨sqOf hD, fun t nt => ?_⟩⟩
    have s4 : Same H3 (upd H3 t (.tup (ws.map fun w => optN (numOf w)))) := same_upd nt
    have gt : upd H3 t (.tup (ws.map fun w => optN (numOf w))) t = some (.tup (ws.map fun w => optN (numOf w))) := upd_same
    generalize upd H3 t (.tup (ws.map fun w => optN (numOf w))) = H4 at s4 gt ⊢
    have s14 := (s12.trans s3).trans s4
    have dq : Dq K H4 (.ref t) (.tuple (ws.map fun w => optND (numOf w))) := by
      exact .tup (stOf gt) (dqAll_map (fun w => dq_optN _) ws)
    refine ⟨.ref t, rfl, _, .inr (.inl ⟨_, stOf gt, rfl⟩), ?_⟩
    by_cases ew : ws = []
    · subst ew
      rw [if_neg (fun z => z.1 rfl)] at kB
      exact iteT ⟨_, rfl, _, _, rfl, rfl, _, rfl, fun d nd => (kB rfl).go s14 nd⟩
    rw [show (!(ws.map fun w => optN (numOf w)).isEmpty) = true by cases ws with | nil => exact absurd rfl ew | cons a b => rfl]
    refine iteF ⟨.ref t, rfl, _, rfl, .ref t, _, (size : Int), rfl, dq, sz_wordsN wl, fun H5 s5 => ⟨_, rfl, ?_⟩⟩
    have s15 := s14.trans s5
    cases hs : statesD (size : Int) (.tuple (ws.map fun w => optND (numOf w))) with
    | false =>
      rw [if_neg (fun z => by rw [hs] at z; exact absurd z.2 Bool.false_ne_true)] at kB
      exact iteT ⟨_, rfl, _, _, rfl, rfl, _, rfl, fun d nd => (kB rfl).go s15 nd⟩
    | true =>
      rw [if_pos ⟨ew, hs⟩] at kG
      have hs2 := hs
      simp only [statesD, Bool.and_eq_true] at hs2
      obtain ⟨ns, n1, n2, n3⟩ := states_some hs2.1
      rw [n2] at hs2 dq
      rw [n1] at kG
      exact iteF ⟨_, rfl, kG ns rfl ⟨asc_of hs2.2, n3⟩ _ _ s15 (dq.up s5)⟩
theorem ok_MoveAt {f CB fI : Addr} {fd : FuncData} {k : Nat} (F : Fun K "move_at" "move_at" sMoveAt f fd) (nlen : mg "len" = none) (TB : PySem.LowBadText.LowTxt K mg CB fI) (CWordsAt : CalX P w K mg base k "words_at" ["lines", "at", "head"] (spWordsAt K CB)) (CNumberOf : Cal P w K mg base k "number_of" ["word"] spNum) (CTextOf : Cal P w K mg base k "text_of" ["word"] spTxt) (CIsMove : Cal P w K mg base k "is_move" ["thing", "size"] (spLookN K moveD)) : FnOk P w K mg base (L2.CX P w) (k + 1) f fd ["lines", "at", "size"] (spMoveAt K CB) := by
  refine F.okX scMoveAt (fun vs H Q E h => ?_) (fun cdv A outer s H vs Q E hr h => ?_)
  · obtain ⟨v, ls, i, size, rfl, _⟩ := h; rfl
  · obtain ⟨v, ls, i, size, rfl, hv, hp, kG, kB⟩ := h
    refine ⟨_, (pss_cons (ps_set (i := 3) scMoveAt.nd rfl (by first | exact Or.inl rfl | exact Or.inr rfl) (pe_calX CWordsAt hr (by rfl) (passes_call (takes_of rfl rfl rfl rfl) (fun _ _ _ _ h => h)) (pa_cons (pv 0) (pa_cons (pv 1) (pa_cons pe_str pa_nil)))))
      (pss_cons (ps_if (pt_cmpR op_ne (pe_callB (show CallR _ _ (rLenK K) from call_len) (by rfl) nlen (by decide +kernel) (pa_cons (pv 3) pa_nil)) pe_int (nomark _)) (pss_one (ps_raiseBadText rfl TB hr (takes_of rfl rfl rfl rfl) (pa_cons (pe_op op_add (pv 1) pe_int) pa_nil))) pss_nil)
      (pss_cons (ps_asg (pv 3) (pg_lst (by rfl) (pgs_cons (pg_name (i := 4) scMoveAt.nd rfl (by first | exact Or.inl rfl | exact Or.inr rfl)) (pgs_cons (pg_name (i := 5) scMoveAt.nd rfl (by first | exact Or.inl rfl | exact Or.inr rfl)) (pgs_cons (pg_name (i := 6) scMoveAt.nd rfl (by first | exact Or.inl rfl | exact Or.inr rfl)) (pgs_cons (pg_name (i := 7) scMoveAt.nd rfl (by first | exact Or.inl rfl | exact Or.inr rfl)) pgs_nil))))))
      (pss_cons (ps_set (i := 8) scMoveAt.nd rfl (by first | exact Or.inl rfl | exact Or.inr rfl) (pe_tup (pa_cons (pe_cal CNumberOf hr (by rfl) pass0 (pa_cons (pv 4) pa_nil)) (pa_cons (pe_cal CTextOf hr (by rfl) pass0 (pa_cons (pv 5) pa_nil)) (pa_cons (pe_cal CTextOf hr (by rfl) pass0 (pa_cons (pv 6) pa_nil)) (pa_cons (pe_cal CNumberOf hr (by rfl) pass0 (pa_cons (pv 7) pa_nil)) pa_nil))))))
      (pss_cons (ps_if (pt_not (pt_val (pe_cal CIsMove hr (by rfl) pass0 (pa_cons (pv 8) (pa_cons (pv 2) pa_nil))))) (pss_one (ps_raiseBadText rfl TB hr (takes_of rfl rfl rfl rfl) (pa_cons (pe_op op_add (pv 1) pe_int) pa_nil))) pss_nil)
      (pss_one (ps_ret (pv 8)))))))), ?_⟩
    have zs : sizeLine = 16777216 := by decide
    have mv7 : Low7 ("move" : Str) := by
      intro c hc
      have e : tl ("move" : Str) = [109, 111, 118, 101] := by decide +kernel
      rw [e] at hc
      simp only [List.mem_cons, List.not_mem_nil, or_false] at hc
      omega
    refine ⟨_, rfl, _, rfl, v, ls, i, ("move" : Str), rfl, hv, hp, mv7, fun ws e pw wl l H1 s1 nl gl => ?_, fun e => kB (by unfold moveAt; rw [e])⟩
    unfold moveAt at kG kB
    rw [e] at kG kB
    refine ⟨.ref l, rfl, .ref l, _, rfl, .inl ⟨_, sqOf gl, rfl⟩, rfl, _, rfl, ?_⟩
    rw [List.length_map]
    by_cases c : ws.length = 4
    · obtain ⟨w1, w2, w3, w4, rfl⟩ : ∃ a b c d, ws = [a, b, c, d] := by
        match ws, c with
        | [a, b, c, d], _ => exact ⟨a, b, c, d, rfl⟩
      have p1 := (pw w1 (by simp)).1
      have p2 := (pw w2 (by simp)).1
      have p3 := (pw w3 (by simp)).1
      have p4 := (pw w4 (by simp)).1
      rw [show (!decide (V.int (([w1, w2, w3, w4].length : Nat) : Int) = V.int 4)) = false by rfl]
      refine iteF ⟨.ref l, rfl, l, _, rfl, sqOf gl, rfl, _, _, rfl, _, _, rfl, _, _, rfl, _, _, rfl, rfl, ?_⟩
      dsimp only [List.map_cons, List.map_nil] at kG kB ⊢
      refine ⟨.str w1, rfl, w1, rfl, by omega, fun H2 s2 => ?_⟩
      refine ⟨.str w2, rfl, w2, rfl, by omega, fun H3 s3 => ?_⟩
      refine ⟨.str w3, rfl, w3, rfl, by omega, fun H4 s4 => ?_⟩
      refine ⟨.str w4, rfl, w4, rfl, by omega, fun H5 s5 => ?_⟩
      refine ⟨by show 4 ≤ sizeLine; decide, fun t nt => ?_⟩
      have s6 : Same H5 (upd H5 t (.tup [optN (numOf w1), optT (txtOf w2), optT (txtOf w3), optN (numOf w4)])) := same_upd nt
      have g6 : upd H5 t (.tup [optN (numOf w1), optT (txtOf w2), optT (txtOf w3), optN (numOf w4)]) t = some (.tup [optN (numOf w1), optT (txtOf w2), optT (txtOf w3), optN (numOf w4)]) := upd_same
      generalize upd H5 t (.tup [optN (numOf w1), optT (txtOf w2), optT (txtOf w3), optN (numOf w4)]) = H6 at s6 g6 ⊢
      have s16 := ((((s1.trans s2).trans s3).trans s4).trans s5).trans s6
      have dq : Dq K H6 (.ref t) (.tuple [optND (numOf w1), optTD (txtOf w2), optTD (txtOf w3), optND (numOf w4)]) :=
        .tup (stOf g6) (.cons (dq_optN _) (.cons (dq_optT _) (.cons (dq_optT _) (.cons (dq_optN _) .nil))))
      have bz : ∀ o : Option Nat, (optND o).bulk = 0 := fun o => by cases o <;> rfl
      have bt : ∀ x : Str, x.length ≤ 100000 → (optTD (txtOf x)).bulk ≤ 100000 := fun x hx => by
        cases ex : txtOf x with
        | none => exact Nat.zero_le _
        | some y => exact Nat.le_trans (txt_len ex).1 hx
      have sz : Sz (.tuple [optND (numOf w1), optTD (txtOf w2), optTD (txtOf w3), optND (numOf w4)]) := by
        have b2 := bt w2 p2
        have b3 := bt w3 p3
        show PyData.bulkAll _ ≤ 500000
        simp only [PyData.bulkAll, bz]
        omega
      refine ⟨.ref t, rfl, _, rfl, .ref t, _, (size : Int), rfl, dq, sz, fun H7 s7 => ⟨_, rfl, ?_⟩⟩
      have s17 := s16.trans s7
      have raise := fun (z : badE E CB H (i + 1)) (d : Addr) (nd : H7 d = none) => z.go s17 nd
      cases e1 : numOf w1 with
      | none =>
        simp only [e1] at kB
        exact iteT ⟨_, rfl, _, _, rfl, rfl, _, rfl, raise (kB trivial)⟩
      | some a =>
      cases e2 : txtOf w2 with
      | none =>
        simp only [e1, e2] at kB
        rw [show moveD (size : Int) (.tuple [optND (some a), optTD none, optTD (txtOf w3), optND (numOf w4)]) = false by simp only [moveD, optTD]; rw [show isTextD PyData.none = false from rfl, Bool.false_and, Bool.and_false]]
        exact iteT ⟨_, rfl, _, _, rfl, rfl, _, rfl, raise (kB trivial)⟩
      | some b =>
      cases e3 : txtOf w3 with
      | none =>
        simp only [e1, e2, e3] at kB
        rw [show moveD (size : Int) (.tuple [optND (some a), optTD (some b), optTD none, optND (numOf w4)]) = false by simp only [moveD, optTD]; rw [show isTextD PyData.none = false from rfl, Bool.false_and, Bool.and_false, Bool.and_false]]
        exact iteT ⟨_, rfl, _, _, rfl, rfl, _, rfl, raise (kB trivial)⟩
      | some c =>
      cases e4 : numOf w4 with
      | none =>
        simp only [e1, e2, e3, e4] at kB
        rw [show moveD (size : Int) (.tuple [optND (some a), optTD (some b), optTD (some c), optND none]) = false by simp only [moveD, optND]; rw [show stateD (size : Int) PyData.none = false from rfl, Bool.and_false, Bool.and_false, Bool.and_false]]
        exact iteT ⟨_, rfl, _, _, rfl, rfl, _, rfl, raise (kB trivial)⟩
      | some d =>
        simp only [e1, e2, e3, e4] at kB kG
        have ev : moveD (size : Int) (.tuple [optND (some a), optTD (some b), optTD (some c), optND (some d)]) = (decide (a < size) && decide (d < size)) := by
          simp only [moveD, optND, optTD, (txt_len e2).2, (txt_len e3).2, Bool.true_and, stateD]
          rw [show decide (0 ≤ (a : Int)) = true from decide_eq_true (by omega), show decide (0 ≤ (d : Int)) = true from decide_eq_true (by omega), Bool.true_and, Bool.true_and]
          congr 1 <;> exact decide_eq_decide.mpr (by omega)
        rw [ev]
        rw [e1, e2, e3, e4] at dq
        by_cases q : a < size ∧ d < size
        · rw [if_pos q] at kG
          rw [decide_eq_true q.1, decide_eq_true q.2]
          refine iteF ⟨_, rfl, kG _ rfl _ _ s17 ?_⟩
          have := dq.up s7
          exact this
        · rw [if_neg q] at kB
          rw [show (decide (a < size) && decide (d < size)) = false by
            rw [← Bool.decide_and]; exact decide_eq_false q]
          exact iteT ⟨_, rfl, _, _, rfl, rfl, _, rfl, raise (kB rfl)⟩
    · rw [show (!decide (V.int ((ws.length : Nat) : Int) = V.int 4)) = true by rw [decide_eq_false (by intro z; exact c (by have := V.int.inj z; omega))]; rfl]
      have kb := kB (by
        match ws, c with
        | [], _ => rfl
        | [_], _ => rfl
        | [_, _], _ => rfl
        | [_, _, _], _ => rfl
        | _ :: _ :: _ :: _ :: _ :: _, _ => rfl)
      exact iteT ⟨_, rfl, _, _, rfl, rfl, _, rfl, fun d nd => kb.go s1 nd⟩
end
end KP
namespace KP
open PySem PySem.Spec PyProof.Rows L2 EL
open Evl (pss_cut)
open TL
abbrev sPacerRead : Stmt := inClass (topS 26) 9
theorem scPacerRead : FnScope ["cls", "text", "lines", "size", "begins", "ends", "moves", "at"] ["cls", "text"] (defScope sPacerRead) := ⟨rfl, rfl, rfl, by decide +kernel, rfl, by decide +kernel, by decide +kernel⟩
/-- what a text says, where every line is right -/
theorem take_more {α : Type} {l : List α} {i : Nat} {x : α} (h : l[i]? = some x) : l.take (i + 1) = l.take i ++ [x] := by
  rw [List.take_add_one, h]; rfl
theorem mvs_noLDs : ∀ ms : List Mv, noLDs (ms.map mvD) = true
  | [] => rfl
  | m :: r => by rw [List.map_cons, noLDs, mvs_noLDs r]; rfl
theorem low_iff {c : Nat} : isLow c = true ↔ 97 ≤ c ∧ c ≤ 122 := by
  have e : (Str.ofString "abcdefghijklmnopqrstuvwxyz").cps.toList = (List.range 26).map (· + 97) := by decide +kernel
  unfold isLow
  rw [e, decide_eq_true_iff]
  simp only [List.mem_map, List.mem_range]
  constructor
  · rintro ⟨a, h, rfl⟩; omega
  · intro h; exact ⟨c - 97, by omega, by omega⟩
theorem az_text {cs : List Nat} (h : ∀ c ∈ cs, 97 ≤ c ∧ c ≤ 122) : isTextD (.str ⟨cs.toArray⟩) = true := by
  show cs.all isLow = true
  exact List.all_eq_true.mpr fun c m => low_iff.mpr (h c m)
theorem moves_okF {n : Nat} {ms : List Mv} (h : ∀ m ∈ ms, m.s < n ∧ m.t < n ∧ m.l.length ≤ 1000 ∧ m.r.length ≤ 1000 ∧ (∀ c ∈ m.l, 97 ≤ c ∧ c ≤ 122) ∧ ∀ c ∈ m.r, 97 ≤ c ∧ c ≤ 122) : movesD n (.tuple (ms.map mvD)) = true := by
  simp only [movesD]
  refine List.all_eq_true.mpr fun d m => ?_
  obtain ⟨x, hx, rfl⟩ := List.mem_map.mp m
  obtain ⟨h1, h2, _, _, h5, h6⟩ := h x hx
  simp only [moveD, stateD, az_text h5, az_text h6, Bool.and_eq_true, decide_eq_true_eq]
  refine ⟨⟨?_, ?_⟩, trivial, trivial, ?_, ?_⟩ <;> omega
theorem moves_bulkF {n : Nat} : ∀ {ms : List Mv}, (∀ m ∈ ms, m.s < n ∧ m.t < n ∧ m.l.length ≤ 1000 ∧ m.r.length ≤ 1000 ∧ (∀ c ∈ m.l, 97 ≤ c ∧ c ≤ 122) ∧ ∀ c ∈ m.r, 97 ≤ c ∧ c ≤ 122) → PyData.bulkAll (ms.map mvD) ≤ 2010 * ms.length
  | [], _ => by simp [PyData.bulkAll]
  | m :: r, h => by
    have ih := moves_bulkF (ms := r) fun x hx => h x (List.mem_cons_of_mem _ hx)
    obtain ⟨_, _, h3, h4, _, _⟩ := h m List.mem_cons_self
    have e1 : (PyData.str ⟨m.l.toArray⟩).bulk = m.l.length := by simp [PyData.bulk, Str.length]
    have e2 : (PyData.str ⟨m.r.toArray⟩).bulk = m.r.length := by simp [PyData.bulk, Str.length]
    have e0 : (mvD m).bulk ≤ 2009 := by
      show PyData.bulkAll [_, _, _, _] ≤ 2009
      simp only [PyData.bulkAll, e1, e2]
      simp only [PyData.bulk]; omega
    simp only [List.map_cons, PyData.bulkAll, List.length_cons]; omega
structure ReadAs (t : Str) (pl : Plan) : Prop where
  n : sizeAt (linesOf t) 0 "pacer" = some pl.wide
  i : statesAt (linesOf t) 1 "begins" pl.wide = some pl.ins
  o : statesAt (linesOf t) 2 "ends" pl.wide = some pl.outs
  l : (linesOf t).length = 3 + pl.ways.length
  m : ∀ (j : Nat) (m : Mv), pl.ways[j]? = some m → moveAt (linesOf t) (3 + j) pl.wide = some m
def spRead (K : PySem.W.Frag) (C : Addr) : Sp := fun vs H Q E => ∃ (t : Str) (pl : Plan), vs = [.ref C, .str t] ∧ Page t ∧ ReadAs t pl ∧ pl.Fine ∧ pl.ways.length ≤ 100 ∧ ∀ x H', Same H H' → H x = none → PacAt K C H' x pl → Q (.ref x) H'
section
variable {P : Program} {w : World} {K : PySem.W.Frag} {mg : Str → Option Value} {base : Heap}
theorem ok_PacerRead {f C CB : Addr} {fd : FuncData} {k : Nat} (F : Fun K "read" "Pacer.read" sPacerRead f fd) (nlen : mg "len" = none) (nrange : mg "range" = none) (ntuple : mg "tuple" = none) {tM : Tok} (m_FIRST_MOVE_LINE : mg "FIRST_MOVE_LINE" = some (.int 3 tM))
    (CLinesOf : CalX P w K mg base (k + 1) "lines_of" ["text"] (spLinesOf K CB)) (CSizeAt : CalX P w K mg base (k + 1) "size_at" ["lines", "at", "head"] (spSizeAt K CB)) (CStatesAt : CalX P w K mg base (k + 1) "states_at" ["lines", "at", "head", "size"] (spStatesAt K CB)) (CMoveAt : CalX P w K mg base (k + 1) "move_at" ["lines", "at", "size"] (spMoveAt K CB)) (CC : CalC P w K mg base k C) :
    FnOk P w K mg base (L2.CX P w) (k + 2) f fd ["cls", "text"] (spRead K C) := by
  refine F.okX scPacerRead (fun vs H Q E h => ?_) (fun cdv A outer s H vs Q E hr h => ?_)
  · obtain ⟨t, pl, rfl, _⟩ := h; rfl
  · obtain ⟨t, pl, rfl, pg, R, hO, hw, kQ⟩ := h
    refine ⟨_, (pss_cons (ps_set (i := 2) scPacerRead.nd rfl (by first | exact Or.inl rfl | exact Or.inr rfl) (pe_calX CLinesOf hr (by rfl) (passes_call (takes_of rfl rfl rfl rfl) (fun _ _ _ _ h => h)) (pa_cons (pv 1) pa_nil)))
      (pss_cons (ps_set (i := 3) scPacerRead.nd rfl (by first | exact Or.inl rfl | exact Or.inr rfl) (pe_calX CSizeAt hr (by rfl) (passes_call (takes_of rfl rfl rfl rfl) (fun _ _ _ _ h => h)) (pa_cons (pv 2) (pa_cons pe_int (pa_cons pe_str pa_nil)))))
      (pss_cons (ps_set (i := 4) scPacerRead.nd rfl (by first | exact Or.inl rfl | exact Or.inr rfl) (pe_calX CStatesAt hr (by rfl) (passes_call (takes_of rfl rfl rfl rfl) (fun _ _ _ _ h => h)) (pa_cons (pv 2) (pa_cons pe_int (pa_cons pe_str (pa_cons (pv 3) pa_nil))))))
      (pss_cons (ps_set (i := 5) scPacerRead.nd rfl (by first | exact Or.inl rfl | exact Or.inr rfl) (pe_calX CStatesAt hr (by rfl) (passes_call (takes_of rfl rfl rfl rfl) (fun _ _ _ _ h => h)) (pa_cons (pv 2) (pa_cons pe_int (pa_cons pe_str (pa_cons (pv 3) pa_nil))))))
      (pss_cons (ps_setLc (i := 6) (own := [("at", 7)]) (g := (gName 7)) (by rfl) scPacerRead.nd rfl rfl (sw_true rfl rfl rfl (by decide +kernel)) (pi_range2 rfl nrange (pa_cons (pe_glob rfl m_FIRST_MOVE_LINE (show RelV (.int 3) (.int 3 tM) from ⟨_, rfl⟩)) (pa_cons (pe_callB (show CallR _ _ (rLenK K) from call_len) (by rfl) nlen (by decide +kernel) (pa_cons (pv 2) pa_nil)) pa_nil))) (blkOk_by (own := [("at", 7)]) (N := ["cls", "text", "lines", "size", "begins", "ends", "moves", "at"]) (sc := defScope sPacerRead) (by decide +kernel)) (fun _ _ _ _ _ => (pg_name (i := 7) scPacerRead.nd rfl (by first | exact Or.inl rfl | exact Or.inr rfl))) (fun _ _ _ _ _ => pts_nil) (fun _ _ _ _ _ => (pe_calX CMoveAt hr (by rfl) passL (pa_cons (pv 2) (pa_cons (pv 7) (pa_cons (pv 3) pa_nil))))))
      (pss_one (ps_ret (pe_makeL (i := 0) CC.mke CC.ok hr rfl (.inl rfl) CC.b .nil pass0 (pa_cons (pv 3) (pa_cons (pv 4) (pa_cons (pe_callTy call_tuple_of (by rfl) ntuple (by decide +kernel) (pa_cons (pv 6) pa_nil)) (pa_cons (pv 5) pa_nil)))))))))))), ?_⟩
    refine ⟨_, rfl, _, .str t, rfl, .str t, fun t' et => ?_, fun z => absurd rfl (z t)⟩
    cases et
    refine ⟨pg, fun l H1 s1 nl gl => ?_⟩
    have pL := pages_lines pg
    have lit : ∀ z : Str, (tl z).all (· < 128) = true → Low7 z := fun z h c hc => by simpa using List.all_eq_true.mp h c hc
    have hn := hO.w2
    refine ⟨_, rfl, l, linesOf t, 0, "pacer", rfl, sqOf gl, pL, lit _ (by decide +kernel), fun n en n1 n2 H2 s2 => ?_, fun z => by rw [R.n] at z; cases z⟩
    rw [R.n] at en; cases en
    refine ⟨_, rfl, _, rfl, l, linesOf t, 1, "begins", pl.wide, rfl, sqOf (s2 _ _ gl), pL, lit _ (by decide +kernel), fun ns ei ai vb H3 s3 db => ?_, fun z => by rw [R.i] at z; cases z⟩
    rw [R.i] at ei; cases ei
    have s23 := s2.trans s3
    refine ⟨_, rfl, _, rfl, l, linesOf t, 2, "ends", pl.wide, rfl, sqOf (s23 _ _ gl), pL, lit _ (by decide +kernel), fun ns eo ao ve H4 s4 de => ?_, fun z => by rw [R.o] at z; cases z⟩
    rw [R.o] at eo; cases eo
    have s24 := s23.trans s4
    have gl4 := s24 _ _ gl
    have zs : sizeLine = 16777216 := by decide
    have hwl := R.l
    refine ⟨.ref l, rfl, .ref l, _, rfl, .inl ⟨_, sqOf gl4, rfl⟩, 3, _, rfl, ⟨by decide, by decide, by rw [List.length_map]; have := pL.1; omega, by rw [List.length_map]; have := pL.1; omega⟩, fun D nD => ?_⟩
    rw [List.length_map, show (((linesOf t).length : Nat) - (3 : Int)).toNat = pl.ways.length by omega]
    refine lc_it walk_range (fun j H' => ∃ us, H' D = some (.lst us) ∧ us.length = j ∧ DqAll K H' us ((pl.ways.take j).map mvD) ∧ Same H4 H') ⟨[], upd_same, rfl, .nil, same_upd nD⟩ (fun _ _ _ _ => trivial) ?_ ?_
    · rintro j v H5 H6 hj ⟨us, gD, ul, du, sm⟩ ⟨rfl, hv⟩
      cases hv
      obtain ⟨m, hm⟩ : ∃ m, pl.ways[j]? = some m := ⟨_, List.getElem?_eq_getElem hj⟩
      refine ⟨rfl, ?_⟩
      dsimp only [tYes]
      refine iteT ⟨.ref l, rfl, .int (3 + (j : Int)), rfl, .int (pl.wide : Int), rfl, l, linesOf t, 3 + j, pl.wide, by simp, sqOf (sm _ _ gl4), pL, fun m' em u H7 s7 du7 => ?_, fun z => by rw [R.m j m hm] at z; cases z⟩
      rw [R.m j m hm] at em; cases em
      refine ⟨us, s7 _ _ gD, by omega, us ++ [u], upd_same, by rw [List.length_append, ul]; rfl, ?_, fun b o q => by rw [upd_ne (ne_of_none q nD)]; exact s7 _ _ (sm b o q)⟩
      have kp : KpT H7 (upd H7 D (.lst (us ++ [u]))) := KpT.lst (s7 _ _ gD)
      rw [take_more hm, List.map_append]
      exact (dqAll_kpt kp _ _ (du.up s7) (mvs_noLDs _)).app (.cons (dq_kpt kp _ _ du7 (by rfl)) .nil)
    rintro H5 ⟨us, gD, ul, du, s5⟩
    rw [List.take_length] at du
    have s25 := s24.trans s5
    refine ⟨rfl, .int (pl.wide : Int), rfl, vb, rfl, .ref D, rfl, D, us, rfl, .inl ⟨sqOf gD, fun tp ntp => ?_⟩⟩
    have s6 : Same H5 (upd H5 tp (.tup us)) := same_upd ntp
    have g6 : upd H5 tp (.tup us) tp = some (.tup us) := upd_same
    generalize upd H5 tp (.tup us) = H6 at s6 g6 ⊢
    refine ⟨ve, rfl, fun x dx nx ndx nex => ?_⟩
    have s7 : Same H6 (upd (upd H6 dx (.own x)) x (.ins C dx [])) := fun b o e => by
      rw [upd_ne (ne_of_none e nx), upd_ne (ne_of_none e ndx)]; exact e
    have g7 : upd (upd H6 dx (.own x)) x (.ins C dx []) x = some (.ins C dx []) := upd_same
    generalize upd (upd H6 dx (.own x)) x (.ins C dx []) = H7 at s7 g7 ⊢
    have s26 := s25.trans s6
    have b1 := asc_len hO.i
    have b2 := asc_len hO.o
    have d1 : Dq K H7 vb (.tuple (nats pl.ins)) := ((db.up (s4.trans s5)).up s6).up s7
    have d2 : Dq K H7 (.ref tp) (.tuple (pl.ways.map mvD)) := .tup (stOf (s7 _ _ g6)) ((du.up s6).up s7)
    have d3 : Dq K H7 ve (.tuple (nats pl.outs)) := ((de.up s5).up s6).up s7
    refine ⟨x, dx, (pl.wide : Int), vb, .ref tp, ve, _, _, _, rfl, g7, d1, d2, d3, ?_, ?_, ?_, by have := hO.w1; omega, states_ok hO.i, moves_okF hO.m, states_ok hO.o, fun H8 keep g => ⟨rfl, ?_⟩⟩
    · show PyData.bulkAll _ ≤ 500000
      have := nats_bulk pl.ins; omega
    · show PyData.bulkAll _ ≤ 500000
      have := moves_bulkF hO.m; omega
    · show PyData.bulkAll _ ≤ 500000
      have := nats_bulk pl.outs; omega
    · have nx1 : H x = none := (s1.trans s26).free nx
      have s18 : Same H H8 := fun b o e => keep b o (ne_of_none e nx1) (s7 _ _ (s26 _ _ (s1 _ _ e)))
      have k78 : ∀ {v : V} {ds : List PyData}, Dq K H6 v (.tuple ds) → Dq K H8 v (.tuple ds) := fun h => h.up (fun b o e => keep b o (ne_of_none e nx) (s7 b o e))
      have ref_of : ∀ {v : V} {ds : List PyData}, Dq K H7 v (.tuple ds) → ∃ a, v = .ref a := fun h => by cases h with | tup _ _ => exact ⟨_, rfl⟩
      obtain ⟨a1, rfl⟩ := ref_of d1
      obtain ⟨a3, rfl⟩ := ref_of d3
      exact kQ x H8 s18 nx1 ⟨dx, a1, tp, a3, g, k78 ((db.up (s4.trans s5)).up s6), k78 (.tup (stOf g6) (du.up s6)), k78 ((de.up s5).up s6)⟩
end
end KP
/-! Comprehensions whose element may raise. -/
namespace EL
open PySem PySem.Spec PyProof.Rows L2
theorem note_as {u : Value} {e1 e2 : Env} (h : e1.frame = e2.frame) : noteFrame u e1 = noteFrame u e2 := by
  unfold noteFrame PySem.frameOf
  rw [h]
/-- what is wished behind a block; of an error: it goes on behind the letting go -/
def PostX (M : Model) (A : Around) (E : Value → Shared → Prop) (use : Option (Value → Sem Unit)) (Q : Value → Shared → Prop) (acc : Value) (ce : Env) (r : Result) (s' : Shared) : Prop := match r with
  | .ok f => compPost M A E use Q acc ce.locals (.ok f) s'
  | .error x => ∃ m, s'.heap.Ns ce.locals m ∧
      ∀ h', Heap.SameBut ce.locals s'.heap h' → wpAny M A (passOn "comprehension.variables-let-go" x ce : Sem Value) (fun _ _ => False) E { s' with heap := h' }
section
variable {M : Model} {A : Around} {E : Value → Shared → Prop} {s : Shared} {env : Env}
theorem comp_raises {e : Expr} {scope : Scope} {pos : Pos} {newAcc first : Sem Value} {g : Comprehension} {gs : List Comprehension} {cl : List (Str × Addr)} {use : Option (Value → Sem Unit)} {Q : Value → Shared → Prop}
    (hcl : clausesOf e = g :: gs)
    (hs : ∀ x, foldedSetIterable g.iter env x = pure x)
    (hclos : closureFor scope env = pure cl)
    (hkind : scope.kind = .function)
    (hnames : ∀ x ∈ scope.names, x.2 = .local → scope.names.lookup x.1 = some .local)
    (h : wpAny M A first (fun x s₁ => wpAny M A (pyIter x) (fun it s₂ => wpAny M A newAcc (fun acc s₃ => wpAny M A (newFunctionEnv scope env.globals cl [] env.qual none .none (some env)) (fun cenv s₄ =>
      codeAny M A (.compStart e 0 it acc { cenv with scope := relabel scope env })
        (PostX M A E use Q acc { cenv with scope := relabel scope env }) s₄) E s₃) E s₂) E s₁) E s) :
    wpAny M A (comprehension e scope env pos newAcc false first use) Q E s := by
  unfold comprehension
  rw [hclos, hcl]
  refine wpAny_bind (wpAny_mono h (fun x s₁ h₁ => ?_) fun _ _ h' => h')
  refine wpAny_bind (wpAny_standAt (wpAny_bind (wpAny_of_eq (hs x) ?_)))
  refine wpAny_bind (wpAny_holding (wpAny_mono h₁ (fun it s₂ h₂ => ?_) fun _ _ h' => h'))
  refine wpAny_standIf (wpAny_bind (wpAny_mono h₂ (fun acc s₃ h₃ => ?_) fun _ _ h' => h'))
  refine wpAny_bind (wpAny_pure (wpAny_bind (wpAny_mono h₃ (fun cenv s₄ h₄ => ?_) fun _ _ h' => h')))
  dsimp only
  generalize hvs : (scope.names.filter fun x => (x.2 == .local || x.2 == .cell) && x.1 != (".0" : Str)) = vs
  have kd : ∀ x ∈ vs, x.2 = .local → Env.kindOf { cenv with scope := relabel scope env } x.1 = some .local := fun x hx hl =>
    lookup_relabel_local (hnames x (List.mem_filter.mp (by rw [hvs]; exact hx)).1 hl)
  have kr : ∀ x ∈ vs.reverse, x.2 = .local → Env.kindOf { cenv with scope := relabel scope env } x.1 = some .local := fun x hx => kd x (List.mem_reverse.mp hx)
  have kt : ∀ x ∈ vs.reverse.drop 1 ++ vs.reverse.take 1, x.2 = .local → Env.kindOf { cenv with scope := relabel scope env } x.1 = some .local := fun x hx =>
    (List.mem_append.mp hx).elim (fun z => kr x (List.mem_of_mem_drop z)) fun z => kr x (List.mem_of_mem_take z)
  refine wpAny_holding (wpAny_bind (wpAny_attempt (wpAny_holding (wpAny_run (codeAny_mono h₄ fun r s' hr => ?_)))))
  match r, use, hr with
  | .ok f, none, hr =>
    obtain ⟨m, hn, hr⟩ := hr
    refine wpAny_bind (wpAny_holding ?_)
    exact wpAny_comp_letGo (cenv := { cenv with scope := relabel scope env }) hkind _ s' m kr hn fun h' m' _ hs' => wpAny_pure (hr h' hs')
  | .ok f, some u, hr =>
    refine wpAny_bind (wpAny_rule (wpAny_bind (wpAny_holding (wpAny_mono hr (fun _ s'' hr' => ?_) fun _ _ h' => h'))))
    obtain ⟨m, hn, hr'⟩ := hr'
    refine wpAny_bind ?_
    exact wpAny_comp_letGo (cenv := { cenv with scope := relabel scope env }) hkind _ s'' m kt hn fun h' m' _ hs' => wpAny_pure (hr' h' hs')
  | .error x, none, hr =>
    obtain ⟨m, hn, hr⟩ := hr
    refine wpAny_bind (wpAny_holding ?_)
    exact wpAny_comp_letGo (cenv := { cenv with scope := relabel scope env }) hkind _ s' m kr hn fun h' m' _ hs' => wpAny_mono (hr h' hs') (fun _ _ f => f.elim) fun _ _ y => y
  | .error x, some _, hr =>
    obtain ⟨m, hn, hr⟩ := hr
    refine wpAny_bind (wpAny_holding ?_)
    exact wpAny_comp_letGo (cenv := { cenv with scope := relabel scope env }) hkind _ s' m kr hn fun h' m' _ hs' => wpAny_mono (hr h' hs') (fun _ _ f => f.elim) fun _ _ y => y
end
theorem ff_but {h h' base : Heap} : ∀ {l : List Env}, (∀ b ∈ frs l, ∀ o, h.get? b = some o → h'.get? b = some o) → h.FunFrames base l → h'.FunFrames base l
  | [], _, _ => trivial
  | env :: l, k, ff => by
    obtain ⟨hk, ⟨L, o, hf, hn, ho, hd⟩, hr⟩ := ff
    exact ⟨hk, ⟨L, o, hf, hn, k L (List.mem_filterMap.mpr ⟨env, List.mem_cons_self, hf⟩) o ho, hd⟩, ff_but (fun b hb => k b (by
      obtain ⟨e, he, q⟩ := List.mem_filterMap.mp hb
      exact List.mem_filterMap.mpr ⟨e, List.mem_cons_of_mem _ he, q⟩)) hr⟩
section
variable {X : Cx}
/-- the block's own wish: what calls within let out -/
def BlkE (X : Cx) (s : Shared) (H : Hp) (scope : Scope) (ce : Env) (fp : List Addr) (E : XK) : Value → Shared → Prop := fun e s' =>
  ∃ (σ' : L2.St) (H' : Hp) (s1 : Shared), Inv (X.blk s H scope ce fp) [] σ' H' s1 ∧ L2.CX X.prog X.w X.stack H' s1 E e s'
/-- the context of such a block -/
abbrev Cx.blkX (X : Cx) (s : Shared) (H : Hp) (scope : Scope) (ce : Env) (fp : List Addr) (E : XK) : Cx := (X.blk s H scope ce fp).tr [] (BlkE X s H scope ce fp E)
theorem blk_passes {s : Shared} {H : Hp} {scope : Scope} {ce : Env} {fp : List Addr} {E : XK} (ok : (X.blk s H scope ce fp).Ok) : Passes (L2.CX X.prog X.w) (Cx.blkX X s H scope ce fp E) E := fun pins σ' H' s1 e s' I c =>
  ⟨σ', H', s1, Inv.ofTry (X := X.blk s H scope ce fp) (pins := []) I ok, c⟩
/-- .. it goes on in the def -/
theorem blk_out {E : XK} {s3 : Shared} {H3 : Hp} {σ : L2.St} {pins : List (Addr × Obj)} {scope : Scope} {ce : Env} {fp : List Addr} {use : Option (Value → Sem Unit)} {Qf : Value → Shared → Prop} {acc : Value}
    (hs : X.stack = X.env :: X.outer) (hf : X.env.frame = some X.env.locals) (tk : Takes X (fun cls d _ H => E cls d H)) (I3 : Inv X pins σ H3 s3) (fr : ce.frame = X.env.frame) (cL : ce.locals = s3.heap.objs.size)
    (f3 : ∀ b ∈ fp, FpOk X pins H3 b ∧ b < s3.heap.objs.size) (u : Value) (s' : Shared) (q : BlkE X s3 H3 scope ce fp E u s') :
    notedBy (model X.prog X.w) X.A ce (fun e s'' => PostX (model X.prog X.w) X.A X.xe use Qf acc ce (.error e) s'') u s' := by
  obtain ⟨σB, HB, sB, IB, a, B, H', cls, d, rfl, fl, hok, ub, na, os, ag, hE⟩ := q
  have hfr : X.A.frames = some (X.env :: X.outer) := by rw [I3.ok.frames, hs]
  show wpAny _ _ (noteFrame (.ref a) ce) _ _ _
  rw [note_as fr]
  refine HandSPX.looks_onZ Zc.steady hfr hf (by rw [← hs]; exact fl) fun h1 hd up1 => ?_
  rw [← hs] at hd
  -- the block's own dict
  obtain ⟨mC, hnC, _⟩ := id IB.loc
  have hnC : sB.heap.Ns ce.locals mC := hnC
  have fC : HB ce.locals = none := IB.free
  rw [cL] at hnC fC
  obtain ⟨oC, esC, epC, gC, restC⟩ := id hnC
  have nCf : s3.heap.objs.size ∉ frs X.stack := fun hm => by
    obtain ⟨_, o, ho, _⟩ := I3.stack.mem hm
    exact absurd (Heap.lt_size ho) (Nat.lt_irrefl _)
  have BC : B.get? s3.heap.objs.size = some oC := ub.keep _ _ gC fC nCf
  obtain ⟨st, hBa, ff, tr⟩ := hd
  refine ⟨mC, by rw [cL]; exact ⟨oC, esC, epC, st _ _ BC, restC⟩, fun h' sb => ?_⟩
  rw [cL] at sb
  generalize hC : s3.heap.objs.size = C at *
  obtain ⟨B', b1, b2⟩ := restrict B fun b => decide (b ≠ C)
  have bne : ∀ b, b ≠ C → B'.get? b = B.get? b := fun b hb => b1 b (decide_eq_true hb)
  have bC : B'.get? C = none := b2 C (by simp)
  have bsub : ∀ b o, B'.get? b = some o → B.get? b = some o ∧ b ≠ C := fun b o e => by
    by_cases hb : b = C
    · rw [hb, bC] at e; cases e
    · exact ⟨(bne b hb).symm.trans e, hb⟩
  have aC : a ≠ C := fun z => by rw [z, BC] at hBa; cases hBa
  obtain ⟨oe, vs, T, oT, ts, he, hz, hdd, h1', hnT, hTe, hT, hdT, h3'⟩ := tr
  have TC : T ≠ C := fun z => by rw [z, BC] at hnT; cases hnT
  have held : HandSPX.HeldZ B' X.stack a (Zc cls d) X.env.locals h' := by
    refine ⟨fun b o e => ?_, ?_, ?_, oe, vs, T, oT, ts, (sb.2 a aC).trans he, hz, hdd, h1', by rw [bne T TC]; exact hnT, hTe, (sb.2 T TC).trans hT, hdT, h3'⟩
    · obtain ⟨e1, e2⟩ := bsub b o e
      exact (sb.2 b e2).trans (st b o e1)
    · rw [bne a aC]; exact hBa
    · refine ff_but (fun b hb o e => (sb.2 b (fun z => nCf (z ▸ hb))).trans e) (funFrames_none ff fun L hL => ?_)
      cases e : B'.get? L with
      | none => rfl
      | some o =>
        have := (ff.mem hL).1
        rw [(bsub L o e).1] at this; cases this
  unfold PySem.passOn
  refine wpAny_bind (wpAny_field ((sb.2 a aC).trans he) hdd h1' ?_)
  rw [if_neg (by simp)]
  have fin : wpAny (model X.prog X.w) X.A (setFlight (.ref a) ce.frame) (fun _ s4 => wpAny (model X.prog X.w) X.A (throw (.ref a) : Sem Value) (fun _ _ => False) X.xe s4) X.xe { ({ s' with heap := h1 } : Shared) with heap := h' } := by
    rw [fr, hf]
    refine HandSPX.setFlight_onZ held fun h4 hh4 up4 => wpAny_throw (tk _ _ ?_)
    obtain ⟨G, g1, g2⟩ := restrict h4 fun b => (B'.get? b).isSome || decide (b ∈ frs X.stack)
    have gB : ∀ b o, B'.get? b = some o → G.get? b = some o := fun b o e => by
      rw [g1 b (by simp [e])]
      exact hh4.1 b o e
    have gF : ∀ b, b ∈ frs X.stack → G.get? b = h4.get? b := fun b hb => g1 b (by simp [hb])
    have og : ∀ b o, G.get? b = some o → h4.get? b = some o ∧ ((B'.get? b).isSome = true ∨ b ∈ frs X.stack) := fun b o e => by
      cases q : ((B'.get? b).isSome || decide (b ∈ frs X.stack)) with
      | false => rw [g2 b q] at e; cases e
      | true =>
        rw [g1 b q] at e
        exact ⟨e, by simpa [Bool.or_eq_true] using q⟩
    have hHC : H' C = none := ub.free C oC gC fC
    have bs : ∀ b o, s3.heap.get? b = some o → b ≠ C := fun b o e z => by
      have := Heap.lt_size e
      rw [z, ← hC] at this
      exact absurd this (Nat.lt_irrefl _)
    have IBb := IB.base
    have exB : ∀ b, b ∉ fp → b ∉ (X.blk s3 H3 scope ce fp).ex := fun b h => h
    have slots : ∀ b o, s3.heap.get? b = some o → b ∈ frs X.stack → b ∉ fp → ∃ sl, G.get? b = some { o with slots := sl } := fun b o e hb hx => by
      have nf : ∀ vs, o.data ≠ .fields vs := by
        obtain ⟨_, o', e', h⟩ := I3.stack.mem hb
        rw [e] at e'; cases e'
        exact h
      obtain ⟨sl1, e1⟩ := IBb.slot b o e (I3.stkFree b hb) hb hx
      obtain ⟨sl2, e2⟩ := ub.slot b _ e1 hb
      obtain ⟨sl3, e3⟩ := up1 b _ e2 nf
      have e3 : h1.get? b = some { o with slots := sl3 } := e3
      have e4 : h'.get? b = some { o with slots := sl3 } := (sb.2 b (bs b o e)).trans e3
      obtain ⟨sl4, e5⟩ := up4 b _ e4 nf
      exact ⟨sl4, by rw [gF b hb]; exact e5⟩
    have J : Inv X pins σ H' { s' with heap := G } := by
      refine I3.call' (ch := fp) (os.trans IB.os) ⟨fun b o e n hb hx => ?_, fun b o e n hb hx => slots b o e hb hx, fun b o e n hx => ?_, fun b o e hx => ?_, fun b xs e => ub.tups _ _ (IBb.tups _ _ e), fun b o' u' e => ub.frzs _ _ _ (IBb.frzs _ _ _ e), fun b ps e => ?_⟩ ?_ ag fun b hb => ⟨(f3 b hb).1.2.2.2.1, (f3 b hb).1.2.1, (f3 b hb).1.2.2.2.2.1, (f3 b hb).1.2.2.2.2.2⟩
      · refine gB b o ?_
        rw [bne b (bs b o e)]
        exact ub.keep b o (IBb.keep b o e n hb hx) (IBb.free b o e n hx) hb
      · obtain ⟨o', e1⟩ := IBb.there b o e hx
        exact ub.free b o' e1 (IBb.free b o e n hx)
      · by_cases hb : b ∈ frs X.stack
        · obtain ⟨sl, e1⟩ := slots b o e hb hx
          exact ⟨_, e1⟩
        · obtain ⟨o', e1⟩ := IBb.there b o e hx
          obtain ⟨o2, e2⟩ := ub.there b o' e1 hb
          exact ⟨o2, gB b o2 (by rw [bne b (bs b o e)]; exact e2)⟩
      · obtain ⟨m1, e1⟩ := IBb.tbls _ _ e
        obtain ⟨m2, e2⟩ := ub.tbls _ _ e1
        exact ⟨m1 ++ m2, by rw [e2]; simp⟩
      · refine fun b o e => (hok b o e).stay (fun c v hc r => gB c v ?_) (fun _ r => r) fun _ _ r => r
        rw [bne c ?_]
        · exact r
        · rintro rfl
          rcases hc with z | z
          · rw [← z, hHC] at e; cases e
          · rw [hHC] at z; cases z
    exact ⟨a, B', { s' with heap := G }, pins, σ, H', cls, d, rfl, J, fun b o e hb => by
      obtain ⟨e', h⟩ := og b o e
      rcases h with h | h
      · obtain ⟨o', q⟩ := Option.isSome_iff_exists.mp h
        have z := hh4.1 b o' q
        rw [e'] at z; cases z
        exact q
      · exact absurd h hb, Heap.UpToSlots.of_keeps fun b o e => (og b o e).1, .inr (.inr hh4), na, rfl, ag, hE⟩
  first
    | exact wpAny_bind (wpAny_pure (wpAny_bind fin))
    | exact wpAny_bind fin
end
end EL
/-! A list comprehension whose element may raise: as a value, and stored on its own line. -/
namespace EL
open PySem PySem.Spec PyProof.Rows L2
section
variable {X : Cx}
theorem lcX_core {pins : List (Addr × Obj)} {s : Shared} {σ : L2.St} {H : Hp} {Q : VK} {E : XK} {elt tg iter : Expr} {ifs : List Expr} {scope : Scope} {own : List (Str × Nat)} {pos pos' : Pos} {wi : TI} {g : TG} {tt : TT} {te : TE} {use : Option (Value → Sem Unit)} {Qf : Value → Shared → Prop}
    (hst : X.stack = X.env :: X.outer) (hf : X.env.frame = some X.env.locals) (tk : Takes X (fun cls d _ H => E cls d H))
    (hc : X.calm = true) (hN : X.N.Nodup) (I : Inv X pins σ H s) (hi : PI X tg iter wi)
    (ok : BlkOk X.N X.env.scope scope own)
    (hg : ∀ (s : Shared) (H : Hp) (C : Addr) (cl : List (Str × Addr)) (fp : List Addr), PG (Cx.blkX X s H scope (compEnvC scope cl C X.env) fp E) tg g)
    (ht : ∀ (s : Shared) (H : Hp) (C : Addr) (cl : List (Str × Addr)) (fp : List Addr), PTs (Cx.blkX X s H scope (compEnvC scope cl C X.env) fp E) ifs tt)
    (he : ∀ (s : Shared) (H : Hp) (C : Addr) (cl : List (Str × Addr)) (fp : List Addr), Passes (L2.CX X.prog X.w) (Cx.blkX X s H scope (compEnvC scope cl C X.env) fp E) E → PE (Cx.blkX X s H scope (compEnvC scope cl C X.env) fp E) elt te)
    (hs : ∀ x, foldedSetIterable iter X.env x = pure x)
    (h : tLc wi g tt te (own.map (·.2)) σ H Q)
    (hRR : ∀ D C s' m H', Inv X pins σ H' s' → Q (.ref D) H' → s'.heap.Ns C m → FpOk X pins H' C → compPost (model X.prog X.w) X.A X.xe use Qf (.ref D) C (.ok .next) s') :
    wpAny (model X.prog X.w) X.A (comprehension (.ListComp elt [⟨tg, iter, ifs, 0⟩] scope pos) scope X.env pos' (newList []) false (eval iter X.env) use) Qf X.xe s := by
  have hfree : ∀ y ∈ scope.names, y.2 = .free → ∃ c, X.env.cells.lookup y.1 = some c := fun y hy e => (ok.free y hy e).elim (fun k => I.ok.has _ (.inl k)) fun k => I.ok.has _ (.inr k)
  refine comp_raises (use := use) rfl hs (closure_ok hfree) ok.kind (fun y hy e => by rw [ok.uniq y hy, e]) (thn (hi.run pins s σ H _ I h) fun xv s1 hx => thn hx fun itv s2 h2 => ?_)
  obtain ⟨it, fp, tn, J, H2, e, I2, T, st2, f2, q⟩ := h2
  subst e
  refine wpAny_newObj_type (newEnv_comp ?_) (by show 0 ≤ sizeLine; decide)
  generalize hD : s2.heap.objs.size = D
  have hDn : H2 D = none := I2.hok.fresh (Nat.le_of_eq hD)
  obtain ⟨W, ⟨m0, w0⟩, turn⟩ := q D hDn
  obtain ⟨s3, hs3⟩ : ∃ s3 : Shared, s3 = { s2 with heap := s2.heap.push { cls := .type "list", data := .seq ([] : List Value).toArray } } := ⟨_, rfl⟩
  have h3 : s3.heap = s2.heap.push { cls := .type "list", data := .seq ([] : List Value).toArray } := by rw [hs3]
  have I3 : Inv X pins σ (upd H2 D (.lst [])) s3 := by
    rw [hs3]
    refine I2.laid (t' := s2.toks) (fun b o e => Heap.get?_push_of_some _ e) (Nat.le_of_eq hD) ⟨Nat.zero_le _, [], 0, .nil, ?_⟩
    rw [← hD]
    exact Heap.get?_push_size _ rfl
  rw [← hs3]
  have sz : ∀ b ∈ fp, b < s2.heap.objs.size := fun b hb => let ⟨o, e, _⟩ := T.obj _ _ st2 b hb; Heap.lt_size e
  have f3 : ∀ b ∈ fp, FpOk X pins (upd H2 D (.lst [])) b ∧ b < s3.heap.objs.size := fun b hb => by
    have hlt := sz b hb
    refine ⟨⟨?_, (f2 b hb).2⟩, by rw [h3, Heap.size_push]; exact Nat.lt_succ_of_lt hlt⟩
    rw [upd_ne (by rw [← hD]; exact Nat.ne_of_lt hlt)]
    exact (f2 b hb).1
  have st3 : tn 0 s3.heap := T.keep _ _ _ st2 fun b _ o e => by rw [h3]; exact Heap.get?_push_of_some _ e
  have I4 := block_start I3 ok hN f3
  have pg := hg s3 (upd H2 D (.lst [])) s3.heap.objs.size (cellsFrom (s3.heap.objs.size + 1) scope.names (cloFrom X.env.cells scope.names [])) fp
  have pt := ht s3 (upd H2 D (.lst [])) s3.heap.objs.size (cellsFrom (s3.heap.objs.size + 1) scope.names (cloFrom X.env.cells scope.names [])) fp
  have pe := he s3 (upd H2 D (.lst [])) s3.heap.objs.size (cellsFrom (s3.heap.objs.size + 1) scope.names (cloFrom X.env.cells scope.names [])) fp (blk_passes I4.ok)
  have nfp : ∀ b ∈ fp, (upd H2 D (.lst [])) b = none := fun b hb => (f3 b hb).1.1
  show codeAny _ _ (.compStart (.ListComp elt [⟨tg, iter, ifs, 0⟩] scope pos) 0 (.ref it) (.ref D) (compEnvC scope (cellsFrom (s3.heap.objs.size + 1) scope.names (cloFrom X.env.cells scope.names [])) s3.heap.objs.size X.env))
    (PostX (model X.prog X.w) X.A X.xe use Qf (.ref D) (compEnvC scope (cellsFrom (s3.heap.objs.size + 1) scope.names (cloFrom X.env.cells scope.names [])) s3.heap.objs.size X.env)) { s3 with heap := pushCells (s3.heap.push { cls := .type "dict", data := .dict #[] }) scope.names }
  generalize hce : compEnvC scope (cellsFrom (s3.heap.objs.size + 1) scope.names (cloFrom X.env.cells scope.names [])) s3.heap.objs.size X.env = ce at I4 pg pt pe ⊢
  have cL : ce.locals = s3.heap.objs.size := by rw [← hce]; rfl
  have cF : ce.frame = X.env.frame := by rw [← hce]; rfl
  generalize upd H2 D (.lst []) = H3 at I3 I4 pg pt pe w0 nfp f3
  obtain ⟨s4, hs4⟩ : ∃ s4 : Shared, s4 = { s3 with heap := pushCells (s3.heap.push { cls := .type "dict", data := .dict #[] }) scope.names } := ⟨_, rfl⟩
  rw [← hs4] at I4 ⊢
  have st4 : tn 0 s4.heap := T.keep _ _ _ st3 fun b _ o e => by rw [hs4]; exact pushCells_keeps _ _ _ _ (Heap.get?_push_of_some _ e)
  have okB := I4.ok
  have Z4 : Inv (Cx.blkX X s3 H3 scope ce fp E) [] (wipe σ (own.map (·.2))) H3 s4 := Inv.toTry (X := X.blk s3 H3 scope ce fp) (pins := []) I4 _
  have back : ∀ {pp : List (Addr × Obj)} {σ' : L2.St} {H' : Hp} {s' : Shared}, Inv (Cx.blkX X s3 H3 scope ce fp E) pp σ' H' s' → Inv (X.blk s3 H3 scope ce fp) [] σ' H' s' := fun I' => Inv.ofTry (X := X.blk s3 H3 scope ce fp) (pins := []) I' okB
  have stat : ∀ {σ' : L2.St} {H' : Hp} {s' : Shared}, Inv (Cx.blkX X s3 H3 scope ce fp E) [] σ' H' s' → (∀ b ∈ fp, H' b = none) → ∀ b ∈ fp, FpOk (Cx.blkX X s3 H3 scope ce fp E) [] H' b := fun {σ' H' s'} I' hn b hb =>
    ⟨hn b hb, (I'.ok.exf b hb).1, I'.ok.exfs b hb, .inl hb, fun x c e => (I'.ok.exf b hb).2 x c e, fun p hp => absurd (show p ∈ ([] : List (Addr × Obj)) ++ [] from hp) (by simp)⟩
  have out := blk_out (use := use) (Qf := Qf) (acc := .ref D) (scope := scope) hst hf tk I3 cF cL f3
  have no : ∀ {α : Type} {t : Sem α} {Q1 Q2 : α → Shared → Prop} {s' : Shared}, wpAny (model X.prog X.w) X.A t Q1 (BlkE X s3 H3 scope ce fp E) s' → (∀ x s, Q1 x s → Q2 x s) →
      wpAny (model X.prog X.w) X.A t Q2 (notedBy (model X.prog X.w) X.A ce fun e s'' => PostX (model X.prog X.w) X.A X.xe use Qf (.ref D) ce (.error e) s'') s' := fun hh hq => wpAny_mono hh hq fun u s'' q => out u s'' q
  have loop : codeAny (model X.prog X.w) X.A (.compLoop (.ListComp elt [⟨tg, iter, ifs, 0⟩] scope pos) 0 (.ref it) (.ref D) ce) (PostX (model X.prog X.w) X.A X.xe use Qf (.ref D) ce) s4 := by
    refine compLoop_any (fun n s' => ∃ i H', Inv (Cx.blkX X s3 H3 scope ce fp E) [] (wipe σ (own.map (·.2))) H' s' ∧ tn i s'.heap ∧ (∀ b ∈ fp, H' b = none) ∧ W i n H') ?_ m0 ⟨0, H3, Z4, st4, nfp, w0⟩
    rintro n s5 ⟨i, H5, I5, st5, n5, w5⟩
    rcases turn i n H5 w5 with ⟨stop, qq⟩ | ⟨go, Nx, hNx, step⟩
    · have td := T.done (Cx.blkX X s3 H3 scope ce fp E) rfl rfl rfl hc i [] s5 _ H5 (fun _ _ => False) I5 (stat I5 n5) st5 stop
      refine thnF td fun r s6 ⟨hr, I6⟩ => ?_
      subst hr
      have I6 := back I6
      have I7 : Inv X pins σ H5 s6 := I3.call' (ch := fp) I6.os I6.base I6.hok I6.bare fun b hb => let z := (f3 b hb).1.2; ⟨z.2.2.1, z.1, z.2.2.2.1, z.2.2.2.2⟩
      have z : H5 ce.locals = none := I6.free
      obtain ⟨m, hn, _⟩ := I6.loc
      have hn : s6.heap.Ns ce.locals m := hn
      show compPost _ _ _ _ _ _ _ _ _
      rw [cL] at z hn ⊢
      exact hRR D s3.heap.objs.size s6 m H5 I7 qq hn (I3.fpOk (Nat.le_refl _) z)
    · have ti := T.item (Cx.blkX X s3 H3 scope ce fp E) rfl rfl rfl hc i [] s5 _ H5 (fun _ _ => False) I5 (stat I5 n5) st5 go
      refine thnF ti fun r s6 ⟨u, hr, h6⟩ => ?_
      subst hr
      refine thnF h6 fun _ s7 ⟨x, H7, I7, r7, y7, st7, n7⟩ => ?_
      have I7' := I7.pinned (stat I7 n7) (T.obj _ _ st7)
      refine no (pg.run _ s7 _ H7 x u _ I7' r7 (step x H7 y7)) fun _ s8 ⟨σ8, H8, I8, hw8, q8⟩ => ?_
      refine no (pt.run _ s8 σ8 H8 _ I8 q8) fun b s9 ⟨H9, I9, q9⟩ => ?_
      have fin : ∀ {s' : Shared} {H' : Hp}, Inv (Cx.blkX X s3 H3 scope ce fp E) ([] ++ pinsAt fp s7.heap) σ8 H' s' → Nx H' →
          ∃ m, m < n ∧ ∃ i H', Inv (Cx.blkX X s3 H3 scope ce fp E) [] (wipe σ (own.map (·.2))) H' s' ∧ tn i s'.heap ∧ (∀ b ∈ fp, H' b = none) ∧ W i m H' := fun {s' H'} I' nx => by
        obtain ⟨m', hm, w'⟩ := hNx H' nx
        have pin' : ∀ b ∈ fp, ∀ o, s7.heap.get? b = some o → s'.heap.get? b = some o ∧ H' b = none := fun b hb o e => by
          have z := I'.pin (b, o) (List.mem_append_right _ (List.mem_append_right _ (mem_pinsAt hb e)))
          exact ⟨z.1, z.2.1⟩
        refine ⟨m', hm, i + 1, H', (I'.unpinned (pins := [])).weak (by rw [← hw8, wipe_length]) (fun j v e => by rw [← hw8] at e; exact (wipe_some e).1), T.keep _ _ _ st7 fun b hb o e => (pin' b hb o e).1, fun b hb => ?_, w'⟩
        obtain ⟨o, e, _⟩ := T.obj _ _ st7 b hb
        exact (pin' b hb o e).2
      cases b with
      | false =>
        rw [if_neg (by decide)] at q9 ⊢
        exact fin I9 q9
      | true =>
        rw [if_pos rfl] at q9 ⊢
        refine no (pe.run _ s9 σ8 H9 _ I9 q9) fun z s10 ⟨yv, H10, I10, r10, acc, hD10, hz10, nx⟩ => ?_
        exact app_ok (X := Cx.blkX X s3 H3 scope ce fp E) I10 hD10 hz10 r10 fun s11 I11 => fin I11 nx
  exact codeAny_compStart_list loop (T.self X.A 0 _ _ _ st4 loop)
theorem ps_setLcX {i : Nat} {y : Str} {py : Pos} {E : XK} {elt tg iter : Expr} {ifs : List Expr} {scope : Scope} {own : List (Str × Nat)} {pos spos : Pos} {wi : TI} {g : TG} {tt : TT} {te : TE}
    (hst : X.stack = X.env :: X.outer) (hf : X.env.frame = some X.env.locals) (tk : Takes X (fun cls d _ H => E cls d H))
    (hc : X.calm = true) (hN : X.N.Nodup) (hy : X.N[i]? = some y) (hyl : X.env.scope.names.lookup y = some .local)
    (hsw : swapsWith (.ListComp elt [⟨tg, iter, ifs, 0⟩] scope pos) (some (.Name y py)) spos.line X.env = pure true) (hi : PI X tg iter wi)
    (ok : BlkOk X.N X.env.scope scope own)
    (hg : ∀ (s : Shared) (H : Hp) (C : Addr) (cl : List (Str × Addr)) (fp : List Addr), PG (Cx.blkX X s H scope (compEnvC scope cl C X.env) fp E) tg g)
    (ht : ∀ (s : Shared) (H : Hp) (C : Addr) (cl : List (Str × Addr)) (fp : List Addr), PTs (Cx.blkX X s H scope (compEnvC scope cl C X.env) fp E) ifs tt)
    (he : ∀ (s : Shared) (H : Hp) (C : Addr) (cl : List (Str × Addr)) (fp : List Addr), Passes (L2.CX X.prog X.w) (Cx.blkX X s H scope (compEnvC scope cl C X.env) fp E) E → PE (Cx.blkX X s H scope (compEnvC scope cl C X.env) fp E) elt te)
    (hs : ∀ x, foldedSetIterable iter X.env x = pure x := by intro _; rfl) :
    PS X (.Assign [.Name y py] (.ListComp elt [⟨tg, iter, ifs, 0⟩] scope pos) spos) (tAsg (tLc wi g tt te (own.map (·.2))) (gName i)) := by
  refine ⟨fun pins s σ H D I h => ?_⟩
  rw [exec_Assign_Name_used _ _ _ _ hsw]
  refine wpAny_bind (wpAny_standAt (wpAny_bind ?_))
  have h : tLc wi g tt te (own.map (·.2)) σ H (fun x H1 => gName i x σ H1 D.nx) := h
  refine wpAny_bind (thn (lcX_core (E := E) (Qf := fun _ s' => SP X pins D .next s') hst hf tk hc hN I hi ok hg ht he hs h fun L C s' m H' I' q hn f => ?_) fun _ s' hq => wpAny_pure (wpAny_pure hq))
  refine wpAny_assign_Name (store_ok2 (v := V.ref L) I' hN hy (.inl hyl) rfl (fun s2 I2 ⟨a, sb, ha⟩ => ?_) (.inr hyl))
  obtain ⟨f0, f1, f2, f3, f4, f5⟩ := f
  have haC : C ≠ a := ha.elim (fun z => by rw [z]; exact f1) fun z e => f4 y a z e.symm
  exact ⟨m, hn.sameBut sb haC, fun h3 sb3 => ⟨_, H', I2.turned (t' := s2.toks) (fun b o hb e => (sb3.2 b hb).trans e) f0 f1 f3 f4 f5, q⟩⟩
end
end EL
namespace KP
open PySem PySem.Spec PyProof.Rows L2 EL
open Evl (pss_cut)
open TL
/-! ### what a text says, or the first line that says nothing -/
def movesT (ls : List Str) (n : Nat) : Nat → Nat → List Mv ⊕ Nat
  | _, 0 => .inl []
  | i, k + 1 => match moveAt ls i n with
    | none => .inr (i + 1)
    | some m => match movesT ls n (i + 1) k with
      | .inr l => .inr l
      | .inl ms => .inl (m :: ms)
def outL (ls : List Str) : Plan ⊕ Nat := match sizeAt ls 0 "pacer" with
  | none => .inr 1
  | some n => match statesAt ls 1 "begins" n with
    | none => .inr 2
    | some i => match statesAt ls 2 "ends" n with
      | none => .inr 3
      | some o => match movesT ls n 3 (ls.length - 3) with
        | .inr l => .inr l
        | .inl ms => .inl ⟨n, i, ms, o⟩
def outT (t : Str) : Plan ⊕ Nat := outL (linesOf t)
theorem movesT_bad {ls : List Str} {n : Nat} : ∀ {j i k : Nat}, (∀ x < j, ∃ m, moveAt ls (i + x) n = some m) → moveAt ls (i + j) n = none → j < k → movesT ls n i k = .inr (i + j + 1)
  | _, _, 0, _, _, h => by omega
  | 0, i, k + 1, _, h2, _ => by unfold movesT; rw [Nat.add_zero] at h2; rw [h2]
  | j + 1, i, k + 1, h1, h2, h3 => by
    obtain ⟨m, hm⟩ := h1 0 (by omega)
    rw [Nat.add_zero] at hm
    have ih := movesT_bad (ls := ls) (n := n) (j := j) (i := i + 1) (k := k) (fun x hx => by have := h1 (x + 1) (by omega); rw [show i + 1 + x = i + (x + 1) by omega]; exact this) (by rw [show i + 1 + j = i + (j + 1) by omega]; exact h2) (by omega)
    unfold movesT
    simp only [hm, ih]
    rw [show i + 1 + j + 1 = i + (j + 1) + 1 by omega]
theorem movesT_good {ls : List Str} {n : Nat} : ∀ {ms : List Mv} {i : Nat}, (∀ (x : Nat) (m : Mv), ms[x]? = some m → moveAt ls (i + x) n = some m) → movesT ls n i ms.length = .inl ms
  | [], _, _ => rfl
  | m :: r, i, h => by
    have h0 := h 0 m rfl
    rw [Nat.add_zero] at h0
    have ih := movesT_good (ls := ls) (n := n) (ms := r) (i := i + 1) fun x m' e => by
      rw [show i + 1 + x = i + (x + 1) by omega]
      exact h (x + 1) m' e
    show movesT ls n i (r.length + 1) = _
    unfold movesT
    rw [h0, ih]
theorem movesT_inl {ls : List Str} {n : Nat} : ∀ {k i : Nat} {ms : List Mv}, movesT ls n i k = .inl ms → ms.length = k ∧ ∀ (x : Nat) (m : Mv), ms[x]? = some m → moveAt ls (i + x) n = some m
  | 0, i, ms, h => by cases h; exact ⟨rfl, fun x m e => by simp at e⟩
  | k + 1, i, ms, h => by
    unfold movesT at h
    cases e : moveAt ls i n with
    | none => rw [e] at h; cases h
    | some m =>
      rw [e] at h
      cases e2 : movesT ls n (i + 1) k with
      | inr l => rw [e2] at h; cases h
      | inl r =>
        rw [e2] at h
        cases h
        obtain ⟨h1, h2⟩ := movesT_inl e2
        refine ⟨by rw [List.length_cons, h1], fun x m' ex => ?_⟩
        cases x with
        | zero => cases ex; exact e
        | succ x =>
          have := h2 x m' ex
          rw [show i + 1 + x = i + (x + 1) by omega] at this
          exact this
theorem len_joinL (y : List Nat) : ∀ ps : List (List Nat), (ps.map List.length).sum ≤ (joinL y ps).length
  | [] => by simp
  | [a] => by simp [joinL]
  | a :: b :: r => by
    have ih := len_joinL y (b :: r)
    show ((a :: b :: r).map List.length).sum ≤ (joinL y (a :: b :: r)).length
    unfold joinL
    simp only [List.map_cons, List.sum_cons, List.length_append] at ih ⊢
    omega
theorem sum_split (t : Str) (c : Nat) : ((Txt.split t ⟨#[c]⟩).map Str.length).sum ≤ t.length := by
  have e := StrLaws.join_split t ⟨#[c]⟩
  have e2 := tl_join (⟨#[c]⟩ : Str) (Txt.split t ⟨#[c]⟩)
  rw [e] at e2
  have := len_joinL (tl (⟨#[c]⟩ : Str)) ((Txt.split t ⟨#[c]⟩).map tl)
  rw [← e2, ← len_tl] at this
  refine Nat.le_trans (Nat.le_of_eq ?_) this
  rw [List.map_map]
  congr 1
theorem moveAt_ok {ls : List Str} {i n : Nat} {m : Mv} (h : moveAt ls i n = some m) : m.s < n ∧ m.t < n ∧ isTextD (.str ⟨m.l.toArray⟩) = true ∧ isTextD (.str ⟨m.r.toArray⟩) = true ∧ ∃ l, ls[i]? = some l ∧ m.l.length + m.r.length ≤ l.length := by
  unfold moveAt at h
  split at h
  · rename_i a b c d hw
    split at h
    · rename_i s l r t h1 h2 h3 h4
      split at h
      · rename_i q
        cases h
        have tb := txt_len h2
        have tc := txt_len h3
        refine ⟨q.1, q.2, tb.2, tc.2, ?_⟩
        unfold wordsAt at hw
        cases e : ls[i]? with
        | none => rw [e] at hw; cases hw
        | some line =>
          rw [e] at hw
          refine ⟨line, rfl, ?_⟩
          dsimp only at hw
          split at hw
          · have hw := Option.some.inj hw
            have sm := sum_split line 32
            have : wordsOf line = Txt.split line ⟨#[32]⟩ := by unfold wordsOf; rw [spS_eq]
            rw [← this] at sm
            cases ew : wordsOf line with
            | nil => rw [ew] at hw; cases hw
            | cons w0 r0 =>
              rw [ew] at hw sm
              have hw : r0 = [a, b, c, d] := hw
              subst hw
              simp only [List.map_cons, List.sum_cons, List.map_nil, List.sum_nil] at sm
              show (tl l).length + (tl r).length ≤ _
              rw [← len_tl, ← len_tl]
              have := tb.1
              have := tc.1
              omega
          · cases hw
      · cases h
    · cases h
  · cases h
theorem bulk_mv (m : Mv) : (mvD m).bulk ≤ m.l.length + m.r.length + 9 := by
  have e1 : (PyData.str ⟨m.l.toArray⟩).bulk = m.l.length := by simp [PyData.bulk, Str.length]
  have e2 : (PyData.str ⟨m.r.toArray⟩).bulk = m.r.length := by simp [PyData.bulk, Str.length]
  show PyData.bulkAll [_, _, _, _] ≤ _
  simp only [PyData.bulkAll, e1, e2]
  simp only [PyData.bulk]; omega
theorem bulk_movesT {ls : List Str} {n : Nat} : ∀ {k i : Nat} {ms : List Mv}, movesT ls n i k = .inl ms → PyData.bulkAll (ms.map mvD) ≤ ((ls.drop i).map Str.length).sum + 10 * k
  | 0, i, ms, h => by cases h; simp [PyData.bulkAll]
  | k + 1, i, ms, h => by
    unfold movesT at h
    cases e : moveAt ls i n with
    | none => rw [e] at h; cases h
    | some m =>
      rw [e] at h
      cases e2 : movesT ls n (i + 1) k with
      | inr l => rw [e2] at h; cases h
      | inl r =>
        rw [e2] at h
        cases h
        have ih := bulk_movesT e2
        obtain ⟨_, _, _, _, l, hl, q⟩ := moveAt_ok e
        obtain ⟨hi, he⟩ := List.getElem?_eq_some_iff.mp hl
        have hb := bulk_mv m
        rw [List.drop_eq_getElem_cons hi, he, List.map_cons, List.map_cons, List.sum_cons]
        simp only [PyData.bulkAll]
        omega
theorem sum_drop : ∀ (l : List Nat) (i : Nat), (l.drop i).sum ≤ l.sum
  | [], i => by simp
  | a :: r, 0 => by simp
  | a :: r, i + 1 => by
    have := sum_drop r i
    simp only [List.drop_succ_cons, List.sum_cons]
    omega
/-- a text that may be read -/
structure TextOk (t : Str) : Prop where
  pg : Page t
  sz : t.length ≤ 1900 ∨ ∃ l, outT t = .inr l
theorem outL_inl {ls : List Str} {pl : Plan} (h : outL ls = .inl pl) : sizeAt ls 0 "pacer" = some pl.wide ∧ statesAt ls 1 "begins" pl.wide = some pl.ins ∧ statesAt ls 2 "ends" pl.wide = some pl.outs ∧ movesT ls pl.wide 3 (ls.length - 3) = .inl pl.ways := by
  unfold outL at h
  cases e1 : sizeAt ls 0 "pacer" with
  | none => rw [e1] at h; cases h
  | some n =>
    rw [e1] at h
    dsimp only at h
    cases e2 : statesAt ls 1 "begins" n with
    | none => rw [e2] at h; cases h
    | some i =>
      rw [e2] at h
      dsimp only at h
      cases e3 : statesAt ls 2 "ends" n with
      | none => rw [e3] at h; cases h
      | some o =>
        rw [e3] at h
        dsimp only at h
        cases e4 : movesT ls n 3 (ls.length - 3) with
        | inr l => rw [e4] at h; cases h
        | inl ms => rw [e4] at h; cases h; exact ⟨rfl, e2, e3, e4⟩
theorem TextOk.bulk {t : Str} (h : TextOk t) {pl : Plan} (e : outT t = .inl pl) : PyData.bulkAll (pl.ways.map mvD) ≤ 500000 ∧ pl.ways.length ≤ 2000 := by
  have hz : t.length ≤ 1900 := h.sz.elim id fun ⟨l, q⟩ => by rw [e] at q; cases q
  obtain ⟨_, _, _, e4⟩ := outL_inl e
  have b := bulk_movesT e4
  have s1 := sum_split t 10
  have e5 : Txt.split t ⟨#[10]⟩ = linesOf t := by unfold linesOf; rw [nlS_eq]
  rw [e5] at s1
  have s2 := sum_drop ((linesOf t).map Str.length) 3
  rw [← List.map_drop] at s2
  have ln : (linesOf t).length ≤ t.length + 2 := by rw [← e5]; exact PyProof.Rows.split_le t ⟨#[10]⟩
  have := (movesT_inl e4).1
  exact ⟨by omega, by omega⟩
theorem TextOk.moves {t : Str} (h : TextOk t) {pl : Plan} (e : outT t = .inl pl) : movesD pl.wide (.tuple (pl.ways.map mvD)) = true := by
  obtain ⟨_, _, _, e4⟩ := outL_inl e
  simp only [movesD]
  refine List.all_eq_true.mpr fun d m => ?_
  obtain ⟨x, hx, rfl⟩ := List.mem_map.mp m
  obtain ⟨j, hj⟩ := List.mem_iff_getElem?.mp hx
  obtain ⟨h1, h2, h3, h4, _⟩ := moveAt_ok ((movesT_inl e4).2 j x hj)
  simp only [moveD, stateD, h3, h4, Bool.and_eq_true, decide_eq_true_eq]
  refine ⟨⟨?_, ?_⟩, trivial, trivial, ?_, ?_⟩ <;> omega
/-- the line that says nothing -/
def lineD : PyData → Option Nat
  | .str t => match outT t with
    | .inr l => some l
    | .inl _ => none
  | _ => some 0
def spReadX (K : PySem.W.Frag) (C CB : Addr) : Sp := fun vs H Q E => ∃ (v : V) (d : PyData), vs = [.ref C, v] ∧ Dq K H v d ∧ (∀ t, d = .str t → TextOk t) ∧
  (∀ t pl, d = .str t → outT t = .inl pl → ∀ x H', Same H H' → H x = none → PacAt K C H' x pl → Q (.ref x) H') ∧ ∀ l, lineD d = some l → badE E CB H l
section
variable {P : Program} {w : World} {K : PySem.W.Frag} {mg : Str → Option Value} {base : Heap}
theorem ok_PacerReadX {f C CB : Addr} {fd : FuncData} {k : Nat} (F : Fun K "read" "Pacer.read" sPacerRead f fd) (nlen : mg "len" = none) (nrange : mg "range" = none) (ntuple : mg "tuple" = none) {tM : Tok} (m_FIRST_MOVE_LINE : mg "FIRST_MOVE_LINE" = some (.int 3 tM))
    (CLinesOf : CalX P w K mg base (k + 1) "lines_of" ["text"] (spLinesOf K CB)) (CSizeAt : CalX P w K mg base (k + 1) "size_at" ["lines", "at", "head"] (spSizeAt K CB)) (CStatesAt : CalX P w K mg base (k + 1) "states_at" ["lines", "at", "head", "size"] (spStatesAt K CB)) (CMoveAt : CalX P w K mg base (k + 1) "move_at" ["lines", "at", "size"] (spMoveAt K CB)) (CC : CalC P w K mg base k C) :
    FnOk P w K mg base (L2.CX P w) (k + 2) f fd ["cls", "text"] (spReadX K C CB) := by
  refine F.okX scPacerRead (fun vs H Q E h => ?_) (fun cdv A outer s H vs Q E hr h => ?_)
  · obtain ⟨v, d, rfl, _⟩ := h; rfl
  · obtain ⟨v, d, rfl, hd, hT, kG, kB⟩ := h
    refine ⟨_, (pss_cons (ps_set (i := 2) scPacerRead.nd rfl (by first | exact Or.inl rfl | exact Or.inr rfl) (pe_calX CLinesOf hr (by rfl) (passes_call (takes_of rfl rfl rfl rfl) (fun _ _ _ _ h => h)) (pa_cons (pv 1) pa_nil)))
      (pss_cons (ps_set (i := 3) scPacerRead.nd rfl (by first | exact Or.inl rfl | exact Or.inr rfl) (pe_calX CSizeAt hr (by rfl) (passes_call (takes_of rfl rfl rfl rfl) (fun _ _ _ _ h => h)) (pa_cons (pv 2) (pa_cons pe_int (pa_cons pe_str pa_nil)))))
      (pss_cons (ps_set (i := 4) scPacerRead.nd rfl (by first | exact Or.inl rfl | exact Or.inr rfl) (pe_calX CStatesAt hr (by rfl) (passes_call (takes_of rfl rfl rfl rfl) (fun _ _ _ _ h => h)) (pa_cons (pv 2) (pa_cons pe_int (pa_cons pe_str (pa_cons (pv 3) pa_nil))))))
      (pss_cons (ps_set (i := 5) scPacerRead.nd rfl (by first | exact Or.inl rfl | exact Or.inr rfl) (pe_calX CStatesAt hr (by rfl) (passes_call (takes_of rfl rfl rfl rfl) (fun _ _ _ _ h => h)) (pa_cons (pv 2) (pa_cons pe_int (pa_cons pe_str (pa_cons (pv 3) pa_nil))))))
      (pss_cons (ps_setLcX (i := 6) (own := [("at", 7)]) (g := (gName 7)) rfl rfl (takes_of rfl rfl rfl rfl) (by rfl) scPacerRead.nd rfl rfl (sw_true rfl rfl rfl (by decide +kernel)) (pi_range2 rfl nrange (pa_cons (pe_glob rfl m_FIRST_MOVE_LINE (show RelV (.int 3) (.int 3 tM) from ⟨_, rfl⟩)) (pa_cons (pe_callB (show CallR _ _ (rLenK K) from call_len) (by rfl) nlen (by decide +kernel) (pa_cons (pv 2) pa_nil)) pa_nil))) (blkOk_by (own := [("at", 7)]) (N := ["cls", "text", "lines", "size", "begins", "ends", "moves", "at"]) (sc := defScope sPacerRead) (by decide +kernel)) (fun _ _ _ _ _ => (pg_name (i := 7) scPacerRead.nd rfl (by first | exact Or.inl rfl | exact Or.inr rfl))) (fun _ _ _ _ _ => pts_nil) (fun _ _ _ _ _ px => (pe_calX CMoveAt hr (by rfl) px (pa_cons (pv 2) (pa_cons (pv 7) (pa_cons (pv 3) pa_nil))))))
      (pss_one (ps_ret (pe_makeL (i := 0) CC.mke CC.ok hr rfl (.inl rfl) CC.b .nil pass0 (pa_cons (pv 3) (pa_cons (pv 4) (pa_cons (pe_callTy call_tuple_of (by rfl) ntuple (by decide +kernel) (pa_cons (pv 6) pa_nil)) (pa_cons (pv 5) pa_nil)))))))))))), ?_⟩
    refine ⟨_, rfl, v, d, rfl, hd, fun t et => ?_, fun z => kB 0 (by cases d with | str t => exact absurd rfl (z t) | _ => rfl)⟩
    subst et
    have ok := hT t rfl
    have pg := ok.pg
    have kG := fun pl => kG t pl rfl
    have kB : ∀ l, outT t = .inr l → badE E CB H l := fun l e => kB l (by show (match outT t with | .inr l => some l | .inl _ => none) = some l; rw [e])
    unfold outT outL at kB
    refine ⟨pg, fun l H1 s1 nl gl => ?_⟩
    have pL := pages_lines pg
    have lit : ∀ z : Str, (tl z).all (· < 128) = true → Low7 z := fun z h c hc => by simpa using List.all_eq_true.mp h c hc
    have up : ∀ {H' n}, Same H H' → badE E CB H n → badE E CB H' n := fun s b => b.up s
    refine ⟨_, rfl, l, linesOf t, 0, "pacer", rfl, sqOf gl, pL, lit _ (by decide +kernel), fun n en n1 n2 H2 s2 => ?_, fun z => up s1 (kB 1 (by rw [z]))⟩
    refine ⟨_, rfl, _, rfl, l, linesOf t, 1, "begins", n, rfl, sqOf (s2 _ _ gl), pL, lit _ (by decide +kernel), fun ns ei ai vb H3 s3 db => ?_, fun z => up (s1.trans s2) (kB 2 (by rw [en]; dsimp only; rw [z]))⟩
    have s23 := s2.trans s3
    refine ⟨_, rfl, _, rfl, l, linesOf t, 2, "ends", n, rfl, sqOf (s23 _ _ gl), pL, lit _ (by decide +kernel), fun os eo ao ve H4 s4 de => ?_, fun z => up (s1.trans s23) (kB 3 (by rw [en]; dsimp only; rw [ei]; dsimp only; rw [z]))⟩
    have s24 := s23.trans s4
    have gl4 := s24 _ _ gl
    have zs : sizeLine = 16777216 := by decide
    rw [en] at kB; dsimp only at kB
    rw [ei] at kB; dsimp only at kB
    rw [eo] at kB; dsimp only at kB
    have lp := pL.1
    refine ⟨.ref l, rfl, .ref l, _, rfl, .inl ⟨_, sqOf gl4, rfl⟩, 3, _, rfl, ⟨by decide, by decide, by rw [List.length_map]; omega, by rw [List.length_map]; omega⟩, fun D nD => ?_⟩
    rw [List.length_map, show (((linesOf t).length : Nat) - (3 : Int)).toNat = (linesOf t).length - 3 by omega]
    refine lc_it walk_range (fun j H' => ∃ us ms, H' D = some (.lst us) ∧ us.length = j ∧ ms.length = j ∧ (∀ (x : Nat) (m : Mv), ms[x]? = some m → moveAt (linesOf t) (3 + x) n = some m) ∧ DqAll K H' us (ms.map mvD) ∧ Same H4 H') ⟨[], [], upd_same, rfl, rfl, fun x m e => by simp at e, .nil, same_upd nD⟩ (fun _ _ _ _ => trivial) ?_ ?_
    · rintro j v H5 H6 hj ⟨us, ms, gD, ul, ml, hm, du, sm⟩ ⟨rfl, hv⟩
      cases hv
      refine ⟨rfl, ?_⟩
      dsimp only [tYes]
      refine iteT ⟨.ref l, rfl, .int (3 + (j : Int)), rfl, .int (n : Int), rfl, l, linesOf t, 3 + j, n, by simp, sqOf (sm _ _ gl4), pL, fun m' em u H7 s7 du7 => ?_, fun z => ?_⟩
      · have hj' : j < (linesOf t).length - 3 := hj
        refine ⟨us, s7 _ _ gD, by omega, us ++ [u], ms ++ [m'], upd_same, by rw [List.length_append, ul]; rfl, by rw [List.length_append, ml]; rfl, fun x m e => ?_, ?_, fun b o q => by rw [upd_ne (ne_of_none q nD)]; exact s7 _ _ (sm b o q)⟩
        · rw [List.getElem?_append] at e
          split at e
          · exact hm x m e
          · rename_i q
            have : x - ms.length = 0 := by
              cases z : x - ms.length with
              | zero => rfl
              | succ y => rw [z] at e; simp at e
            rw [this] at e
            cases e
            rw [show x = j by omega]
            exact em
        · have kp : KpT H7 (upd H7 D (.lst (us ++ [u]))) := KpT.lst (s7 _ _ gD)
          rw [List.map_append]
          exact (dqAll_kpt kp _ _ (du.up s7) (mvs_noLDs _)).app (.cons (dq_kpt kp _ _ du7 (by rfl)) .nil)
      · have hj' : j < (linesOf t).length - 3 := hj
        have e := movesT_bad (ls := linesOf t) (n := n) (i := 3) (j := j) (k := (linesOf t).length - 3) (fun x hx => by
          obtain ⟨m, e⟩ : ∃ m, ms[x]? = some m := ⟨_, List.getElem?_eq_getElem (by omega)⟩
          exact ⟨m, hm x m e⟩) z hj'
        exact up ((s1.trans s24).trans sm) (kB (3 + j + 1) (by rw [e]))
    rintro H5 ⟨us, ms, gD, ul, ml, hm, du, s5⟩
    have eo2 : outT t = .inl ⟨n, ns, ms, os⟩ := by
      unfold outT outL
      rw [en]; dsimp only
      rw [ei]; dsimp only
      rw [eo]; dsimp only
      rw [← ml, movesT_good hm]
    have bk := ok.bulk eo2
    have mo := ok.moves eo2
    have s25 := s24.trans s5
    refine ⟨rfl, .int (n : Int), rfl, vb, rfl, .ref D, rfl, D, us, rfl, .inl ⟨sqOf gD, fun tp ntp => ?_⟩⟩
    have s6 : Same H5 (upd H5 tp (.tup us)) := same_upd ntp
    have g6 : upd H5 tp (.tup us) tp = some (.tup us) := upd_same
    generalize upd H5 tp (.tup us) = H6 at s6 g6 ⊢
    refine ⟨ve, rfl, fun x dx nx ndx nex => ?_⟩
    have s7 : Same H6 (upd (upd H6 dx (.own x)) x (.ins C dx [])) := fun b o e => by
      rw [upd_ne (ne_of_none e nx), upd_ne (ne_of_none e ndx)]; exact e
    have g7 : upd (upd H6 dx (.own x)) x (.ins C dx []) x = some (.ins C dx []) := upd_same
    generalize upd (upd H6 dx (.own x)) x (.ins C dx []) = H7 at s7 g7 ⊢
    have s26 := s25.trans s6
    have b1 := asc_len ai
    have b2 := asc_len ao
    have d1 : Dq K H7 vb (.tuple (nats ns)) := ((db.up (s4.trans s5)).up s6).up s7
    have d2 : Dq K H7 (.ref tp) (.tuple (ms.map mvD)) := .tup (stOf (s7 _ _ g6)) ((du.up s6).up s7)
    have d3 : Dq K H7 ve (.tuple (nats os)) := ((de.up s5).up s6).up s7
    refine ⟨x, dx, (n : Int), vb, .ref tp, ve, _, _, _, rfl, g7, d1, d2, d3, ?_, ?_, ?_, by omega, states_ok ai, mo, states_ok ao, fun H8 keep g => ⟨rfl, ?_⟩⟩
    · show PyData.bulkAll _ ≤ 500000
      have := nats_bulk ns; omega
    · exact bk.1
    · show PyData.bulkAll _ ≤ 500000
      have := nats_bulk os; omega
    · have nx1 : H x = none := (s1.trans s26).free nx
      have s18 : Same H H8 := fun b o e => keep b o (ne_of_none e nx1) (s7 _ _ (s26 _ _ (s1 _ _ e)))
      have k78 : ∀ {v : V} {ds : List PyData}, Dq K H6 v (.tuple ds) → Dq K H8 v (.tuple ds) := fun h => h.up (fun b o e => keep b o (ne_of_none e nx) (s7 b o e))
      have ref_of : ∀ {v : V} {ds : List PyData}, Dq K H7 v (.tuple ds) → ∃ a, v = .ref a := fun h => by cases h with | tup _ _ => exact ⟨_, rfl⟩
      obtain ⟨a1, rfl⟩ := ref_of d1
      obtain ⟨a3, rfl⟩ := ref_of d3
      exact kG _ eo2 x H8 s18 nx1 ⟨dx, a1, tp, a3, g, k78 ((db.up (s4.trans s5)).up s6), k78 (.tup (stOf g6) (du.up s6)), k78 ((de.up s5).up s6)⟩
end
end KP
namespace KP
open PySem PySem.Spec PyProof.Rows L2 EL
open Evl (pss_cut)
abbrev sLNumber : Stmt := topS 44
theorem scLNumber : FnScope ["_law_bit", "_law_sign"] ["_law_bit"] (defScope sLNumber) := ⟨rfl, rfl, rfl, by decide +kernel, rfl, by decide +kernel, by decide +kernel⟩
abbrev sLSome : Stmt := topS 45
theorem scLSome : FnScope ["_law_wide", "_law_bits", "_law_found", "_law_is_good", "_law_bit"] ["_law_wide", "_law_bits"] (defScope sLSome) := ⟨rfl, rfl, rfl, by decide +kernel, rfl, by decide +kernel, by decide +kernel⟩
abbrev sLWordTold : Stmt := topS 46
theorem scLWordTold : FnScope ["_law_bit", "_law_sign"] ["_law_bit"] (defScope sLWordTold) := ⟨rfl, rfl, rfl, by decide +kernel, rfl, by decide +kernel, by decide +kernel⟩
open TL
/-- the law's own look at a number: -1 for none -/
def numZ (w : Str) : Int := match numOf w with
  | some n => (n : Int)
  | none => -1
def spNumL : Sp := fun vs H Q _ => ∃ w : Str, vs = [.str w] ∧ w.length ≤ 100000 ∧ ∀ H', Same H H' → Q (.int (numZ w)) H'
theorem num_lead {l : List Nat} (hd : l.all isDig = true) (h0 : l ≠ []) (h3 : l.length ≤ 3) : numL (NumText.digitsVal l) = l ↔ ¬ (l.head? = some 48 ∧ l ≠ [48]) := by
  have hc : ∀ c ∈ l, 48 ≤ c ∧ c ≤ 57 := fun c m => dig_iff.mp (List.all_eq_true.mp hd c m)
  match l, h0, h3, hc with
  | [a], _, _, hc =>
    have := hc a (by simp)
    have e : NumText.digitsVal [a] = a - 48 := by show 0 * 10 + (a - 48) = _; omega
    rw [e, numL_lt (by omega)]
    simp
    omega
  | [a, b], _, _, hc =>
    have := hc a (by simp)
    have := hc b (by simp)
    have e : NumText.digitsVal [a, b] = (a - 48) * 10 + (b - 48) := by show (0 * 10 + (a - 48)) * 10 + (b - 48) = _; omega
    rw [e]
    by_cases ha : a = 48
    · subst ha
      rw [numL_lt (by omega)]
      simp
    · rw [numL_step (by omega), numL_lt (by omega)]
      simp [ha]
      omega
  | [a, b, c], _, _, hc =>
    have := hc a (by simp)
    have := hc b (by simp)
    have := hc c (by simp)
    have e : NumText.digitsVal [a, b, c] = ((a - 48) * 10 + (b - 48)) * 10 + (c - 48) := by show ((0 * 10 + (a - 48)) * 10 + (b - 48)) * 10 + (c - 48) = _; omega
    rw [e]
    by_cases ha : a = 48
    · subst ha
      by_cases hb : b = 48
      · subst hb
        rw [numL_lt (by omega)]
        simp
      · rw [numL_step (by omega), numL_lt (by omega)]
        simp
    · rw [numL_step (by omega), numL_step (by omega), numL_lt (by omega)]
      simp [ha]
      omega


theorem numZ_eq {w : Str} (hd : (tl w).all isDig = true) (h0 : w.length ≠ 0) (h3 : w.length ≤ 3) : numZ w = if (tl w).head? = some 48 ∧ w ≠ ("0" : Str) then -1 else ((NumText.digitsVal (tl w) : Nat) : Int) := by
  have wl : (tl w).length = w.length := (len_tl w).symm
  have z0 : tl ("0" : Str) = [48] := by decide +kernel
  have nl := num_lead hd (fun z => h0 (by rw [← wl, z]; rfl)) (by omega)
  have eq : (numS (NumText.digitsVal (tl w)) = w) ↔ numL (NumText.digitsVal (tl w)) = tl w := by
    rw [← tl_numS]
    exact ⟨fun h => by rw [h], fun h => ext_tl h⟩
  have ne : (w ≠ ("0" : Str)) ↔ tl w ≠ [48] := by
    rw [← z0]
    exact ⟨fun h e => h (ext_tl e), fun h e => h (by rw [e])⟩
  unfold numZ numOf
  by_cases q : numS (NumText.digitsVal (tl w)) = w
  · rw [if_pos ⟨h0, h3, hd, q⟩]
    have := nl.mp (eq.mp q)
    rw [if_neg (fun z => this ⟨z.1, ne.mp z.2⟩)]
  · rw [if_neg (fun z => q z.2.2.2)]
    have : (tl w).head? = some 48 ∧ tl w ≠ [48] := Classical.byContradiction fun z => q (eq.mpr (nl.mpr z))
    rw [if_pos ⟨this.1, ne.mpr this.2⟩]
theorem numZ_bad {w : Str} (h : w.length = 0 ∨ ¬ w.length ≤ 3 ∨ (tl w).all isDig = false) : numZ w = -1 := by
  unfold numZ numOf
  rw [if_neg]
  rintro ⟨h1, h2, h3, _⟩
  rcases h with z | z | z
  · exact h1 z
  · exact z h2
  · rw [h3] at z; cases z

section
variable {P : Program} {w : World} {K : PySem.W.Frag} {mg : Str → Option Value} {base : Heap}
theorem ok_LNumber {f : Addr} {fd : FuncData} {k : Nat} (F : Fun K "_law_number" "_law_number" sLNumber f fd) (nlen : mg "len" = none) (nint : mg "int" = none) : FnOk P w K mg base CX0 (k + 1) f fd ["_law_bit"] spNumL := by
  refine F.ok scLNumber (fun vs H Q E h => ?_) (fun cdv A outer s H vs Q E hr h => ?_)
  · obtain ⟨t, rfl, _⟩ := h; rfl
  · obtain ⟨w, rfl, hw, kQ⟩ := h
    have hu := hr.units
    refine ⟨_, (pss_cons (ps_if (PW.pt (pw_or (pt_cmpR op_eq (pv 0) pe_str (nomark _)) (pw_or (pt_cmpR op_gt (pe_callB (show CallR _ _ (rLenK K) from call_len) (by rfl) nlen (by decide +kernel) (pa_cons (pv 0) pa_nil)) pe_int (nomark _)) (pw_or1 (pt_cmpR (op_neN hr.units0) (pe_lc (own := [("_law_sign", 1)]) (g := (gName 1)) (by rfl) scLNumber.nd (pi_str (pv 0)) (blkOk_by (own := [("_law_sign", 1)]) (N := ["_law_bit", "_law_sign"]) (sc := defScope sLNumber) (by decide +kernel)) (fun _ _ _ _ _ => (pg_name (i := 1) scLNumber.nd rfl (by first | exact Or.inl rfl | exact Or.inr rfl))) (fun _ _ _ _ _ => (pts_one (pt_cmpR op_notIn_sign (pv 1) pe_str (by rfl)))) (fun _ _ _ _ _ => (pv 1))) (pe_lst pa_nil) (nomark _)))))) (pss_one (ps_ret (pe_un un_neg pe_int))) pss_nil)
      (pss_one (ps_ret (pe_ifExp (PW.pt (pw_and (pt_cmpR op_eq (pe_ix ix_str (pv 0) pe_int (fun _ _ => rfl)) pe_str (nomark _)) (pw_and1 (pt_cmpR op_ne (pv 0) pe_str (nomark _))))) (pe_un un_neg pe_int) (pe_callTy call_int_str (by rfl) nint (by decide +kernel) (pa_cons (pv 0) pa_nil)))))), ?_⟩
    have hw2 : w.cps.size ≤ 100000 := hw
    refine ⟨_, rfl, rfl, _, rfl, ?_⟩
    by_cases e0 : w.length = 0
    · have : w = ("" : Str) := ext_tl (by
        have : (tl w).length = 0 := by rw [← len_tl]; exact e0
        rw [List.length_eq_zero_iff.mp this]; decide +kernel)
      rw [decide_eq_true (by rw [this])]
      refine iteT ?_
      rw [numZ_bad (.inl e0)] at kQ
      exact ⟨_, rfl, kQ H (Same.refl H)⟩
    rw [decide_eq_false (fun z => e0 (by have := V.str.inj z; rw [this]; decide +kernel))]
    refine iteF ⟨_, rfl, _, _, rfl, ⟨len_sz (by omega), rfl⟩, _, _, rfl, rfl, _, rfl, ?_⟩
    by_cases e3 : w.length ≤ 3
    · rw [show decide ((3 : Int) < (w.length : Nat)) = false from decide_eq_false (by omega)]
      refine iteF ⟨.str w, rfl, w, rfl, fun D nD => ?_⟩
      refine lc_it walk_str (LcP D (fun _ H' => Same H H') (fun j v => ∃ c, w.cps.toList[j]? = some c ∧ v = if isDig c = true then none else some (.str ⟨#[c]⟩))) (LcP.start (same_upd nD)) (fun _ _ _ _ => trivial) ?_ ?_
      · rintro i y H1 H2 hi ⟨ys, hl, hR, hD, hP⟩ ⟨rfl, c, hc, rfl⟩
        refine ⟨rfl, ?_⟩
        have hc2 : w.cps.toList[i]? = some c := by rw [Array.getElem?_toList]; exact hc
        refine ⟨_, rfl, c, _, rfl, rfl, _, rfl, ?_⟩
        show if (!isDig c) = true then _ else _
        cases hi2 : isDig c with
        | true => exact iteF (lcp_none hl hR hD ⟨c, hc2, by rw [hi2]; rfl⟩ hP)
        | false => exact iteT ⟨_, rfl, lcp_some hl hR hD (by omega) ⟨c, hc2, by rw [hi2]; rfl⟩ fun b o q => by rw [upd_ne (ne_of_none q nD)]; exact hP b o q⟩
      rintro H2 ⟨ys, hl, hR, hD, hP⟩
      have e := rows_map (f := fun c => if isDig c = true then none else some (V.str ⟨#[c]⟩)) (l := w.cps.toList) (by rw [hl, Array.length_toList]) hR
      have eN : (ys.filterMap id = []) ↔ (tl w).all isDig = true := by
        rw [e, List.filterMap_map, List.filterMap_eq_nil_iff, List.all_eq_true]
        refine ⟨fun h c m => ?_, fun h c m => ?_⟩
        · have := h c m
          cases q : isDig c with
          | true => rfl
          | false => simp [q] at this
        · simp [h c m]
      have fr0 : H D = none := nD
      refine ⟨Nat.zero_le _, fun e0' ne0 => ?_⟩
      have sE := same_upd (o := .lst []) ne0
      have gE : upd H2 e0' (.lst []) e0' = some (.lst []) := upd_same
      have gD := sE _ _ hD
      have s2 := hP.trans sE
      generalize upd H2 e0' (.lst []) = H3 at gE gD s2 ⊢
      refine ⟨D, e0', _, rfl, rfl, sqOf gD, sqOf gE, _, rfl, ?_⟩
      by_cases ea : (tl w).all isDig = true
      · rw [decide_eq_true (eN.mpr ea)]
        refine iteF ?_
        have iT : PySem.intText? w = some ((NumText.digitsVal (tl w) : Nat) : Int) := intText_digits (fun c hc => dig_iff.mp (List.all_eq_true.mp ea c hc)) (fun z => e0 (by rw [len_tl, show tl w = [] from z]; rfl)) (by omega)
        have nz := numZ_eq ea e0 e3
        obtain ⟨c0, r0, ec⟩ : ∃ c r, tl w = c :: r := by
          cases z : tl w with
          | nil => exact absurd (by rw [len_tl, z]; rfl) e0
          | cons c r => exact ⟨c, r, rfl⟩
        have h48 : (V.str (⟨#[c0]⟩ : Str) = V.str ("0" : Str)) ↔ c0 = 48 := by
          have z0 : tl ("0" : Str) = [48] := by decide +kernel
          refine ⟨fun z => ?_, fun z => by subst z; exact congrArg V.str (ext_tl z0.symm)⟩
          have := congrArg tl (V.str.inj z)
          rw [z0] at this
          exact (List.cons.inj this).1
        rw [ec] at nz
        refine ⟨.str w, rfl, w, 0, c0, rfl, rfl, len_sz (by omega), atI_nat (j := 0) (by show (tl w)[0]? = _; rw [ec]; rfl), rfl, _, rfl, ?_⟩
        by_cases c48 : c0 = 48
        · rw [decide_eq_true (h48.mpr c48)]
          refine iteT ⟨.str w, rfl, rfl, _, rfl, ?_⟩
          by_cases wz : w = ("0" : Str)
          · rw [decide_eq_true (by rw [wz])]
            rw [if_neg (fun z => z.2 wz)] at nz
            refine iteF ⟨.str w, rfl, w, _, rfl, iT, by omega, ?_⟩
            rw [← ec] at nz
            rw [nz] at kQ
            exact kQ H3 s2
          · rw [decide_eq_false (fun z => wz (V.str.inj z))]
            rw [if_pos ⟨by rw [c48]; rfl, wz⟩] at nz
            rw [nz] at kQ
            exact iteT ⟨_, rfl, kQ H3 s2⟩
        · rw [decide_eq_false (fun z => c48 (h48.mp z))]
          rw [if_neg (fun z => c48 (Option.some.inj z.1))] at nz
          rw [← ec] at nz
          rw [nz] at kQ
          exact iteF (iteF ⟨.str w, rfl, w, _, rfl, iT, by omega, kQ H3 s2⟩)
      · rw [decide_eq_false (fun z => ea (eN.mp z))]
        refine iteT ?_
        rw [numZ_bad (.inr (.inr (by cases q : (tl w).all isDig with | true => exact absurd q ea | false => rfl)))] at kQ
        exact ⟨_, rfl, kQ H3 s2⟩
    · rw [show decide ((3 : Int) < (w.length : Nat)) = true from decide_eq_true (by omega)]
      refine iteT ?_
      rw [numZ_bad (.inr (.inl e3))] at kQ
      exact ⟨_, rfl, kQ H (Same.refl H)⟩
end
end KP
namespace KP
open PySem PySem.Spec PyProof.Rows L2 EL
open Evl (pss_cut)
open TL
/-- the states that words tell, by the law -/
def someL (n : Nat) (ws : List Str) : Option (List Nat) := if ws = [("-" : Str)] then some [] else if ws ≠ [] ∧ statesD (n : Int) (.tuple (ws.map fun w => optND (numOf w))) = true then some (ws.filterMap numOf) else none
theorem statesAt_some (ls : List Str) (i : Nat) (hd : Str) (n : Nat) : statesAt ls i hd n = (wordsAt ls i hd).bind (someL n) := by
  unfold statesAt someL
  cases wordsAt ls i hd with
  | none => rfl
  | some ws => rfl
theorem ascI_pw : ∀ {zs : List Int}, ascI zs = true ↔ zs.Pairwise (· < ·)
  | [] => by simp [ascI]
  | [a] => by simp [ascI]
  | a :: b :: r => by
    have ih := ascI_pw (zs := b :: r)
    simp only [ascI, Bool.and_eq_true, decide_eq_true_eq, ih]
    constructor
    · rintro ⟨h1, h2⟩
      refine List.pairwise_cons.mpr ⟨fun x hx => ?_, h2⟩
      rcases List.mem_cons.mp hx with z | z
      · rw [z]; exact h1
      · have := (List.pairwise_cons.mp h2).1 x z; omega
    · intro h
      exact ⟨(List.pairwise_cons.mp h).1 b List.mem_cons_self, (List.pairwise_cons.mp h).2⟩
theorem all_of_ends {zs : List Int} {n : Int} (hne : zs ≠ []) (ha : zs.Pairwise (· < ·)) : (0 ≤ zs.head hne ∧ zs.getLast hne < n) ↔ ∀ z ∈ zs, 0 ≤ z ∧ z < n := by
  constructor
  · rintro ⟨h1, h2⟩ z hz
    constructor
    · cases zs with
      | nil => exact absurd rfl hne
      | cons a r =>
        have h1 : 0 ≤ a := h1
        rcases List.mem_cons.mp hz with q | q
        · rw [q]; exact h1
        · have := (List.pairwise_cons.mp ha).1 z q; omega
    · rw [← List.dropLast_concat_getLast hne] at ha hz
      rcases List.mem_append.mp hz with q | q
      · have := (List.pairwise_append.mp ha).2.2 z q _ (List.mem_singleton.mpr rfl); omega
      · rw [List.mem_singleton.mp q]; exact h2
  · intro h
    exact ⟨(h _ (List.head_mem hne)).1, (h _ (List.getLast_mem hne)).2⟩
/-- a list whose numbers are those of an ascending list, is ascending just if it is that list -/
theorem pw_iff {zs ns : List Int} (ha : ns.Pairwise (· < ·)) (hm : ∀ k, k ∈ ns ↔ k ∈ zs) : zs = ns ↔ zs.Pairwise (· < ·) := by
  refine ⟨fun e => by rw [e]; exact ha, fun h => ?_⟩
  have nd1 : zs.Nodup := h.imp fun a e => by omega
  have nd2 : ns.Nodup := ha.imp fun a e => by omega
  have pm : zs.Perm ns := (List.perm_ext_iff_of_nodup nd1 nd2).mpr fun k => (hm k).symm
  exact pm.eq_of_pairwise (le := (· < ·)) (fun a b _ _ h1 h2 => by omega) h ha
theorem numZ_opt (w : Str) : (optND (numOf w) = .int (numZ w) ∧ 0 ≤ numZ w ∧ ∃ n, numOf w = some n ∧ numZ w = (n : Int)) ∨ (numOf w = none ∧ numZ w = -1) := by
  unfold numZ
  cases numOf w with
  | none => exact .inr ⟨rfl, rfl⟩
  | some n => exact .inl ⟨rfl, by simp, n, rfl, rfl⟩
theorem states_iff {n : Nat} {ws : List Str} (hne : ws ≠ []) (h2 : ws.map numZ ≠ []) : ((ws.map numZ).Pairwise (· < ·) ∧ 0 ≤ (ws.map numZ).head h2 ∧ (ws.map numZ).getLast h2 < (n : Int)) ↔ statesD (n : Int) (.tuple (ws.map fun w => optND (numOf w))) = true := by
  simp only [statesD, Bool.and_eq_true, ascI_pw]
  have key : (∀ z ∈ ws.map numZ, 0 ≤ z ∧ z < (n : Int)) ↔ (ws.map fun w => optND (numOf w)).all (stateD (n : Int)) = true := by
    rw [List.all_eq_true]
    simp only [List.mem_map, forall_exists_index, and_imp, forall_apply_eq_imp_iff₂]
    refine forall_congr' fun w => imp_congr_right fun _ => ?_
    rcases numZ_opt w with ⟨h1, h2, _⟩ | ⟨h1, h2⟩
    · rw [h1]; simp [stateD]
    · rw [h1, h2]; simp [optND, stateD]
  have same : (∀ z ∈ ws.map numZ, 0 ≤ z ∧ z < (n : Int)) → (ws.map fun w => optND (numOf w)).map intOf = ws.map numZ := fun h => by
    rw [List.map_map]
    refine List.map_congr_left fun w hw => ?_
    rcases numZ_opt w with ⟨h1, _, _⟩ | ⟨_, h2⟩
    · show intOf (optND (numOf w)) = _
      rw [h1]; rfl
    · have := (h _ (List.mem_map_of_mem hw)).1
      rw [h2] at this
      omega
  constructor
  · rintro ⟨h1, h3⟩
    have h4 := (all_of_ends h2 h1).mp h3
    exact ⟨key.mp h4, by rw [same h4]; exact h1⟩
  · rintro ⟨h1, h3⟩
    have h4 := key.mpr h1
    rw [same h4] at h3
    exact ⟨h3, (all_of_ends h2 h3).mpr h4⟩
theorem found_nats {ws : List Str} (h : ∀ z ∈ ws.map numZ, 0 ≤ z) : ws.map numZ = (ws.filterMap numOf).map fun n : Nat => (n : Int) := by
  induction ws with
  | nil => rfl
  | cons w r ih =>
    have h1 := h (numZ w) (by simp)
    have ih := ih fun z hz => h z (List.mem_cons_of_mem _ hz)
    rcases numZ_opt w with ⟨_, _, n, e1, e2⟩ | ⟨_, e2⟩
    · rw [List.map_cons, List.filterMap_cons, e1]
      dsimp only
      rw [List.map_cons, ← ih, e2]
    · omega
theorem eqv_ints9 : ∀ a b : List Int, PyData.eqvAll (a.map PyData.int) (b.map PyData.int) = decide (a = b)
  | [], [] => by simp [PyData.eqvAll]
  | [], _ :: _ => by simp [PyData.eqvAll]
  | _ :: _, [] => by simp [PyData.eqvAll]
  | x :: a, y :: b => by
    rw [List.map_cons, List.map_cons, PyData.eqvAll, eqv_ints9 a b]
    by_cases h : x = y
    · subst h; simp [PyData.eqv]
    · simp [PyData.eqv, h]
def spSomeL (K : PySem.W.Frag) : Sp := fun vs H Q _ => ∃ (n : Nat) (v : Addr) (ws : List Str), vs = [.int (n : Int), .ref v] ∧ SqL K H v (ws.map V.str) ∧ (∀ w ∈ ws, Page w) ∧ ws.length < 64 ∧
  (∀ H', Same H H' → someL n ws = none → Q .non H') ∧ ∀ (l : Addr) (ns : List Nat) H', Same H H' → someL n ws = some ns → H' l = some (.lst ((ns.map fun k : Nat => (k : Int)).map V.int)) → Q (.ref l) H'

section
variable {P : Program} {w : World} {K : PySem.W.Frag} {mg : Str → Option Value} {base : Heap}
theorem ok_LSome {f : Addr} {fd : FuncData} {k : Nat} (F : Fun K "_law_some" "_law_some" sLSome f fd) (nsorted : mg "sorted" = none) (nset : mg "set" = none) (CLNumber : Cal P w K mg base k "_law_number" ["_law_bit"] spNumL) : FnOk P w K mg base CX0 (k + 1) f fd ["_law_wide", "_law_bits"] (spSomeL K) := by
  refine F.ok scLSome (fun vs H Q E h => ?_) (fun cdv A outer s H vs Q E hr h => ?_)
  · obtain ⟨n, v, ws, rfl, _⟩ := h; rfl
  · obtain ⟨n, v, ws, rfl, hv, pw, wl, kN, kS⟩ := h
    have hu := hr.units
    refine ⟨_, (pss_cons (ps_if (pt_cmpR (op_eqD hu) (pv 1) (kd_lst (kd_cons kd_str kd_nil)) (nomark _)) (pss_one (ps_ret (pe_lst pa_nil))) pss_nil)
      (pss_cons (ps_setLc (i := 2) (own := [("_law_bit", 4)]) (g := (gName 4)) (by rfl) scLSome.nd rfl rfl (sw_true rfl rfl rfl (by decide +kernel)) (pi_list (pv 1)) (blkOk_by (own := [("_law_bit", 4)]) (N := ["_law_wide", "_law_bits", "_law_found", "_law_is_good", "_law_bit"]) (sc := defScope sLSome) (by decide +kernel)) (fun _ _ _ _ _ => (pg_name (i := 4) scLSome.nd rfl (by first | exact Or.inl rfl | exact Or.inr rfl))) (fun _ _ _ _ _ => pts_nil) (fun _ _ _ _ _ => (pe_cal CLNumber hr (by rfl) pass0 (pa_cons (pv 4) pa_nil))))
      (pss_cons (ps_set (i := 3) scLSome.nd rfl (by first | exact Or.inl rfl | exact Or.inr rfl) (pe_and (pe_cmpR (op_neN hr.units0) (pv 2) (pe_lst pa_nil) (nomark _)) (pe_and (pe_cmpR (op_eqD hu) (pv 2) (pe_callB (show CallR _ _ (rSortedSet w) from cr_sortedSet rfl) (by rfl) nsorted (by decide +kernel) (pa_cons (pe_callTy (show CallR _ _ (rSetI K w) from cr_setI rfl) (by rfl) nset (by decide +kernel) (pa_cons (pv 2) pa_nil)) pa_nil)) (nomark _)) (pe_and (pe_cmpR op_ge (pe_ix (show IxR _ (rIxL K) from ix_list) (pv 2) pe_int (fun _ _ => rfl)) pe_int (nomark _)) (pe_one (pe_cmpR op_lt (pe_ix (show IxR _ (rIxL K) from ix_list) (pv 2) (pe_un un_neg pe_int) (fun _ _ => rfl)) (pv 0) (nomark _)))))))
      (pss_one (ps_ret (pe_ifExp (pt_val (pv 3)) (pv 2) pe_non)))))), ?_⟩
    have zs : sizeLine = 16777216 := by decide
    refine ⟨.ref v, rfl, fun x1 H1 s1 d1 => ?_⟩
    have hv1 := ex_l' s1 hv
    refine ⟨_, _, .lst hv1 (dpStrs ws), dp_of _ _ d1 rfl, shaped_strs (fun w hw => (pw w hw).2), shaped_strs (ws := [("-" : Str)]) (fun w hw => by rw [List.mem_singleton.mp hw]; exact dash_low), _, rfl, ?_⟩
    rw [show PyData.list [PyData.str ("-" : Str)] = .list (([("-" : Str)]).map PyData.str) from rfl, eqv_strL]
    unfold someL at kN kS
    by_cases c : ws = [("-" : Str)]
    · rw [decide_eq_true c]
      rw [if_pos c] at kS
      exact iteT ⟨Nat.zero_le _, fun l nl => kS l [] _ (s1.trans (same_upd nl)) rfl upd_same⟩
    rw [decide_eq_false c]
    rw [if_neg c] at kN kS
    refine iteF ⟨.ref v, rfl, v, rfl, ⟨_, hv1⟩, fun D nD => ?_⟩
    refine lc_it walk_list (LcP D (fun _ H' => Same H1 H') (fun j v => ∃ w : Str, ws[j]? = some w ∧ v = some (.int (numZ w)))) (LcP.start (same_upd nD)) (fun i H' _ z => by obtain ⟨_, _, _, _, sm⟩ := z; exact ex_l' sm hv1) ?_ ?_
    · rintro j y H9 H3 hj ⟨ys, hl2, hR, hD, sm⟩ ⟨rfl, hv2⟩
      obtain ⟨w, hw, rfl⟩ : ∃ b, ws[j]? = some b ∧ y = .str b := by
        rw [List.getElem?_map] at hv2
        obtain ⟨b, h1, h2⟩ := Option.map_eq_some_iff.mp hv2
        exact ⟨b, h1, h2.symm⟩
      have hj2 : j < ws.length := (List.getElem?_eq_some_iff.mp hw).1
      refine ⟨rfl, ?_⟩
      dsimp only [tYes]
      refine iteT ⟨.str w, rfl, w, rfl, (pw w (List.mem_of_getElem? hw)).1, fun H4 s4 => ?_⟩
      exact lcp_some hl2 hR (s4 _ _ hD) (by omega) ⟨w, hw, rfl⟩ fun b o q => by rw [upd_ne (ne_of_none q nD)]; exact s4 _ _ (sm b o q)
    rintro H3 ⟨ys, hl2, hR, hD, s3⟩
    have e1 := rows_map (f := fun w : Str => some (V.int (numZ w))) (l := ws) (by rw [hl2, List.length_map]) hR
    have e2 : (ws.map fun w : Str => some (V.int (numZ w))).filterMap id = (ws.map numZ).map V.int := by rw [List.filterMap_map, List.map_map]; simp [Function.comp_def]
    rw [e1, e2] at hD
    have s13 := s1.trans s3
    refine ⟨.ref D, rfl, Nat.zero_le _, fun e0 ne0 => ?_⟩
    have sE := same_upd (o := .lst []) ne0
    have gE : upd H3 e0 (.lst []) e0 = some (.lst []) := upd_same
    have hD4 := sE _ _ hD
    have s14 := s13.trans sE
    generalize upd H3 e0 (.lst []) = H4 at gE hD4 s14 ⊢
    refine ⟨D, e0, _, rfl, rfl, sqOf hD4, sqOf gE, ?_⟩
    have fin : ∀ (b : Bool) (H5 : Hp), Same H4 H5 → (b = true ↔ (ws ≠ [] ∧ statesD (n : Int) (.tuple (ws.map fun w => optND (numOf w))) = true)) → tIf (tB (tVar 3)) (tVar 2) (tC V.non) [some (V.int (n : Int)), some (.ref v), some (.ref D), some (.bl b), none] H5 Q := fun b H5 s45 hb => by
      refine ⟨_, rfl, _, rfl, ?_⟩
      have s15 := s14.trans s45
      cases b with
      | false =>
        rw [if_neg (fun z => by cases hb.mpr z)] at kN
        exact iteF (kN H5 s15 rfl)
      | true =>
        have q := hb.mp rfl
        rw [if_pos q] at kS
        refine iteT ⟨_, rfl, kS D _ H5 s15 rfl ?_⟩
        have h2 : ws.map numZ ≠ [] := fun z => q.1 (List.map_eq_nil_iff.mp z)
        have q2 := (states_iff q.1 h2).mpr q.2
        have q3 := (all_of_ends h2 q2.1).mp q2.2
        rw [← found_nats fun z hz => (q3 z hz).1]
        exact s45 _ _ hD4
    by_cases ew : ws = []
    · subst ew
      refine ⟨_, rfl, iteF ?_⟩
      exact fin false H4 (Same.refl _) ⟨fun z => (by cases z), fun z => absurd rfl z.1⟩
    have h2 : ws.map numZ ≠ [] := fun z => ew (List.map_eq_nil_iff.mp z)
    rw [show (!decide ((ws.map numZ).map V.int = [])) = true by rw [decide_eq_false (fun z => h2 (List.map_eq_nil_iff.mp z))]; rfl]
    refine ⟨_, rfl, iteT ⟨.ref D, rfl, .ref D, rfl, D, ws.map numZ, rfl, sqOf hD4, by rw [List.length_map]; omega, fun p c np hc => ?_⟩⟩
    have s5 : Same H4 (upd H4 p (SetO w p (fun j => decide (j ∈ ws.map numZ)) c)) := same_upd np
    have g5 : upd H4 p (SetO w p (fun j => decide (j ∈ ws.map numZ)) c) p = some (SetO w p (fun j => decide (j ∈ ws.map numZ)) c) := upd_same
    generalize upd H4 p (SetO w p (fun j => decide (j ∈ ws.map numZ)) c) = H5 at s5 g5 ⊢
    rw [List.length_map] at hc
    refine ⟨p, _, c, rfl, g5, by omega, fun ns q ha hm _ nq => ?_⟩
    have s6 : Same H5 (upd H5 q (.lst (ns.map V.int))) := same_upd nq
    have g6 : upd H5 q (.lst (ns.map V.int)) q = some (.lst (ns.map V.int)) := upd_same
    generalize upd H5 q (.lst (ns.map V.int)) = H6 at s6 g6 ⊢
    have s46 := s5.trans s6
    have hm' : ∀ k, k ∈ ns ↔ k ∈ ws.map numZ := fun k => by rw [hm k, decide_eq_true_eq]
    have pw := pw_iff ha hm'
    refine ⟨_, _, .lst (sqOf (s46 _ _ hD4)) (dpInts _), .lst (sqOf g6) (dpInts _), shaped_ints _, shaped_ints _, _, rfl, ?_⟩
    rw [show PyData.eqv (.list ((ws.map numZ).map PyData.int)) (.list (ns.map PyData.int)) = decide (ws.map numZ = ns) by
      show PyData.eqvAll _ _ = _
      rw [eqv_ints9]]
    have si := states_iff (n := n) ew h2
    by_cases eq : ws.map numZ = ns
    · rw [decide_eq_true eq]
      have hp := pw.mp eq
      have hl : (ws.map numZ)[0]? = some ((ws.map numZ).head h2) := by
        rw [← List.head?_eq_getElem?]; exact List.head?_eq_some_head h2
      refine iteT ⟨.ref D, rfl, D, _, 0, .int ((ws.map numZ).head h2), rfl, rfl, sqOf (s46 _ _ hD4), atI_nat (j := 0) (by rw [List.getElem?_map, hl]; rfl), _, _, rfl, rfl, _, rfl, ?_⟩
      by_cases h0 : 0 ≤ (ws.map numZ).head h2
      · rw [decide_eq_true h0]
        refine iteT ⟨.ref D, rfl, 1, rfl, D, _, -1, .int ((ws.map numZ).getLast h2), rfl, rfl, sqOf (s46 _ _ hD4), ?_, _, rfl, _, _, rfl, rfl, ?_⟩
        · have e := List.dropLast_concat_getLast h2
          have : (ws.map numZ).map V.int = (ws.map numZ).dropLast.map V.int ++ [V.int ((ws.map numZ).getLast h2)] := by
            conv => lhs; rw [← e]
            rw [List.map_append]; rfl
          rw [this]
          exact atI_last _ _
        · refine fin _ H6 s46 ⟨fun z => ?_, fun z => ?_⟩
          · exact ⟨ew, si.mp ⟨hp, h0, of_decide_eq_true z⟩⟩
          · exact decide_eq_true (si.mpr z.2).2.2
      · rw [decide_eq_false h0]
        exact iteF (fin false H6 s46 ⟨fun z => (by cases z), fun z => absurd (si.mpr z.2).2.1 h0⟩)
    · rw [decide_eq_false eq]
      exact iteF (fin false H6 s46 ⟨fun z => (by cases z), fun z => absurd (pw.mpr (si.mpr z.2).1) eq⟩)
/-- the text for which a word stands, in a list -/
theorem txtOf_eq (w : Str) : txtOf w = if w = ("-" : Str) then some Str.empty else if w.length ≠ 0 ∧ (tl w).all isLow = true then some w else none := rfl
def spWordL : Sp := fun vs H Q _ => ∃ w : Str, vs = [.str w] ∧ w.length ≤ 100000 ∧ ∀ l H', Same H H' → H' l = some (.lst ((match txtOf w with | some t => [V.str t] | none => []))) → Q (.ref l) H'
theorem ok_LWordTold {f : Addr} {fd : FuncData} {k : Nat} (F : Fun K "_law_word_told" "_law_word_told" sLWordTold f fd) : FnOk P w K mg base CX0 (k + 1) f fd ["_law_bit"] spWordL := by
  refine F.ok scLWordTold (fun vs H Q E h => ?_) (fun cdv A outer s H vs Q E hr h => ?_)
  · obtain ⟨t, rfl, _⟩ := h; rfl
  · obtain ⟨w, rfl, hw, kQ⟩ := h
    have hu := hr.units
    refine ⟨_, (pss_cons (ps_if (pt_cmpR op_eq (pv 0) pe_str (nomark _)) (pss_one (ps_ret (pe_lst (pa_cons pe_str pa_nil)))) pss_nil)
      (pss_one (ps_ret (pe_ifExp (PW.pt (pw_and (pt_cmpR op_ne (pv 0) pe_str (nomark _)) (pw_and1 (pt_cmpR (op_eqN hr.units0) (pe_lc (own := [("_law_sign", 1)]) (g := (gName 1)) (by rfl) scLWordTold.nd (pi_str (pv 0)) (blkOk_by (own := [("_law_sign", 1)]) (N := ["_law_bit", "_law_sign"]) (sc := defScope sLWordTold) (by decide +kernel)) (fun _ _ _ _ _ => (pg_name (i := 1) scLWordTold.nd rfl (by first | exact Or.inl rfl | exact Or.inr rfl))) (fun _ _ _ _ _ => (pts_one (pt_cmpR op_notIn_sign (pv 1) pe_str (by rfl)))) (fun _ _ _ _ _ => (pv 1))) (pe_lst pa_nil) (nomark _))))) (pe_lst (pa_cons (pv 0) pa_nil)) (pe_lst pa_nil))))), ?_⟩
    have hw2 : w.cps.size ≤ 100000 := hw
    rw [txtOf_eq] at kQ
    refine ⟨_, rfl, rfl, _, rfl, ?_⟩
    by_cases ed : w = ("-" : Str)
    · rw [decide_eq_true (by rw [ed])]
      rw [if_pos ed] at kQ
      refine iteT ⟨by decide, fun l nl => ?_⟩
      exact kQ l _ (same_upd nl) upd_same
    rw [decide_eq_false (fun z => ed (V.str.inj z))]
    rw [if_neg ed] at kQ
    refine iteF ⟨_, rfl, rfl, _, rfl, ?_⟩
    by_cases e0 : w.length = 0
    · have : w = ("" : Str) := ext_tl (by
        have : (tl w).length = 0 := by rw [← len_tl]; exact e0
        rw [List.length_eq_zero_iff.mp this]; decide +kernel)
      rw [if_neg (fun z => z.1 e0)] at kQ
      rw [decide_eq_true (by rw [this])]
      exact iteF (iteF ⟨Nat.zero_le _, fun l nl => kQ l _ (same_upd nl) upd_same⟩)
    rw [decide_eq_false (fun z => e0 (by have := V.str.inj z; rw [this]; decide +kernel))]
    refine iteT ⟨.str w, rfl, w, rfl, fun D nD => ?_⟩
    refine lc_it walk_str (LcP D (fun _ H' => Same H H') (fun j v => ∃ c, w.cps.toList[j]? = some c ∧ v = if isLow c = true then none else some (.str ⟨#[c]⟩))) (LcP.start (same_upd nD)) (fun _ _ _ _ => trivial) ?_ ?_
    · rintro i y H1 H2 hi ⟨ys, hl, hR, hD, hP⟩ ⟨rfl, c, hc, rfl⟩
      refine ⟨rfl, ?_⟩
      have hc2 : w.cps.toList[i]? = some c := by rw [Array.getElem?_toList]; exact hc
      refine ⟨_, rfl, c, _, rfl, rfl, _, rfl, ?_⟩
      show if (!isLow c) = true then _ else _
      cases hi2 : isLow c with
      | true => exact iteF (lcp_none hl hR hD ⟨c, hc2, by rw [hi2]; rfl⟩ hP)
      | false => exact iteT ⟨_, rfl, lcp_some hl hR hD (by omega) ⟨c, hc2, by rw [hi2]; rfl⟩ fun b o q => by rw [upd_ne (ne_of_none q nD)]; exact hP b o q⟩
    rintro H2 ⟨ys, hl, hR, hD, hP⟩
    have e := rows_map (f := fun c => if isLow c = true then none else some (V.str ⟨#[c]⟩)) (l := w.cps.toList) (by rw [hl, Array.length_toList]) hR
    have eN : (ys.filterMap id = []) ↔ (tl w).all isLow = true := by
      rw [e, List.filterMap_map, List.filterMap_eq_nil_iff, List.all_eq_true]
      refine ⟨fun h c m => ?_, fun h c m => ?_⟩
      · have := h c m
        cases q : isLow c with
        | true => rfl
        | false => simp [q] at this
      · simp [h c m]
    refine ⟨Nat.zero_le _, fun e0' ne0 => ?_⟩
    have sE := same_upd (o := .lst []) ne0
    have gE : upd H2 e0' (.lst []) e0' = some (.lst []) := upd_same
    have gD := sE _ _ hD
    have s2 := hP.trans sE
    generalize upd H2 e0' (.lst []) = H3 at gE gD s2 ⊢
    refine ⟨D, e0', _, rfl, rfl, sqOf gD, sqOf gE, _, rfl, ?_⟩
    by_cases ea : (tl w).all isLow = true
    · rw [decide_eq_true (eN.mpr ea)]
      rw [if_pos ⟨e0, ea⟩] at kQ
      exact iteT ⟨.str w, rfl, (by show 1 ≤ sizeLine; decide), fun l nl => kQ l _ (s2.trans (same_upd nl)) upd_same⟩
    · rw [decide_eq_false (fun z => ea (eN.mp z))]
      rw [if_neg (fun z => ea z.2)] at kQ
      exact iteF ⟨Nat.zero_le _, fun l nl => kQ l _ (s2.trans (same_upd nl)) upd_same⟩
end
end KP
namespace KP
open PySem PySem.Spec PyProof.Rows L2 EL
open Evl (pss_cut)
open TL
abbrev sLWay : Stmt := topS 47
theorem scLWay : FnScope ["_law_wide", "_law_bits", "_law_near", "_law_far", "_law_word_here", "_law_mate"] ["_law_wide", "_law_bits"] (defScope sLWay) := ⟨rfl, rfl, rfl, by decide +kernel, rfl, by decide +kernel, by decide +kernel⟩
/-- the move that the words of a line tell, by the law -/
def wayB (n : Nat) : List Str → Option Mv
  | [h, a, b, c, d] => if h = ("move" : Str) then (match numOf a, txtOf b, txtOf c, numOf d with
    | some s, some l, some r, some t => if s < n ∧ t < n then some ⟨s, tl l, tl r, t⟩ else none
    | _, _, _, _ => none) else none
  | _ => none
theorem moveAt_way (ls : List Str) (i n : Nat) : moveAt ls i n = (ls[i]?).bind fun l => wayB n (wordsOf l) := by
  unfold moveAt wordsAt
  cases ls[i]? with
  | none => rfl
  | some l =>
    dsimp only [Option.bind]
    generalize wordsOf l = ws
    match ws with
    | [] => rfl
    | [h] => by_cases e : h = ("move" : Str) <;> simp [wayB, e]
    | [h, a] => by_cases e : h = ("move" : Str) <;> simp [wayB, e]
    | [h, a, b] => by_cases e : h = ("move" : Str) <;> simp [wayB, e]
    | [h, a, b, c] => by_cases e : h = ("move" : Str) <;> simp [wayB, e]
    | [h, a, b, c, d] =>
      by_cases e : h = ("move" : Str)
      · subst e; simp [wayB]; try rfl
      · simp [wayB, e]
    | h :: a :: b :: c :: d :: e' :: r => by_cases e : h = ("move" : Str) <;> simp [wayB, e]
theorem way_not5 {n : Nat} : ∀ {bs : List Str}, bs.length ≠ 5 → wayB n bs = none
  | [], _ => rfl
  | [_], _ => rfl
  | [_, _], _ => rfl
  | [_, _, _], _ => rfl
  | [_, _, _, _], _ => rfl
  | [_, _, _, _, _], h => absurd rfl h
  | _ :: _ :: _ :: _ :: _ :: _ :: _, _ => rfl
theorem of_five {α : Type} : ∀ {bs : List α}, bs.length = 5 → ∃ h a b c d, bs = [h, a, b, c, d]
  | [h, a, b, c, d], _ => ⟨h, a, b, c, d, rfl⟩
  | [], z => by simp at z
  | [_], z => by simp at z
  | [_, _], z => by simp at z
  | [_, _, _], z => by simp at z
  | [_, _, _, _], z => by simp at z
  | _ :: _ :: _ :: _ :: _ :: _ :: _, z => by simp at z
theorem chain01 {σ : L2.St} {H : Hp} {i j : Nat} {z n : Int} {Q : Bool → Hp → Prop} (h1 : σ[i]? = some (some (.int z))) (h2 : σ[j]? = some (some (.int n))) (q : Q (decide (0 ≤ z) && decide (z < n)) H) :
    tTest (tChain (rI0 fun i j => .bl (decide (i ≤ j))) (rI0 fun i j => .bl (decide (i < j))) (tC (.int 0)) (tVar i) (tVar j)) σ H Q := by
  refine ⟨_, h1, _, _, rfl, rfl, _, rfl, ?_⟩
  by_cases c : 0 ≤ z
  · rw [decide_eq_true c] at q ⊢
    refine iteT ⟨_, h2, _, _, rfl, rfl, _, rfl, ?_⟩
    exact q
  · rw [decide_eq_false c] at q ⊢
    exact iteF ⟨_, rfl, q⟩
def spWayL (K : PySem.W.Frag) : Sp := fun vs H Q _ => ∃ (n : Nat) (v : Addr) (bs : List Str), vs = [.int (n : Int), .ref v] ∧ SqL K H v (bs.map V.str) ∧ (∀ w ∈ bs, Page w) ∧ bs.length ≤ 100000 ∧
  (∀ H', Same H H' → wayB n bs = none → Q .non H') ∧ ∀ (m : Mv) (v' : V) H', Same H H' → wayB n bs = some m → Dq K H' v' (mvD m) → Q v' H'

section
variable {P : Program} {w : World} {K : PySem.W.Frag} {mg : Str → Option Value} {base : Heap}
theorem ok_LWay {f : Addr} {fd : FuncData} {k : Nat} (F : Fun K "_law_way" "_law_way" sLWay f fd) (nlen : mg "len" = none) (CLNumber : Cal P w K mg base k "_law_number" ["_law_bit"] spNumL) (CLWordTold : Cal P w K mg base k "_law_word_told" ["_law_bit"] spWordL) : FnOk P w K mg base CX0 (k + 1) f fd ["_law_wide", "_law_bits"] (spWayL K) := by
  refine F.ok scLWay (fun vs H Q E h => ?_) (fun cdv A outer s H vs Q E hr h => ?_)
  · obtain ⟨n, v, ws, rfl, _⟩ := h; rfl
  · obtain ⟨n, v, bs, rfl, hv, pw, bl, kN, kS⟩ := h
    have hu := hr.units
    refine ⟨_, (pss_cons (ps_if (PW.pt (pw_or (pt_cmpR op_ne (pe_callB (show CallR _ _ (rLenK K) from call_len) (by rfl) nlen (by decide +kernel) (pa_cons (pv 1) pa_nil)) pe_int (nomark _)) (pw_or1 (pt_cmpR op_ne (pe_ix (show IxR _ (rIxL K) from ix_list) (pv 1) pe_int (fun _ _ => rfl)) pe_str (nomark _))))) (pss_one (ps_ret pe_non)) pss_nil)
      (pss_cons (ps_par (i := 2) (j := 3) (by rfl) scLWay.nd rfl rfl (by decide) rfl rfl (pa_cons (pe_cal CLNumber hr (by rfl) pass0 (pa_cons (pe_ix (show IxR _ (rIxL K) from ix_list) (pv 1) pe_int (fun _ _ => rfl)) pa_nil)) (pa_cons (pe_cal CLNumber hr (by rfl) pass0 (pa_cons (pe_ix (show IxR _ (rIxL K) from ix_list) (pv 1) pe_int (fun _ _ => rfl)) pa_nil)) pa_nil)) (by rfl))
      (pss_cons (ps_par (i := 4) (j := 5) (by rfl) scLWay.nd rfl rfl (by decide) rfl rfl (pa_cons (pe_cal CLWordTold hr (by rfl) pass0 (pa_cons (pe_ix (show IxR _ (rIxL K) from ix_list) (pv 1) pe_int (fun _ _ => rfl)) pa_nil)) (pa_cons (pe_cal CLWordTold hr (by rfl) pass0 (pa_cons (pe_ix (show IxR _ (rIxL K) from ix_list) (pv 1) pe_int (fun _ _ => rfl)) pa_nil)) pa_nil)) (by rfl))
      (pss_cons (ps_if (PW.pt (pw_or (pt_not (pt_chain op_le op_lt pe_int (pv 2) (pv 0))) (pw_or (pt_not (pt_chain op_le op_lt pe_int (pv 3) (pv 0))) (pw_or (pt_cmpR (op_eqN hr.units0) (pv 4) (pe_lst pa_nil) (nomark _)) (pw_or1 (pt_cmpR (op_eqN hr.units0) (pv 5) (pe_lst pa_nil) (nomark _))))))) (pss_one (ps_ret pe_non)) pss_nil)
      (pss_one (ps_ret (pe_tup (pa_cons (pv 2) (pa_cons (pe_ix (show IxR _ (rIxL K) from ix_list) (pv 4) pe_int (fun _ _ => rfl)) (pa_cons (pe_ix (show IxR _ (rIxL K) from ix_list) (pv 5) pe_int (fun _ _ => rfl)) (pa_cons (pv 3) pa_nil))))))))))), ?_⟩
    have zs : sizeLine = 16777216 := by decide
    refine ⟨.ref v, rfl, .ref v, _, rfl, .inl ⟨_, hv, rfl⟩, rfl, _, rfl, ?_⟩
    rw [List.length_map]
    by_cases c5 : bs.length ≠ 5
    · rw [show (!decide (V.int ((bs.length : Nat) : Int) = V.int 5)) = true by rw [decide_eq_false (fun z => c5 (by have := V.int.inj z; omega))]; rfl]
      exact iteT (kN H (Same.refl H) (way_not5 c5))
    have c5 := Classical.not_not.mp c5
    rw [show (!decide (V.int ((bs.length : Nat) : Int) = V.int 5)) = false by rw [decide_eq_true (by rw [c5]; rfl)]; rfl]
    obtain ⟨h, a, b, c, d, rfl⟩ : ∃ h a b c d, bs = [h, a, b, c, d] := of_five c5
    refine iteF ⟨.ref v, rfl, v, _, 0, .str h, rfl, rfl, hv, atI_nat (j := 0) rfl, rfl, _, rfl, ?_⟩
    by_cases eh : h ≠ ("move" : Str)
    · rw [show (!decide (V.str h = V.str ("move" : Str))) = true by rw [decide_eq_false (fun z => eh (V.str.inj z))]; rfl]
      exact iteT (kN H (Same.refl H) (by show (if h = _ then _ else _) = _; rw [if_neg eh]))
    have eh := Classical.not_not.mp eh
    rw [show (!decide (V.str h = V.str ("move" : Str))) = false by rw [decide_eq_true (by rw [eh])]; rfl]
    have kN : ∀ H', Same H H' → (match numOf a, txtOf b, txtOf c, numOf d with
      | some s, some l, some r, some t => if s < n ∧ t < n then some (⟨s, tl l, tl r, t⟩ : Mv) else none
      | _, _, _, _ => none) = none → Q .non H' := fun H' s e => kN H' s (by show (if h = _ then _ else _) = _; rw [if_pos eh]; exact e)
    have kS : ∀ (m : Mv) (v' : V) H', Same H H' → (match numOf a, txtOf b, txtOf c, numOf d with
      | some s, some l, some r, some t => if s < n ∧ t < n then some (⟨s, tl l, tl r, t⟩ : Mv) else none
      | _, _, _, _ => none) = some m → Dq K H' v' (mvD m) → Q v' H' := fun m v' H' s e => kS m v' H' s (by show (if h = _ then _ else _) = _; rw [if_pos eh]; exact e)
    have pa := (pw a (by simp)).1
    have pb := (pw b (by simp)).1
    have pc := (pw c (by simp)).1
    have pd := (pw d (by simp)).1
    refine iteF ⟨.ref v, rfl, v, _, 1, .str a, rfl, rfl, hv, atI_nat (j := 1) rfl, a, rfl, pa, fun H1 s1 => ⟨.ref v, rfl, v, _, 4, .str d, rfl, rfl, ex_l' s1 hv, atI_nat (j := 4) rfl, d, rfl, pd, fun H2 s2 => ?_⟩⟩
    have s12 := s1.trans s2
    refine ⟨_, _, rfl, ?_⟩
    refine ⟨.ref v, rfl, v, _, 2, .str b, rfl, rfl, ex_l' s12 hv, atI_nat (j := 2) rfl, b, rfl, pb, fun l1 H3 s3 g3 => ⟨.ref v, rfl, v, _, 3, .str c, rfl, rfl, ex_l' (s12.trans s3) hv, atI_nat (j := 3) rfl, c, rfl, pc, fun l2 H4 s4 g4 => ?_⟩⟩
    have s14 := (s12.trans s3).trans s4
    have g3 := s4 _ _ g3
    refine ⟨_, _, rfl, ?_⟩
    refine chain01 (z := numZ a) (n := (n : Int)) rfl rfl ?_
    have zA := numZ_opt a
    have zD := numZ_opt d
    have nth : ∀ {H'}, Same H H' → (numOf a = none ∨ numOf d = none ∨ txtOf b = none ∨ txtOf c = none) → Q .non H' := fun {H'} s h => kN H' s (by
      rcases h with h | h | h | h
      · simp [h]
      · rw [h]; cases numOf a <;> cases txtOf b <;> cases txtOf c <;> simp
      · rw [h]; cases numOf a <;> simp
      · rw [h]; cases numOf a <;> cases txtOf b <;> simp)
    have out : ∀ {H'}, Same H H' → ∀ x, numOf a = some x → ¬ x < n → Q .non H' := fun {H'} s x e h => kN H' s (by
      rw [e]; cases txtOf b <;> cases txtOf c <;> cases numOf d <;> simp [h])
    have out2 : ∀ {H'}, Same H H' → ∀ x, numOf d = some x → ¬ x < n → Q .non H' := fun {H'} s x e h => kN H' s (by
      rw [e]; cases numOf a <;> cases txtOf b <;> cases txtOf c <;> simp [h])
    have badT : ∀ {z : Int} {o : Option Nat}, (∃ x, o = some x ∧ z = (x : Int)) ∨ (o = none ∧ z = -1) → (decide (0 ≤ z) && decide (z < (n : Int))) = false → o = none ∨ ∃ x, o = some x ∧ ¬ x < n := fun {z o} h e => by
      rcases h with ⟨x, h1, h2⟩ | ⟨h1, _⟩
      · refine .inr ⟨x, h1, fun l => ?_⟩
        rw [h2, decide_eq_true (by omega), decide_eq_true (by omega)] at e
        cases e
      · exact .inl h1
    have goodT : ∀ {z : Int} {o : Option Nat}, (∃ x, o = some x ∧ z = (x : Int)) ∨ (o = none ∧ z = -1) → (decide (0 ≤ z) && decide (z < (n : Int))) = true → ∃ x, o = some x ∧ x < n ∧ z = (x : Int) := fun {z o} h e => by
      rw [Bool.and_eq_true, decide_eq_true_eq, decide_eq_true_eq] at e
      rcases h with ⟨x, h1, h2⟩ | ⟨_, h2⟩
      · exact ⟨x, h1, by omega, h2⟩
      · omega
    have zA : (∃ x, numOf a = some x ∧ numZ a = (x : Int)) ∨ (numOf a = none ∧ numZ a = -1) := zA.imp (fun z => z.2.2) id
    have zD : (∃ x, numOf d = some x ∧ numZ d = (x : Int)) ∨ (numOf d = none ∧ numZ d = -1) := zD.imp (fun z => z.2.2) id
    cases eA : (decide (0 ≤ numZ a) && decide (numZ a < (n : Int))) with
    | false =>
      refine iteT ?_
      rcases badT zA eA with h | ⟨x, h1, h2⟩
      · exact nth s14 (.inl h)
      · exact out s14 x h1 h2
    | true =>
    obtain ⟨x, ea, xl, ez⟩ := goodT zA eA
    refine iteF (chain01 (z := numZ d) (n := (n : Int)) rfl rfl ?_)
    cases eD : (decide (0 ≤ numZ d) && decide (numZ d < (n : Int))) with
    | false =>
      refine iteT ?_
      rcases badT zD eD with h | ⟨x, h1, h2⟩
      · exact nth s14 (.inr (.inl h))
      · exact out2 s14 x h1 h2
    | true =>
    obtain ⟨y, ed, yl, ey⟩ := goodT zD eD
    refine iteF ⟨_, rfl, Nat.zero_le _, fun e1 ne1 => ?_⟩
    have sE := same_upd (o := .lst []) ne1
    have gE : upd H4 e1 (.lst []) e1 = some (.lst []) := upd_same
    have g3 := sE _ _ g3
    have g4 := sE _ _ g4
    have s15 := s14.trans sE
    generalize upd H4 e1 (.lst []) = H5 at gE g3 g4 s15 ⊢
    refine ⟨l1, e1, _, rfl, rfl, sqOf g3, sqOf gE, _, rfl, ?_⟩
    cases eB : txtOf b with
    | none => exact iteT (nth s15 (.inr (.inr (.inl eB))))
    | some tb =>
    rw [eB] at g3
    refine iteF ⟨_, rfl, Nat.zero_le _, fun e2 ne2 => ?_⟩
    have sE := same_upd (o := .lst []) ne2
    have gE : upd H5 e2 (.lst []) e2 = some (.lst []) := upd_same
    have g3 := sE _ _ g3
    have g4 := sE _ _ g4
    have s16 := s15.trans sE
    generalize upd H5 e2 (.lst []) = H6 at gE g3 g4 s16 ⊢
    refine ⟨l2, e2, _, rfl, rfl, sqOf g4, sqOf gE, _, rfl, ?_⟩
    cases eC : txtOf c with
    | none => exact iteT (nth s16 (.inr (.inr (.inr eC))))
    | some tc =>
    rw [eC] at g4
    refine iteF ⟨_, rfl, _, rfl, l1, _, 0, .str tb, rfl, rfl, sqOf g3, atI_nat (j := 0) rfl, _, rfl, l2, _, 0, .str tc, rfl, rfl, sqOf g4, atI_nat (j := 0) rfl, _, rfl, by show 4 ≤ sizeLine; decide, fun p np => ?_⟩
    refine kS ⟨x, tl tb, tl tc, y⟩ _ _ (s16.trans (same_upd np)) ?_ ?_
    · rw [ea, eB, eC, ed]
      dsimp only
      rw [if_pos ⟨xl, yl⟩]
    · rw [ez, ey]
      exact .tup (stOf upd_same) (.cons (.int _) (.cons (.str _) (.cons (.str _) (.cons (.int _) .nil))))
end
end KP
/-! enumerate(tuple). -/
namespace EL
open PySem PySem.Spec PyProof.Rows L2
/-- the tuple at a, each item in a new pair with its number -/
def IteT (K : PySem.W.Frag) (a : Addr) : It :=
  ⟨fun i G => ∃ (ys : List V) (y : V), SqT K G a ys ∧ ys[i]? = some y,
   fun i G v G' => ∃ pr y, v = .ref pr ∧ G pr = none ∧ G' = upd G pr (.tup [.int (i : Nat), y]) ∧ ∀ ys, SqT K G a ys → ys[i]? = some y,
   fun i G => ∃ ys : List V, SqT K G a ys ∧ ys.length = i⟩
theorem tup_ne_iter {h : Heap} {a it : Addr} {i : Nat} {items : Array Value} (x : h.IsTupleIter it a i) (y : h.IsTuple a items) : a ≠ it := by
  obtain ⟨o, ho, _, hd⟩ := x
  obtain ⟨u, hu, _, _, hd'⟩ := y
  intro z
  rw [z, ho] at hu
  cases hu
  rw [hd] at hd'
  cases hd'
theorem turn_enumT {P : Program} {w : World} {K : PySem.W.Frag} {elts : List Expr} {kk : Nat} {tpos : Pos} (a en it : Addr) :
    Turn P w K (.Tuple elts kk tpos) (IteT K a) [en, it] en (fun i h => (∃ last, IsEnum h en it ((i : Nat) : Int) last) ∧ h.IsTupleIter it a i ∧ en ≠ it) where
  mem := by simp
  obj := fun i h sx b hb => by
    obtain ⟨⟨last, hE⟩, ⟨o, ho, hc, hd⟩, _⟩ := sx
    rcases (show b = en ∨ b = it by simpa using hb) with z | z
    · rw [z]; exact ⟨_, hE, fun v q => nomatch q⟩
    · rw [z]; exact ⟨o, ho, fun v q => by rw [hd] at q; cases q⟩
  keep := fun i h h' sx k => let ⟨⟨last, hE⟩, hI, hN⟩ := sx; ⟨⟨last, k en (by simp) _ hE⟩, hI.at fun o q => k it (by simp) o q, hN⟩
  item := by
    intro X hP hw hK hc i pins s σ H E I hf sx hg
    subst hP hw hK
    obtain ⟨⟨last, hE⟩, hI, hN⟩ := sx
    obtain ⟨ys, y, hq, hy⟩ := hg
    obtain ⟨its, rv, p, hz⟩ := I.tuple hq
    obtain ⟨u, hu, ru⟩ := rv.get hy
    have isT : s.heap.IsTuple a its.toArray := p
    have ltE : en < s.heap.objs.size := Heap.lt_size hE
    have ltI : it < s.heap.objs.size := by obtain ⟨_, q, _⟩ := hI; exact Heap.lt_size q
    have nai := tup_ne_iter hI isT
    have nea : en ≠ a := fun z => by
      obtain ⟨o, ho, _, _, hd⟩ := isT
      rw [← z, hE] at ho; cases ho; cases hd
    have ilt : i < its.toArray.size := by
      have := (List.getElem?_eq_some_iff.mp hu).1
      simpa using this
    refine wpAny_pyNext_enum_itemD (Draws.tuple (show X.A.in1.handled = none from I.ok.hd hc) it a nai its.toArray) hE ⟨hI, isT⟩ ilt hN (by simp [hN, nea]) fun x h1 tk hx out st1 tup1 sz1 kp => ?_
    have hx2 : x = u := by
      have : its.toArray[i]? = some x := hx
      rw [show its.toArray[i]? = some u by simpa using hu] at this
      exact (Option.some.inj this).symm
    subst hx2
    refine ⟨_, rfl, wpAny_letOwnedTupleGo_enum (s := { s with heap := h1, toks := tk + 1 }) out fun h2 hE2 same2 => ?_⟩
    have tup2 : h2.get? s.heap.objs.size = some { cls := .type "tuple", data := .seq #[.int i tk, x] } := (same2.2 _ (Nat.ne_of_gt ltE)).trans tup1
    have okN : ObjOk X.prog X.w (upd H s.heap.objs.size (.tup [.int (i : Nat), y])) h2 s.heap.objs.size (.tup [.int (i : Nat), y]) :=
      ⟨by show 2 ≤ sizeLine; decide, [.int i tk, x], .cons ⟨_, rfl⟩ (.cons ru .nil), ⟨_, tup2, rfl, _, rfl⟩⟩
    have I2 : Inv X pins σ (upd H s.heap.objs.size (.tup [.int (i : Nat), y])) { s with heap := h2, toks := tk + 1 } :=
      I.turnedNew (ch := [en, it]) (fun b ob hb q => (same2.2 b (fun z => hb (by simp [z]))).trans (kp b ob (fun z => hb (by simp [z])) (fun z => hb (by simp [z])) q)) hf (Nat.le_refl _) okN
    refine ⟨.ref s.heap.objs.size, _, I2, rfl, ⟨_, y, rfl, I.hok.fresh (Nat.le_refl _), rfl, fun zs hy2 => by rw [I.tuple_inj hy2 hq]; exact hy⟩, ⟨⟨x, ?_⟩, st1.1.at fun o q => (same2.2 it (Ne.symm hN)).trans q, hN⟩, fun b hb => ?_⟩
    · rw [show ((i + 1 : Nat) : Int) = (i : Int) + 1 by omega]; exact hE2
    · have : b < s.heap.objs.size := by
        rcases (show b = en ∨ b = it by simpa using hb) with z | z
        · rw [z]; exact ltE
        · rw [z]; exact ltI
      rw [upd_ne (Nat.ne_of_lt this)]
      exact (hf b hb).1
  done := by
    intro X hP hw hK hc i pins s σ H E I hf sx hg
    subst hP hw hK
    obtain ⟨⟨last, hE⟩, hI, hN⟩ := sx
    obtain ⟨ys, hq, hy⟩ := hg
    obtain ⟨its, rv, p, hz⟩ := I.tuple hq
    have isT : s.heap.IsTuple a its.toArray := p
    obtain ⟨f0, f1, f2, f3, f4, f5⟩ := hf it (by simp)
    have hl := rv.length
    have nai := tup_ne_iter hI isT
    have en0 : i = its.toArray.size := by
      have e1 : its.length = ys.length := hl.symm
      simp only [List.size_toArray]; omega
    subst en0
    exact wpAny_pyNext_enum_endD (Draws.tuple (show X.A.in1.handled = none from I.ok.hd hc) it a nai its.toArray) hE ⟨hI, isT⟩ fun h1 eb => ⟨rfl, I.turned (t' := s.toks) (fun b o hb q => eb b o hb q) f0 f1 f3 f4 f5⟩
  self := fun A i s Q E sx h => let ⟨⟨_, hE⟩, _⟩ := sx; wpAny_pyIter_enum hE h
theorem walk_enumT {K : PySem.W.Frag} {a : Addr} {ys : List V} : Walk (IteT K a) ys.length (fun G => SqT K G a ys) (YPair (fun i => some (.int (i : Nat))) (fun i => ys[i]?)) := by
  refine ⟨fun i G hi q => ⟨ys, ys[i], q, List.getElem?_eq_getElem hi⟩, fun _ q => ⟨ys, q, rfl⟩, fun i G v G' hi q x => ?_⟩
  obtain ⟨pr, y, h1, h2, h3, h4⟩ := x
  exact ⟨pr, .int (i : Nat), y, h1, h2, h3, rfl, h4 ys q⟩
theorem meets_enum_tup (a : Addr) (items : Array Value) (n : Nat) (dct : Option Addr) (sl : Array (Option Value)) :
    Meets (Builtin.«enumerate.__new__» ⟨[.type "enumerate", .ref a], []⟩) (fun _ R s => s.heap.get? a = some { cls := .type "tuple", dict := dct, data := .seq items n, slots := sl } ∧
      R (.ok (.ret (.ref (s.heap.push { cls := .type "tuple_iterator", data := .fields #[.ref a, .int 0 0] }).objs.size)))
        { s with heap := (s.heap.push { cls := .type "tuple_iterator", data := .fields #[.ref a, .int 0 0] }).push { cls := .type "enumerate", data := .fields #[.none, .bool false, .ref s.heap.objs.size, rawInt 0, .none, .none] } }) :=
  .of_wp fun prog w A R s h => by
    obtain ⟨hp, g, d, tk, os⟩ := s; obtain ⟨hl, h⟩ := h
    have sub1 := sub_enumerate
    have isT : Heap.IsTuple (Shared.heap ⟨hp, g, d, tk, os⟩) a items := ⟨_, hl, rfl, n, rfl⟩
    wp_walk using wpAny_loadPart' hl
    refine wpAny_stack_any fun st => wpAny_pure ?_
    split
    · rename_i c _ _ _ _ _
      cases (c == Value.type "enumerate")
      · (wp_walk using wpAny_loadPart' hl, wpAny_pyIter_tuple isT); exact ⟨_, rfl, h⟩
      · (wp_walk using wpAny_loadPart' hl, wpAny_pyIter_tuple isT); exact ⟨_, rfl, h⟩
    · (wp_walk using wpAny_loadPart' hl, wpAny_pyIter_tuple isT); exact ⟨_, rfl, h⟩
theorem call_enum_tup {prog : Program} {w : World} {A : Around} {E : Value → Shared → Prop} {s : Shared} {a : Addr} {items : Array Value} {Q : Value → Shared → Prop} (hT : s.heap.IsTuple a items)
    (h : ∀ h1, IsEnum h1 (s.heap.objs.size + 1) s.heap.objs.size 0 .none → h1.IsTupleIter s.heap.objs.size a 0 → (∀ b o, s.heap.get? b = some o → h1.get? b = some o) → Q (.ref (s.heap.objs.size + 1)) { s with heap := h1 }) :
    wpAny (model prog w) A (call (.type "enumerate") [.ref a]) Q E s := by
  obtain ⟨⟨c, dct, dt, sl⟩, hl, hc, n, hd⟩ := hT
  replace hc : c = .type "tuple" := hc
  replace hd : dt = .seq items n := hd
  subst hc hd
  refine callType_new F.called_enumerate (by decide) (F.typeCall_enumerate_1 _) (F.newCall_enumerate_1 _) (fun obj => F.args_object_init_2 obj _) F.entry_enumerate_new (meets_enum_tup a items n dct sl) ⟨hl, ?_⟩
  have sz : (s.heap.push { cls := .type "tuple_iterator", data := .fields #[.ref a, .int 0 0] }).objs.size = s.heap.objs.size + 1 := Heap.size_push ..
  show _ ∧ _
  rw [sz]
  have hE : IsEnum ((s.heap.push { cls := .type "tuple_iterator", data := .fields #[.ref a, .int 0 0] }).push { cls := .type "enumerate", data := .fields #[.none, .bool false, .ref s.heap.objs.size, rawInt 0, .none, .none] }) (s.heap.objs.size + 1) s.heap.objs.size 0 .none := by
    have := Heap.get?_push_size (s.heap.push { cls := .type "tuple_iterator", data := .fields #[.ref a, .int 0 0] }) (o := { cls := .type "enumerate", data := .fields #[.none, .bool false, .ref s.heap.objs.size, rawInt 0, .none, .none] }) rfl
    rw [sz] at this; exact this
  exact ⟨⟨_, hE, rfl⟩, h _ hE ⟨_, Heap.get?_push_of_some _ (Heap.get?_push_size _ rfl), rfl, rfl⟩ fun b o x => Heap.get?_push_of_some _ (Heap.get?_push_of_some _ x)⟩
def iEnumT (K : PySem.W.Frag) (ta : TA) : TI := fun σ H R => ta σ H fun vs H1 => ∃ a ys, vs = [.ref a] ∧ SqT K H1 a ys ∧ R (IteT K a) H1
theorem pi_enumT {X : Cx} {e : Expr} {ta : TA} {p pos tpos : Pos} {elts : List Expr} {kk : Nat} (hg : Gl X "enumerate") (hm : X.mg "enumerate" = none) (ha : PA X [e] ta) (hs : starEach [e] X.env = [(false, eval e X.env)] := by rfl) :
    PI X (.Tuple elts kk tpos) (.Call (.Name "enumerate" p) [e] [] pos) (iEnumT X.K ta) := by
  refine ⟨fun pins s σ H R I h => ?_⟩
  refine Call_ (ld_blt I hg hm boot_enumerate (PyProof.Rows.callWith_type1 (thn (ha.run pos pins s σ H _ I h) fun us s1 ⟨vs, G1, I1, r1, a, ys, ex, hq, q⟩ => ?_) hs rfl))
  subst ex
  cases r1 with
  | cons r rr =>
    cases rr
    cases r
    obtain ⟨its, rv, p', hz⟩ := I1.tuple hq
    refine call_enum_tup (show s1.heap.IsTuple a its.toArray from p') fun h1 hE hI kp => wpAny_pyIter_enum hE ?_
    have I2 : Inv X pins σ G1 { s1 with heap := h1 } := I1.kept (t' := s1.toks) kp
    refine ⟨s1.heap.objs.size + 1, [s1.heap.objs.size + 1, s1.heap.objs.size], _, _, G1, rfl, I2, turn_enumT a (s1.heap.objs.size + 1) s1.heap.objs.size, ⟨⟨.none, hE⟩, hI, Nat.succ_ne_self _⟩, fun b hb => ?_, q⟩
    have le1 : s1.heap.objs.size ≤ b := by
      rcases (show b = s1.heap.objs.size + 1 ∨ b = s1.heap.objs.size by simpa using hb) with z | z <;> rw [z] <;> omega
    exact I1.fpOk le1 (I1.hok.fresh le1)
end EL
namespace KP
open PySem PySem.Spec PyProof.Rows L2 EL
open Evl (pss_cut)
open TL
abbrev sLDue : Stmt := topS 48
theorem scLDue : FnScope ["_law_it", "_law_lines", "_law_wide", "_law_told", "_law_at", "_law_word_here", "_law_some_here", "_law_ways", "_law_bits", "_law_way_here", "_law_line_now"] ["_law_it"] (defScope sLDue) := ⟨rfl, rfl, rfl, by decide +kernel, rfl, by decide +kernel, by decide +kernel⟩
/-- what is due -/
def planD (pl : Plan) : PyData := .tuple [.int (pl.wide : Int), .tuple (nats pl.ins), .tuple (pl.ways.map mvD), .tuple (nats pl.outs)]
def badL (l : Nat) : PyData := .list [.str "bad", .int (l : Int), .bool true]
def dueD : PyData → PyData
  | .str t => match outT t with
    | .inr l => badL l
    | .inl pl => .list [.str "fine", planD pl]
  | _ => badL 0
/-- a text whose lines have few words -/
def Words63 (t : Str) : Prop := ∀ l ∈ linesOf t, (wordsOf l).length < 64
def spDue (K : PySem.W.Frag) : Sp := fun vs H Q _ => ∃ (v : V) (d : PyData), vs = [v] ∧ Dq K H v d ∧ (∀ t, d = .str t → TextOk t ∧ Words63 t) ∧ ∀ v' H', Same H H' → Dq K H' v' (dueD d) → Q v' H'

theorem wordsAt_bits (ls : List Str) (i : Nat) (hd : Str) : wordsAt ls i hd = (ls[i]?).bind fun l => match wordsOf l with | h :: r => (if h = hd then some r else none) | [] => none := by
  unfold wordsAt
  cases ls[i]? with
  | none => rfl
  | some l =>
    dsimp only [Option.bind]
    generalize wordsOf l = ws
    cases ws with
    | nil => simp
    | cons h r => by_cases e : h = hd <;> simp [e]
theorem sizeAt_bits {ls : List Str} {l : Str} {i : Nat} {hd : Str} (e : ls[i]? = some l) : sizeAt ls i hd = match wordsOf l with | [h, w] => (if h = hd then (match numOf w with | some n => if 1 ≤ n then some n else none | none => none) else none) | _ => none := by
  unfold sizeAt
  rw [wordsAt_bits, e]
  dsimp only [Option.bind]
  generalize wordsOf l = ws
  match ws with
  | [] => rfl
  | [h] => by_cases q : h = hd <;> simp [q]
  | [h, w] =>
    by_cases q : h = hd
    · subst q; (simp) <;> rfl
    · simp [q]
  | h :: w :: x :: r => by_cases q : h = hd <;> simp [q]
theorem statesAt_bits {ls : List Str} {i : Nat} {hd : Str} {n : Nat} : statesAt ls i hd n = (ls[i]?).bind fun l => match wordsOf l with | h :: r => (if h = hd then someL n r else none) | [] => none := by
  rw [statesAt_some, wordsAt_bits]
  cases ls[i]? with
  | none => rfl
  | some l =>
    dsimp only [Option.bind]
    generalize wordsOf l = ws
    cases ws with
    | nil => rfl
    | cons h r => by_cases e : h = hd <;> simp [e]
theorem dq_ints9 {K : PySem.W.Frag} {H : Hp} : ∀ ns : List Int, DqAll K H (ns.map V.int) (ns.map PyData.int)
  | [] => .nil
  | n :: r => .cons (.int n) (dq_ints9 r)
theorem of_two {α : Type} : ∀ {l : List α}, l.length = 2 → ∃ a b, l = [a, b]
  | [a, b], _ => ⟨a, b, rfl⟩
  | [], z => by simp at z
  | [_], z => by simp at z
  | _ :: _ :: _ :: _, z => by simp at z
theorem words_cons (l : Str) : ∃ h r, wordsOf l = h :: r := by
  have : 1 ≤ (wordsOf l).length := PyProof.Rows.split_pos l spS
  cases e : wordsOf l with
  | nil => rw [e] at this; cases this
  | cons h r => exact ⟨h, r, rfl⟩
def hdAt : Nat → Str
  | 0 => "begins"
  | _ => "ends"
theorem outL_bad0 {ls : List Str} (h : sizeAt ls 0 "pacer" = none) : outL ls = .inr 1 := by unfold outL; rw [h]
theorem outL_bad1 {ls : List Str} {n : Nat} (h : sizeAt ls 0 "pacer" = some n) (h1 : statesAt ls 1 (hdAt 0) n = none) : outL ls = .inr 2 := by
  have h1 : statesAt ls 1 "begins" n = none := h1
  unfold outL; rw [h]; dsimp only; rw [h1]
theorem outL_bad2 {ls : List Str} {n : Nat} {a : List Nat} (h : sizeAt ls 0 "pacer" = some n) (h1 : statesAt ls 1 (hdAt 0) n = some a) (h2 : statesAt ls 2 (hdAt 1) n = none) : outL ls = .inr 3 := by
  have h1 : statesAt ls 1 "begins" n = some a := h1
  have h2 : statesAt ls 2 "ends" n = none := h2
  unfold outL; rw [h]; dsimp only; rw [h1]; dsimp only; rw [h2]
theorem outL_go {ls : List Str} {n : Nat} {a b : List Nat} (h : sizeAt ls 0 "pacer" = some n) (h1 : statesAt ls 1 (hdAt 0) n = some a) (h2 : statesAt ls 2 (hdAt 1) n = some b) : outL ls = match movesT ls n 3 (ls.length - 3) with | .inr l => .inr l | .inl ms => .inl ⟨n, a, ms, b⟩ := by
  have h1 : statesAt ls 1 "begins" n = some a := h1
  have h2 : statesAt ls 2 "ends" n = some b := h2
  (unfold outL; rw [h]; dsimp only; rw [h1]; dsimp only; rw [h2]) <;> rfl

section
variable {P : Program} {w : World} {K : PySem.W.Frag} {mg : Str → Option Value} {base : Heap}
theorem ok_LDue {f : Addr} {fd : FuncData} {k : Nat} (F : Fun K "_law_due" "_law_due" sLDue f fd) (nisinstance : mg "isinstance" = none) (nstr : mg "str" = none) (nlen : mg "len" = none) (ntuple : mg "tuple" = none) (nenumerate : mg "enumerate" = none) (CLNumber : Cal P w K mg base k "_law_number" ["_law_bit"] spNumL) (CLSome : Cal P w K mg base k "_law_some" ["_law_wide", "_law_bits"] (spSomeL K)) (CLWay : Cal P w K mg base k "_law_way" ["_law_wide", "_law_bits"] (spWayL K)) : FnOk P w K mg base CX0 (k + 1) f fd ["_law_it"] (spDue K) := by
  refine F.ok scLDue (fun vs H Q E h => ?_) (fun cdv A outer s H vs Q E hr h => ?_)
  · obtain ⟨v, d, rfl, _⟩ := h; rfl
  · obtain ⟨v, d, rfl, hd, hT, kQ⟩ := h
    have hu := hr.units
    refine ⟨_, (pss_cons (ps_if (pt_not (pt_val (pe_callB (show CallR _ _ (rIsi K) from call_isi) (by rfl) nisinstance (by decide +kernel) (pa_cons (pv 0) (pa_cons (pe_tyN (n := "str") nstr (by decide +kernel)) pa_nil))))) (pss_one (ps_ret (kd_lst (kd_cons kd_str (kd_cons kd_int (kd_cons kd_bl kd_nil)))))) pss_nil)
      (pss_cons (ps_par3 (i := 1) (j := 2) (l := 3) (by rfl) scLDue.nd rfl rfl rfl (by decide) (by decide) (by decide) rfl rfl rfl (pa_cons (pe_lc (own := [("_law_line_now", 10)]) (g := (gName 10)) (by rfl) scLDue.nd (pi_list (pe_split (pv 0) pe_str)) (blkOk_by (own := [("_law_line_now", 10)]) (N := ["_law_it", "_law_lines", "_law_wide", "_law_told", "_law_at", "_law_word_here", "_law_some_here", "_law_ways", "_law_bits", "_law_way_here", "_law_line_now"]) (sc := defScope sLDue) (by decide +kernel)) (fun _ _ _ _ _ => (pg_name (i := 10) scLDue.nd rfl (by first | exact Or.inl rfl | exact Or.inr rfl))) (fun _ _ _ _ _ => pts_nil) (fun _ _ _ _ _ => (pe_split (pv 10) pe_str))) (pa_cons pe_int (pa_cons (pe_lst pa_nil) pa_nil))) (by rfl))
      (pss_cons (ps_if (PW.pt (pw_or (pt_cmpR op_ne (pe_callB (show CallR _ _ (rLenK K) from call_len) (by rfl) nlen (by decide +kernel) (pa_cons (pe_ix (show IxR _ (rIxL K) from ix_list) (pv 1) pe_int (fun _ _ => rfl)) pa_nil)) pe_int (nomark _)) (pw_or (pt_cmpR op_ne (pe_ix (show IxR _ (rIxL K) from ix_list) (pe_ix (show IxR _ (rIxL K) from ix_list) (pv 1) pe_int (fun _ _ => rfl)) pe_int (fun _ _ => rfl)) pe_str (nomark _)) (pw_or1 (pt_cmpR op_lt (pe_cal CLNumber hr (by rfl) pass0 (pa_cons (pe_ix (show IxR _ (rIxL K) from ix_list) (pe_ix (show IxR _ (rIxL K) from ix_list) (pv 1) pe_int (fun _ _ => rfl)) pe_int (fun _ _ => rfl)) pa_nil)) pe_int (nomark _)))))) (pss_one (ps_ret (kd_lst (kd_cons kd_str (kd_cons kd_int (kd_cons kd_bl kd_nil)))))) pss_nil)
      (pss_cons (ps_set (i := 2) scLDue.nd rfl (by first | exact Or.inl rfl | exact Or.inr rfl) (pe_cal CLNumber hr (by rfl) pass0 (pa_cons (pe_ix (show IxR _ (rIxL K) from ix_list) (pe_ix (show IxR _ (rIxL K) from ix_list) (pv 1) pe_int (fun _ _ => rfl)) pe_int (fun _ _ => rfl)) pa_nil)))
      (pss_cons (ps_for PassesOwn.never rfl (pi_tup (kd_tup (kd_cons (kd_tup (kd_cons kd_int (kd_cons kd_str kd_nil))) (kd_cons (kd_tup (kd_cons kd_int (kd_cons kd_str kd_nil))) kd_nil)))) (pg_tup (by rfl) (pgs_cons (pg_name (i := 4) scLDue.nd rfl (by first | exact Or.inl rfl | exact Or.inr rfl)) (pgs_cons (pg_name (i := 5) scLDue.nd rfl (by first | exact Or.inl rfl | exact Or.inr rfl)) pgs_nil))) (pss_cons (ps_set (i := 6) scLDue.nd rfl (by first | exact Or.inl rfl | exact Or.inr rfl) (pe_ifExp (PW.pt (pw_and (pt_cmpR op_lt (pv 4) (pe_callB (show CallR _ _ (rLenK K) from call_len) (by rfl) nlen (by decide +kernel) (pa_cons (pv 1) pa_nil)) (nomark _)) (pw_and1 (pt_cmpR op_eq (pe_ix (show IxR _ (rIxL K) from ix_list) (pe_ix (show IxR _ (rIxL K) from ix_list) (pv 1) (pv 4) (fun _ _ => rfl)) pe_int (fun _ _ => rfl)) (pv 5) (nomark _))))) (pe_cal CLSome hr (by rfl) pass0 (pa_cons (pv 2) (pa_cons (pe_slice sl_list (pe_ix (show IxR _ (rIxL K) from ix_list) (pv 1) (pv 4) (fun _ _ => rfl)) (po_some pe_int) po_none) pa_nil))) pe_non))
      (pss_cons (ps_if (pt_cmpR op_isN (pv 6) pe_non (nomark _)) (pss_one (ps_ret (pe_lst (pa_cons pe_str (pa_cons (pe_op op_add (pv 4) pe_int) (pa_cons pe_bl pa_nil)))))) pss_nil)
      (pss_one (ps_expr (pe_bm PySem.F.plainAttrs_list PySem.F.slot_list_append PySem.F.type_list_append mt_append (pv 3) (pa_cons (pe_callTy call_tuple_of (by rfl) ntuple (by decide +kernel) (pa_cons (pv 6) pa_nil)) pa_nil)))))))
      (pss_cons (ps_set (i := 7) scLDue.nd rfl (by first | exact Or.inl rfl | exact Or.inr rfl) (pe_lst pa_nil))
      (pss_cons (ps_for PassesOwn.never rfl (pi_enum (by rfl) nenumerate (pa_cons (pe_slice sl_list (pv 1) (po_some pe_int) po_none) pa_nil)) (pg_tup (by rfl) (pgs_cons (pg_name (i := 4) scLDue.nd rfl (by first | exact Or.inl rfl | exact Or.inr rfl)) (pgs_cons (pg_name (i := 8) scLDue.nd rfl (by first | exact Or.inl rfl | exact Or.inr rfl)) pgs_nil))) (pss_cons (ps_set (i := 9) scLDue.nd rfl (by first | exact Or.inl rfl | exact Or.inr rfl) (pe_cal CLWay hr (by rfl) pass0 (pa_cons (pv 2) (pa_cons (pv 8) pa_nil))))
      (pss_cons (ps_if (pt_cmpR op_isN (pv 9) pe_non (nomark _)) (pss_one (ps_ret (pe_lst (pa_cons pe_str (pa_cons (pe_op op_add (pv 4) pe_int) (pa_cons pe_bl pa_nil)))))) pss_nil)
      (pss_one (ps_expr (pe_bm PySem.F.plainAttrs_list PySem.F.slot_list_append PySem.F.type_list_append mt_append (pv 7) (pa_cons (pv 9) pa_nil)))))))
      (pss_one (ps_ret (pe_lst (pa_cons pe_str (pa_cons (pe_tup (pa_cons (pv 2) (pa_cons (pe_ix (show IxR _ (rIxL K) from ix_list) (pv 3) pe_int (fun _ _ => rfl)) (pa_cons (pe_callTy call_tuple_of (by rfl) ntuple (by decide +kernel) (pa_cons (pv 7) pa_nil)) (pa_cons (pe_ix (show IxR _ (rIxL K) from ix_list) (pv 3) pe_int (fun _ _ => rfl)) pa_nil))))) pa_nil)))))))))))), ?_⟩
    refine ⟨v, rfl, v, .ty "str", _, _, _, rfl, .ty "str", tyx_of hd, kit_ty (kit_str d), _, rfl, ?_⟩
    have zs : sizeLine = 16777216 := by decide
    by_cases hs : ∀ t, d ≠ .str t
    · cases d with
      | str t => exact absurd rfl (hs t)
      | _ => exact iteT fun v' H' s dq => kQ v' H' s dq
    obtain ⟨t, rfl⟩ : ∃ t, d = .str t := Classical.byContradiction fun z => hs fun t e => z ⟨t, e⟩
    obtain ⟨tok, w63⟩ := hT t rfl
    cases hd
    have pg := tok.pg
    have pg1 := pg.1
    have kB : ∀ l v' H', outT t = .inr l → Same H H' → Dq K H' v' (badL l) → Q v' H' := fun l v' H' e s dq => kQ v' H' s (by show Dq K H' v' (match outT t with | .inr l => badL l | .inl pl => .list [.str "fine", planD pl]); rw [e]; exact dq)
    have kG : ∀ pl v' H', outT t = .inl pl → Same H H' → Dq K H' v' (.list [.str "fine", planD pl]) → Q v' H' := fun l v' H' e s dq => kQ v' H' s (by show Dq K H' v' (match outT t with | .inr l => badL l | .inl pl => .list [.str "fine", planD pl]); rw [e]; exact dq)
    have pL := pages_lines pg
    have l1 : 1 ≤ (linesOf t).length := PyProof.Rows.split_pos t nlS
    have sl := PyProof.Rows.split_le t nlS
    unfold outT at kB kG
    refine iteF ⟨.str t, rfl, ⟨t, rfl⟩, t, nlS, rfl, rfl, by decide +kernel, len_sz (by omega), fun p np => ?_⟩
    have s1 : Same H (upd H p (.lst ((linesOf t).map V.str))) := same_upd np
    have gp : upd H p (.lst ((linesOf t).map V.str)) p = some (.lst ((linesOf t).map V.str)) := upd_same
    rw [show Txt.split t nlS = linesOf t from rfl]
    generalize upd H p (.lst ((linesOf t).map V.str)) = H1 at s1 gp ⊢
    have w63' : ∀ l ∈ linesOf t, (wordsOf l).length < 64 := w63
    generalize linesOf t = ls at *
    refine ⟨p, rfl, ⟨_, sqOf gp⟩, fun D nD => ?_⟩
    refine lc_it walk_list (fun j H' => ∃ rows : List Addr, rows.length = j ∧ H' D = some (.lst (rows.map V.ref)) ∧ (∀ (x : Nat) (a : Addr), rows[x]? = some a → a ≠ D ∧ ∃ l, ls[x]? = some l ∧ H' a = some (.lst ((wordsOf l).map V.str))) ∧ Same H1 H') ⟨[], rfl, upd_same, fun x a e => by simp at e, same_upd nD⟩ (fun i H' _ z => by obtain ⟨_, _, _, _, sm⟩ := z; exact sqOf (sm _ _ gp)) ?_ ?_
    · rintro j y H9 H3 hj ⟨rows, rl, gD, hrows, sm⟩ ⟨rfl, hv2⟩
      obtain ⟨l, hl, rfl⟩ : ∃ b, ls[j]? = some b ∧ y = .str b := by
        rw [List.getElem?_map] at hv2
        obtain ⟨b, h1, h2⟩ := Option.map_eq_some_iff.mp hv2
        exact ⟨b, h1, h2.symm⟩
      have pl := pL.2 l (List.mem_of_getElem? hl)
      have pl1 := pl.1
      have hj2 : j < ls.length := (List.getElem?_eq_some_iff.mp hl).1
      have := pL.1
      refine ⟨rfl, ?_⟩
      dsimp only [tYes]
      refine iteT ⟨.str l, rfl, ⟨l, rfl⟩, l, spS, rfl, rfl, by decide +kernel, len_sz (by omega), fun q nq => ?_⟩
      have qD : q ≠ D := fun z => by rw [z, gD] at nq; cases nq
      have sq := same_upd (o := .lst ((wordsOf l).map V.str)) nq
      refine ⟨rows.map V.ref, by rw [upd_ne (Ne.symm qD)]; exact gD, lt_sz (by rw [List.length_map]; omega), rows ++ [q], by rw [List.length_append, rl]; rfl, by rw [upd_same, List.map_append]; rfl, fun x a e => ?_, fun b o e => by rw [upd_ne (ne_of_none e nD)]; exact sq _ _ (sm b o e)⟩
      rw [List.getElem?_append] at e
      split at e
      · obtain ⟨h1, l', h2, h3⟩ := hrows x a e
        exact ⟨h1, l', h2, by rw [upd_ne h1]; exact sq _ _ h3⟩
      · rename_i qq
        have : x - rows.length = 0 := by
          cases z : x - rows.length with
          | zero => rfl
          | succ y => rw [z] at e; simp at e
        rw [this] at e
        cases e
        rw [show x = j by omega]
        exact ⟨qD, l, hl, by rw [upd_ne qD, upd_same]; rfl⟩
    rintro H3 ⟨rows, rl, gD, hrows, s3⟩
    rw [List.length_map] at rl
    have s13 := s1.trans s3
    have row : ∀ (x : Nat) (l : Str), ls[x]? = some l → ∃ a, rows[x]? = some a ∧ a ≠ D ∧ H3 a = some (.lst ((wordsOf l).map V.str)) := fun x l e => by
      obtain ⟨a, ha⟩ : ∃ a, rows[x]? = some a := ⟨_, List.getElem?_eq_getElem (by have := (List.getElem?_eq_some_iff.mp e).1; omega)⟩
      obtain ⟨h1, l', h2, h3⟩ := hrows x a ha
      rw [e] at h2; cases h2
      exact ⟨a, ha, h1, h3⟩
    refine ⟨Nat.zero_le _, fun L nL => ?_⟩
    have sL := same_upd (o := .lst []) nL
    have gL : upd H3 L (.lst []) L = some (.lst []) := upd_same
    have gD := sL _ _ gD
    have s14 := s13.trans sL
    have row : ∀ (x : Nat) (l : Str), ls[x]? = some l → ∃ a, rows[x]? = some a ∧ upd H3 L (.lst []) a = some (.lst ((wordsOf l).map V.str)) ∧ a ≠ L := fun x l e => by
      obtain ⟨a, h1, _, h3⟩ := row x l e
      exact ⟨a, h1, sL _ _ h3, ne_of_none h3 nL⟩
    have LD : D ≠ L := ne_of_none (show H3 D = some (.lst (rows.map V.ref)) from by assumption) nL
    generalize upd H3 L (.lst []) = H4 at gL gD s14 row ⊢
    refine ⟨_, _, _, rfl, ?_⟩
    have page : ∀ (x : Nat) (l : Str), ls[x]? = some l → ∀ w ∈ wordsOf l, Page w := fun x l e w hw => by
      have := pL.2 l (List.mem_of_getElem? e)
      unfold wordsOf at hw
      rw [spS_eq] at hw
      exact this.split 32 w hw
    obtain ⟨l0, hl0⟩ : ∃ l, ls[0]? = some l := ⟨_, List.getElem?_eq_getElem (by omega)⟩
    obtain ⟨a0, ha0, ga0, _⟩ := row 0 l0 hl0
    have sz0 := sizeAt_bits (hd := "pacer") hl0
    have p0 := page 0 l0 hl0
    have iD : ∀ {x : Nat} {a : Addr}, rows[x]? = some a → atI (rows.map V.ref) (x : Int) = some (.ref a) := fun {x a} e => atI_nat (by rw [List.getElem?_map, e]; rfl)
    have i0 := iD ha0
    generalize wordsOf l0 = b0 at ga0 sz0 p0
    have k1 : sizeAt ls 0 "pacer" = none → ∀ v' H', Same H H' → Dq K H' v' (badL 1) → Q v' H' := fun e v' H' s dq => kB 1 v' H' (outL_bad0 e) s dq
    refine ⟨.ref D, rfl, D, _, 0, .ref a0, rfl, rfl, sqOf gD, i0, .ref a0, _, rfl, .inl ⟨_, sqOf ga0, rfl⟩, rfl, _, rfl, ?_⟩
    rw [List.length_map]
    by_cases c2 : b0.length ≠ 2
    · rw [show (!decide (V.int ((b0.length : Nat) : Int) = V.int 2)) = true by rw [decide_eq_false (fun z => c2 (by have := V.int.inj z; omega))]; rfl]
      refine iteT fun v' H' s dq => k1 ?_ v' H' (s14.trans s) dq
      rw [sz0]
      match b0, c2 with
      | [], _ => rfl
      | [_], _ => rfl
      | [_, _], h => exact absurd rfl h
      | _ :: _ :: _ :: _, _ => rfl
    have c2 := Classical.not_not.mp c2
    rw [show (!decide (V.int ((b0.length : Nat) : Int) = V.int 2)) = false by rw [decide_eq_true (by rw [c2]; rfl)]; rfl]
    obtain ⟨h0, w0, rfl⟩ : ∃ h w, b0 = [h, w] := by
      match b0, c2 with
      | [h, w], _ => exact ⟨h, w, rfl⟩
    refine iteF ⟨.ref D, rfl, D, _, 0, .ref a0, rfl, rfl, sqOf gD, i0, a0, _, 0, .str h0, rfl, rfl, sqOf ga0, atI_nat (j := 0) rfl, rfl, _, rfl, ?_⟩
    dsimp only at sz0
    by_cases e0 : h0 ≠ ("pacer" : Str)
    · rw [show (!decide (V.str h0 = V.str ("pacer" : Str))) = true by rw [decide_eq_false (fun z => e0 (V.str.inj z))]; rfl]
      exact iteT fun v' H' s dq => k1 (by rw [sz0, if_neg e0]) v' H' (s14.trans s) dq
    have e0 := Classical.not_not.mp e0
    rw [show (!decide (V.str h0 = V.str ("pacer" : Str))) = false by rw [decide_eq_true (by rw [e0])]; rfl]
    rw [if_pos e0] at sz0
    have pw0 := (p0 w0 (by simp)).1
    refine iteF ⟨.ref D, rfl, D, _, 0, .ref a0, rfl, rfl, sqOf gD, i0, a0, _, 1, .str w0, rfl, rfl, sqOf ga0, atI_nat (j := 1) rfl, w0, rfl, pw0, fun H5 s5 => ⟨_, _, rfl, rfl, _, rfl, ?_⟩⟩
    have s15 := s14.trans s5
    have z0 := numZ_opt w0
    by_cases lt1 : numZ w0 < 1
    · rw [decide_eq_true lt1]
      refine iteT fun v' H' s dq => k1 ?_ v' H' (s15.trans s) dq
      rw [sz0]
      rcases z0 with ⟨_, _, n, e1, e2⟩ | ⟨e1, _⟩
      · rw [e1]; dsimp only; rw [if_neg (by omega)]
      · rw [e1]
    rw [decide_eq_false lt1]
    obtain ⟨n, e1, e2, n1⟩ : ∃ n, numOf w0 = some n ∧ numZ w0 = (n : Int) ∧ 1 ≤ n := by
      rcases z0 with ⟨_, _, n, e1, e2⟩ | ⟨_, e2⟩
      · exact ⟨n, e1, e2, by omega⟩
      · omega
    rw [e1] at sz0
    dsimp only at sz0
    rw [if_pos n1] at sz0
    refine iteF ⟨.ref D, rfl, D, _, 0, .ref a0, rfl, rfl, sqOf (s5 _ _ gD), i0, a0, _, 1, .str w0, rfl, rfl, sqOf (s5 _ _ ga0), atI_nat (j := 1) rfl, w0, rfl, pw0, fun H6 s6 => ?_⟩
    rw [e2]
    have s46 := s5.trans s6
    have s16 := s14.trans s46
    have gD6 := s46 _ _ gD
    have gL6 := s46 _ _ gL
    have row6 : ∀ (x : Nat) (l : Str), ls[x]? = some l → ∃ a, rows[x]? = some a ∧ H6 a = some (.lst ((wordsOf l).map V.str)) ∧ a ≠ L := fun x l e => by
      obtain ⟨a, h1, h2, h3⟩ := row x l e
      exact ⟨a, h1, s46 _ _ h2, h3⟩
    have sw6 : Same H (wo L H6) := fun b o e => by
      have n : b ≠ L := ne_of_none e (s13.free nL)
      rw [wo_ne n]; exact s16 _ _ e
    have dDw : wo L H6 D = some (.lst (rows.map V.ref)) := by rw [wo_ne LD]; exact gD6
    have row6 : ∀ (x : Nat) (l : Str), ls[x]? = some l → ∃ a, rows[x]? = some a ∧ wo L H6 a = some (.lst ((wordsOf l).map V.str)) := fun x l e => by
      obtain ⟨a, h1, h2, h3⟩ := row6 x l e
      exact ⟨a, h1, by rw [wo_ne h3]; exact h2⟩
    clear ga0 row gD gL gD6 s46 s14 s15 s5 s6 hrows
    refine fun v2 H7 s7 d2 => ?_
    obtain ⟨T, b1, b2, rfl, gT, gb1, gb2⟩ : ∃ T b1 b2, v2 = .ref T ∧ SqT K H7 T [.ref b1, .ref b2] ∧ SqT K H7 b1 [.int 1, .str (hdAt 0)] ∧ SqT K H7 b2 [.int 2, .str (hdAt 1)] := by
      cases d2 with
      | tup h1 h2 =>
        cases h2 with
        | cons q1 q2 =>
          cases q2 with
          | cons q2 q3 =>
            cases q3
            cases q1 with
            | tup r1 r2 =>
              cases q2 with
              | tup r3 r4 =>
                cases r2 with
                | cons x1 x2 =>
                  cases x1
                  cases x2 with
                  | cons x3 x4 =>
                    cases x3
                    cases x4
                    cases r4 with
                    | cons y1 y2 =>
                      cases y1
                      cases y2 with
                      | cons y3 y4 =>
                        cases y3
                        cases y4
                        exact ⟨_, _, _, rfl, h1, r1, r3⟩
    have swL : ∀ {G : Hp}, Same H6 G → Same (wo L H6) (wo L G) := fun s => same_wo s
    refine ⟨T, rfl, ⟨_, gT⟩, ?_⟩
    have tL : ∀ {a : Addr} {xs : List V} {G : Hp}, SqT K G a xs → (∀ ys, G L = some (.lst ys) → SqT K (wo L G) a xs) := fun {a xs G} h ys g => by
      rcases h with (h | ⟨o, h⟩) | h
      · exact .inl (.inl (by rw [wo_ne (fun z => by rw [z, g] at h; cases h)]; exact h))
      · exact .inl (.inr ⟨o, by rw [wo_ne (fun z => by rw [z, g] at h; cases h)]; exact h⟩)
      · exact .inr h
    have gL7 := s7 _ _ gL6
    have gT := tL gT _ gL7
    have gb1 := tL gb1 _ gL7
    have gb2 := tL gb2 _ gL7
    have s67 := swL s7
    refine for_it walk_tup (fun i σ H' => ∃ (y4 y5 y6 : Option V) (us : List V) (nss : List (List Nat)), σ = [some (.str t), some (.ref D), some (.int (n : Int)), some (.ref L), y4, y5, y6, none, none, none, none] ∧ H' L = some (.lst us) ∧ DqAll K (wo L H') us (nss.map fun ns => .tuple (nats ns)) ∧ Same (wo L H7) (wo L H') ∧ nss.length = i ∧ (∀ ns, nss[0]? = some ns → statesAt ls 1 (hdAt 0) n = some ns) ∧ (∀ ns, nss[1]? = some ns → statesAt ls 2 (hdAt 1) n = some ns))
      ⟨none, none, none, [], [], rfl, gL7, .nil, Same.refl _, rfl, fun ns e => by simp at e, fun ns e => by simp at e⟩ (fun i σ H' _ z => by obtain ⟨_, _, _, _, _, _, _, _, sm, _⟩ := z; exact ex_t' wo_sub (ex_t' sm gT)) ?_ ?_
    · rintro i y σ H9 H2 hi ⟨y4, y5, y6, us, nss, rfl, gU, du, sm, nl, h1, h2⟩ ⟨rfl, hy⟩
      have i2 : i < 2 := hi
      obtain ⟨bb, rfl, gbb⟩ : ∃ bb, y = .ref bb ∧ SqT K (wo L H7) bb [.int ((i + 1 : Nat) : Int), .str (hdAt i)] := by
        rcases (by omega : i = 0 ∨ i = 1) with rfl | rfl
        · cases hy; exact ⟨b1, rfl, gb1⟩
        · cases hy; exact ⟨b2, rfl, gb2⟩
      have gbb := ex_t' wo_sub (ex_t' sm gbb)
      have s72 := s67.trans sm
      have gD2 : H2 D = some (.lst (rows.map V.ref)) := wo_sub _ _ (s72 _ _ dDw)
      have sH : Same H (wo L H2) := sw6.trans s72
      have badK : statesAt ls (i + 1) (hdAt i) n = none → ∀ v' G, Same (wo L H2) G → Dq K G v' (badL (i + 1 + 1)) → Q v' G := fun e v' G s dq => by
        rcases (by omega : i = 0 ∨ i = 1) with rfl | rfl
        · exact kB 2 v' G (outL_bad1 sz0 e) (sH.trans s) dq
        · obtain ⟨ns, e1⟩ : ∃ ns, nss[0]? = some ns := ⟨_, List.getElem?_eq_getElem (by omega)⟩
          exact kB 3 v' G (outL_bad2 sz0 (h1 ns e1) e) (sH.trans s) dq
      refine ⟨bb, _, rfl, gbb, rfl, _, _, rfl, _, _, rfl, rfl, ?_⟩
      refine ⟨_, rfl, .ref D, rfl, .ref D, _, rfl, .inl ⟨_, sqOf gD2, rfl⟩, _, _, rfl, rfl, _, rfl, ?_⟩
      rw [List.length_map, rl]
      by_cases ci : ¬ i + 1 < ls.length
      · rw [decide_eq_false (by omega)]
        refine iteF (iteF ?_)
        refine ⟨_, rfl, rfl, _, rfl, ?_⟩
        rw [decide_eq_true rfl]
        refine iteT ⟨_, rfl, _, _, rfl, rfl, by show 3 ≤ sizeLine; decide, fun l nl => ?_⟩
        have sl2 := same_upd (o := .lst [.str "bad", .int ((i + 1 : Nat) + 1), .bl true]) nl
        exact badK (by rw [statesAt_bits, List.getElem?_eq_none (by omega)]; rfl) _ _ ((wo_sub (D := L)).trans sl2) (.lst (sqOf upd_same) (.cons (.str _) (.cons (.int _) (.cons (.bl _) .nil))))
      have ci := Classical.not_not.mp ci
      rw [decide_eq_true (by omega)]
      obtain ⟨l, hl⟩ : ∃ l, ls[i + 1]? = some l := ⟨_, List.getElem?_eq_getElem ci⟩
      obtain ⟨al, hal, gal⟩ := row6 _ l hl
      have gal2 : H2 al = some (.lst ((wordsOf l).map V.str)) := wo_sub _ _ (s72 _ _ gal)
      obtain ⟨hh, r, hw⟩ := words_cons l
      have stb := statesAt_bits (ls := ls) (i := i + 1) (hd := hdAt i) (n := n)
      rw [hl] at stb
      dsimp only [Option.bind] at stb
      rw [hw] at stb gal2
      dsimp only at stb
      refine iteT ⟨.ref D, rfl, _, rfl, D, _, _, .ref al, rfl, rfl, sqOf gD2, iD hal, al, _, 0, .str hh, rfl, rfl, sqOf gal2, atI_nat (j := 0) rfl, _, rfl, rfl, _, rfl, ?_⟩
      by_cases eh : hh ≠ hdAt i
      · rw [decide_eq_false (fun z => eh (V.str.inj z))]
        rw [if_neg eh] at stb
        refine iteF ?_
        refine ⟨_, rfl, rfl, _, rfl, ?_⟩
        rw [decide_eq_true rfl]
        refine iteT ⟨_, rfl, _, _, rfl, rfl, by show 3 ≤ sizeLine; decide, fun l nl => ?_⟩
        have sl2 := same_upd (o := .lst [.str "bad", .int ((i + 1 : Nat) + 1), .bl true]) nl
        exact badK (stb) _ _ ((wo_sub (D := L)).trans sl2) (.lst (sqOf upd_same) (.cons (.str _) (.cons (.int _) (.cons (.bl _) .nil))))
      have eh := Classical.not_not.mp eh
      rw [decide_eq_true (by rw [eh])]
      rw [if_pos eh] at stb
      refine iteT ⟨_, rfl, .ref D, rfl, _, rfl, D, _, _, .ref al, rfl, rfl, sqOf gD2, iD hal, ?_⟩
      refine ⟨_, rfl, ?_⟩
      dsimp only [tNoPart]
      refine ⟨al, _, rfl, sqOf gal2, fun q nq => ?_⟩
      have sq := same_upd (o := .lst (cutV ((hh :: r).map V.str) (some 1) none)) nq
      have gq : upd H2 q (.lst (cutV ((hh :: r).map V.str) (some 1) none)) q = some (.lst (r.map V.str)) := by rw [upd_same, show (1 : Int) = ((1 : Nat) : Int) from rfl, cut_dp]; rfl
      generalize upd H2 q (.lst (cutV ((hh :: r).map V.str) (some 1) none)) = H3 at sq gq ⊢
      have pr := page _ l hl
      have w6 := w63' l (List.mem_of_getElem? hl)
      rw [hw] at pr w6
      refine ⟨n, q, r, rfl, sqOf gq, fun w hw => pr w (List.mem_cons_of_mem _ hw), by rw [List.length_cons] at w6; omega, fun G s e => ?_, fun l2 ns G s e g => ?_⟩
      · have s2G := sq.trans s
        refine ⟨_, rfl, rfl, _, rfl, ?_⟩
        rw [decide_eq_true rfl]
        refine iteT ⟨_, rfl, _, _, rfl, rfl, by show 3 ≤ sizeLine; decide, fun l nl => ?_⟩
        have sl2 := same_upd (o := .lst [.str "bad", .int ((i + 1 : Nat) + 1), .bl true]) nl
        exact badK (by rw [stb]; exact e) _ _ (((wo_sub (D := L)).trans s2G).trans sl2) (.lst (sqOf upd_same) (.cons (.str _) (.cons (.int _) (.cons (.bl _) .nil))))
      · have s2G := sq.trans s
        refine ⟨_, rfl, rfl, _, rfl, ?_⟩
        rw [decide_eq_false (fun z => by cases z)]
        refine iteF ⟨.ref L, rfl, .inl ⟨rfl, _, sqOf (by
          show G L = _
          exact (s2G _ _ gU))⟩, .ref l2, rfl, l2, _, rfl, .inl ⟨sqOf g, fun tp ntp => ⟨L, us, .ref tp, rfl, rfl, ?_, ?_, ?_⟩⟩⟩
        · rw [upd_ne (ne_of_none (s2G _ _ gU) ntp)]; exact s2G _ _ gU
        · have := du.len
          rw [List.length_map] at this
          exact lt_sz (by omega)
        · have tpL : tp ≠ L := (ne_of_none (s2G _ _ gU) ntp).symm
          have sw : Same (wo L H2) (wo L (upd G tp (.tup ((ns.map fun k : Nat => (k : Int)).map V.int)))) := same_wo (s2G.trans (same_upd ntp))
          refine ⟨_, _, _, us ++ [.ref tp], nss ++ [ns], rfl, upd_same, ?_, ?_, by rw [List.length_append, nl]; rfl, fun ns' e' => ?_, fun ns' e' => ?_⟩
          · rw [wo_upd, List.map_append]
            refine (du.up sw).app (.cons (.tup (.inl (.inl (by rw [wo_ne tpL, upd_same]))) ?_) .nil)
            have : (nats ns) = (ns.map fun k : Nat => (k : Int)).map PyData.int := by rw [List.map_map]; rfl
            rw [this]
            exact dq_ints9 _
          · rw [wo_upd]; exact sm.trans sw
          · rw [List.getElem?_append] at e'
            split at e'
            · exact h1 ns' e'
            · rename_i qq
              have i0 : i = 0 := by omega
              subst i0
              rw [show nss.length = 0 from nl] at e'
              cases e'
              rw [stb]; exact e
          · rw [List.getElem?_append] at e'
            split at e'
            · exact h2 ns' e'
            · rename_i qq
              rw [nl] at e' qq
              rcases (by omega : i = 0 ∨ i = 1) with rfl | rfl
              · simp at e'
              · cases e'
                rw [stb]; exact e
    rintro σ H8 ⟨y4, y5, y6, us, nss, rfl, gU, du, sm, nl, h1, h2⟩
    obtain ⟨na, nb, rfl⟩ := of_two nl
    have h1 := h1 na rfl
    have h2 := h2 nb rfl
    obtain ⟨u1, u2, rfl, d1, d2⟩ : ∃ u1 u2, us = [u1, u2] ∧ Dq K (wo L H8) u1 (.tuple (nats na)) ∧ Dq K (wo L H8) u2 (.tuple (nats nb)) := by
      cases du with
      | cons d1 du =>
        cases du with
        | cons d2 du =>
          cases du
          exact ⟨_, _, rfl, d1, d2⟩
    have d1 := d1.up wo_sub
    have d2 := d2.up wo_sub
    have s68 := s67.trans sm
    have s8 : Same H H8 := (sw6.trans s68).trans wo_sub
    have gD8 : H8 D = some (.lst (rows.map V.ref)) := wo_sub _ _ (s68 _ _ dDw)
    have row8 : ∀ (x : Nat) (l : Str), ls[x]? = some l → ∃ a, rows[x]? = some a ∧ H8 a = some (.lst ((wordsOf l).map V.str)) := fun x l e => by
      obtain ⟨a, q1, q2⟩ := row6 x l e
      exact ⟨a, q1, wo_sub _ _ (s68 _ _ q2)⟩
    have og := outL_go sz0 h1 h2
    rw [og] at kB kG
    clear sm s67 s68 row6 sw6 dDw gT gb1 gb2 s7
    refine ⟨Nat.zero_le _, fun W nW => ?_⟩
    have sW := same_upd (o := .lst []) nW
    have gW : upd H8 W (.lst []) W = some (.lst []) := upd_same
    refine ⟨.ref D, rfl, _, rfl, ?_⟩
    dsimp only [tNoPart]
    refine ⟨D, _, rfl, sqOf (sW _ _ gD8), fun q nq => ?_⟩
    have sq := same_upd (o := .lst (cutV (rows.map V.ref) (some 3) none)) nq
    have gq : upd (upd H8 W (.lst [])) q (.lst (cutV (rows.map V.ref) (some 3) none)) q = some (.lst ((rows.drop 3).map V.ref)) := by rw [upd_same, show (3 : Int) = ((3 : Nat) : Int) from rfl, cut_dp, List.map_drop]
    have gW := sq _ _ gW
    have WqNe : W ≠ q := fun z => by rw [z] at gW; rw [upd_same] at gW; rw [z, upd_same] at nq; cases nq
    have s8q := sW.trans sq
    generalize upd (upd H8 W (.lst [])) q (.lst (cutV (rows.map V.ref) (some 3) none)) = Hq at gq gW s8q ⊢
    refine ⟨q, _, rfl, sqOf gq, ?_⟩
    refine for_it (walk_enum (K := K)) (D := { nx := _, rt := Q }) (fun i σ H' => ∃ (y4 y5 y6 y8 y9 : Option V) (vs : List V) (ms : List Mv), σ = [some (.str t), some (.ref D), some (.int (n : Int)), some (.ref L), y4, y5, y6, some (.ref W), y8, y9, none] ∧ H' W = some (.lst vs) ∧ DqAll K H' vs (ms.map mvD) ∧ ms.length = i ∧ (∀ (x : Nat) (m : Mv), ms[x]? = some m → moveAt ls (3 + x) n = some m) ∧ Same H8 H' ∧ H' q = some (.lst ((rows.drop 3).map V.ref)))
      ⟨y4, y5, y6, none, none, [], [], rfl, gW, .nil, rfl, fun x m e => by simp at e, s8q, gq⟩ (fun i σ H' _ z => by obtain ⟨_, _, _, _, _, _, _, _, _, _, _, _, _, gq⟩ := z; exact sqOf gq) ?_ ?_
    · rintro i y σ H9 H2 hi ⟨y4, y5, y6, y8, y9, vs, ms, rfl, gW, dv, ml, hm, sm, gq9⟩ ⟨T2, x, z, rfl, nT, rfl, hx, hz⟩
      cases hx
      obtain ⟨a, ha, rfl⟩ : ∃ a, rows[3 + i]? = some a ∧ z = .ref a := by
        dsimp only at hz
        rw [List.getElem?_map, List.getElem?_drop] at hz
        obtain ⟨b, q1, q2⟩ := Option.map_eq_some_iff.mp hz
        exact ⟨b, q1, q2.symm⟩
      have il : 3 + i < ls.length := by have := (List.getElem?_eq_some_iff.mp ha).1; omega
      obtain ⟨l, hl⟩ : ∃ l, ls[3 + i]? = some l := ⟨_, List.getElem?_eq_getElem il⟩
      obtain ⟨a', ha', ga⟩ := row8 _ l hl
      rw [ha] at ha'; cases ha'
      have sT := same_upd (o := .tup [.int (i : Int), .ref a]) nT
      have sm2 := sm.trans sT
      have gW2 := sT _ _ gW
      have gq2 := sT _ _ gq9
      have dv2 := dv.up sT
      have gT2 : upd H9 T2 (.tup [.int (i : Int), .ref a]) T2 = some (.tup [.int (i : Int), .ref a]) := upd_same
      generalize upd H9 T2 (.tup [.int (i : Int), .ref a]) = H2 at sm2 gW2 gq2 dv2 gT2 ⊢
      have w6 := w63' l (List.mem_of_getElem? hl)
      have mw := moveAt_way ls (3 + i) n
      rw [hl] at mw
      dsimp only [Option.bind] at mw
      refine ⟨T2, _, rfl, stOf gT2, rfl, _, _, rfl, _, _, rfl, rfl, ?_⟩
      refine ⟨_, rfl, _, rfl, n, a, wordsOf l, rfl, sqOf (sm2 _ _ ga), page _ l hl, by omega, fun G s e => ?_, fun m v G s e dq => ?_⟩
      · refine ⟨_, rfl, rfl, _, rfl, ?_⟩
        rw [decide_eq_true rfl]
        refine iteT ⟨_, rfl, _, _, rfl, rfl, by show 3 ≤ sizeLine; decide, fun l nl => ?_⟩
        have sl2 := same_upd (o := .lst [.str "bad", .int ((i : Int) + 4), .bl true]) nl
        have eb := movesT_bad (ls := ls) (n := n) (i := 3) (j := i) (k := ls.length - 3) (fun x hx => by
          obtain ⟨m, e⟩ : ∃ m, ms[x]? = some m := ⟨_, List.getElem?_eq_getElem (by omega)⟩
          exact ⟨m, hm x m e⟩) (by rw [mw]; exact e) (by omega)
        refine kB (3 + i + 1) _ _ (by rw [eb]) (((s8.trans sm2).trans s).trans sl2) (.lst (sqOf upd_same) (.cons (.str _) (.cons ?_ (.cons (.bl _) .nil))))
        have e4 : ((i : Int) + 4) = ((3 + i + 1 : Nat) : Int) := by omega
        show Dq K _ (.int ((i : Int) + 4)) _
        rw [e4]
        exact .int _
      · have gWG := s _ _ gW2
        refine ⟨_, rfl, rfl, _, rfl, ?_⟩
        rw [decide_eq_false (fun z => by subst z; cases dq)]
        refine iteF ⟨.ref W, rfl, .inl ⟨rfl, _, sqOf gWG⟩, v, rfl, W, vs, v, rfl, rfl, gWG, ?_, ?_⟩
        · have := dv.len
          rw [List.length_map] at this
          have := pL.1
          exact lt_sz (by omega)
        · have kp : KpT G (upd G W (.lst (vs ++ [v]))) := KpT.lst gWG
          refine ⟨_, _, _, _, _, vs ++ [v], ms ++ [m], rfl, upd_same, ?_, by rw [List.length_append, ml]; rfl, fun x m' e' => ?_, fun b o e => ?_, ?_⟩
          · rw [List.map_append]
            exact (dqAll_kpt kp _ _ (dv2.up s) (mvs_noLDs _)).app (.cons (dq_kpt kp _ _ dq (by rfl)) .nil)
          · rw [List.getElem?_append] at e'
            split at e'
            · exact hm x m' e'
            · rename_i qq
              have : x - ms.length = 0 := by
                cases z : x - ms.length with
                | zero => rfl
                | succ y => rw [z] at e'; simp at e'
              rw [this] at e'
              cases e'
              rw [show x = i by omega, mw]; exact e
          · rw [upd_ne (ne_of_none e nW)]; exact s _ _ (sm2 _ _ e)
          · rw [upd_ne (fun z => by rw [z] at gq2; rw [gW2] at gq2; exact WqNe z.symm)]; exact s _ _ gq2
    rintro σ H9 ⟨y4, y5, y6, y8, y9, vs, ms, rfl, gW, dv, ml, hm, sm, gq9⟩
    rw [List.length_map, List.length_drop] at ml
    have mg := movesT_good hm
    rw [show ms.length = ls.length - 3 by omega] at mg
    have s9 := s8.trans sm
    refine ⟨_, rfl, _, rfl, L, _, 0, u1, rfl, rfl, sqOf (sm _ _ gU), atI_nat (j := 0) rfl, .ref W, rfl, W, vs, rfl, .inl ⟨sqOf gW, fun tp ntp => ?_⟩⟩
    have sp := same_upd (o := .tup vs) ntp
    have gp : upd H9 tp (.tup vs) tp = some (.tup vs) := upd_same
    have c1 := (d1.up sm).up sp
    have c2 := (d2.up sm).up sp
    have c3 : Dq K (upd H9 tp (.tup vs)) (.ref tp) (.tuple (ms.map mvD)) := .tup (stOf gp) (dv.up sp)
    have gL9 := sp _ _ (sm _ _ gU)
    have s10 := s9.trans sp
    generalize upd H9 tp (.tup vs) = H10 at c1 c2 c3 gL9 s10 ⊢
    refine ⟨_, rfl, L, _, 1, u2, rfl, rfl, sqOf gL9, atI_nat (j := 1) rfl, by show 4 ≤ sizeLine; decide, fun t4 nt4 => ?_⟩
    have s4 := same_upd (o := .tup [.int (n : Int), u1, .ref tp, u2]) nt4
    refine ⟨by show 2 ≤ sizeLine; decide, fun lf nf => ?_⟩
    have sf := same_upd (o := .lst [.str "fine", .ref t4]) nf
    refine kG ⟨n, na, ms, nb⟩ _ _ (by rw [mg]) ((s10.trans s4).trans sf) (.lst (sqOf upd_same) (.cons (.str _) (.cons (.tup (stOf (sf _ _ upd_same)) ?_) .nil)))
    have s4f := s4.trans sf
    exact .cons (.int _) (.cons (c1.up s4f) (.cons (c3.up s4f) (.cons (c2.up s4f) .nil)))
end
end KP
/-! classmethods that may raise, called where nothing is raised; str(o) of an own class. -/
namespace EL
open PySem PySem.Spec PyProof.Rows L2
/-- C.m(..), m a classmethod of two parameters, the second one called by name, too -/
structure CalR (P : Program) (w : World) (K : PySem.W.Frag) (mg : Str → Option Value) (base : Heap) (k : Nat) (C : Addr) (m : Str) (ps ks : List Str) (sp : Sp) where
  mc : Value
  p : Addr
  g : Addr
  fd : FuncData
  r : ClX.CRead K C mc
  c : ClX.CMet K C mc m p g
  ok : FnOk P w K mg base (L2.CX P w) k g fd ps sp
  b : Binds K fd ps []
  kb : KBinds K fd ps ks EL.kwM1 EL.kwM1
theorem CalR.fnr {P : Program} {w : World} {K : PySem.W.Frag} {mg : Str → Option Value} {base : Heap} {k : Nat} {C : Addr} {m : Str} {ps ks : List Str} {sp : Sp} (R : CalR P w K mg base k C m ps ks sp) : FnR P w K mg base (L2.CX P w) k R.g sp :=
  (R.ok.raw R.b .nil).imp fun vs H Q E h => by rw [List.append_nil]; exact h
section
variable {X : Cx} {k : Nat} {C : Addr} {m : Str} {ps ks : List Str} {sp : Sp} {E : XK} {o e : Expr} {es : List Expr} {kws : List Keyword} {ta : TE} {t tk : TA} {apos pos : Pos} {pl : Sem Bool}
theorem pe_read (R : CalR X.prog X.w X.K X.mg X.base k C m ps ks sp) (hr : Room k X.A) (hx : Passes (L2.CX X.prog X.w) X E) (he : PE X o ta) (ha : PA X (e :: es) t)
    (hst : starEach (e :: es) X.env = (false, eval e X.env) :: starEach es X.env := by rfl) (hpl : (backTo pos (starEach es X.env)).any (·.1) = false := by rfl)
    (ht : eval (.Call (.Attribute o m apos) (e :: es) [] pos) X.env = (do
      let ov ← eval o X.env
      standAt apos.atName
      let (f, first) ← holding [ov] (getMethod ov m pl)
      callWith pos f first (backTo pos (starEach (e :: es) X.env)) (backToKw pos (keywordEach [] X.env))) := by rfl) :
    PE X (.Call (.Attribute o m apos) (e :: es) [] pos) (ClX.tCMeth C sp E ta t) := ClX.pe_cmeth he R.r R.c R.fnr hr hx ha hst hpl ht
theorem pe_readK (R : CalR X.prog X.w X.K X.mg X.base k C m ps ks sp) (hr : Room k X.A) (hx : Passes (L2.CX X.prog X.w) X E) (he : PE X o ta) (hkw : PK X kws tk)
    (hall : (backToKw pos (keywordEach kws X.env)).all (·.1.isSome) = true := by rfl) (hks : (backToKw pos (keywordEach kws X.env)).filterMap (·.1) = ks := by rfl)
    (hpl : ((backTo pos (starEach [] X.env)).any (·.1) || (backToKw pos (keywordEach kws X.env)).any (·.1.isNone)) = false := by rfl)
    (ht : eval (.Call (.Attribute o m apos) [] kws pos) X.env = (do
      let ov ← eval o X.env
      standAt apos.atName
      let (f, first) ← holding [ov] (getMethod ov m pl)
      callWith pos f first (backTo pos (starEach [] X.env)) (backToKw pos (keywordEach kws X.env))) := by rfl) :
    PE X (.Call (.Attribute o m apos) [] kws pos) (fun σ H Q => ta σ H fun x H1 => x = .ref C ∧ tk σ H1 fun zs H2 => sp (EL.kwM1 [.ref C] zs) H2 Q E) := pe_cmethK0 he R.r R.c R.ok hr R.kb hx hkw hall hks hpl ht
end
/-- str(o) -/
structure CalS (P : Program) (w : World) (K : PySem.W.Frag) (mg : Str → Option Value) (base : Heap) (k : Nat) (C : Addr) (sp : Sp) where
  f : Addr
  fd : FuncData
  ok : FnOk P w K mg base CX0 k f fd ["self"] sp
  at_ : PySem.W.findIn K (.ref C) "__str__" = some (some (.ref f))
  fn : PySem.W.isFn K (.ref f) = true
  b : Binds K fd ["self"] []
theorem call_strC {X : Cx} {k : Nat} {C : Addr} {sp : Sp} {E : XK} (S : CalS X.prog X.w X.K X.mg X.base k C sp) (hr : Room (k + 2) X.A) (hx : Passes CX0 X E) : CallR X (.type "str") (rStrO C sp E) := call_strO S.ok hr S.at_ S.fn S.b hx
end EL
namespace EL
open PySem
/-- an error of a class is what «except» of this class names -/
theorem exm_own {K : PySem.W.Frag} {S : Addr} (h1 : PySem.W.subIn K (.ref S) (.type "BaseException") = some true) (h2 : PySem.W.isClsIn K S = true) (h3 : PySem.W.typeIn K (.ref S) = some (.type "type")) (h4 : PySem.W.subIn K (.ref S) (.ref S) = some true) : PySem.W.exmOne K (.ref S) (.ref S) = some true := by
  have a : (PySem.W.clsIn K S).isSome = true := h2
  show (if (PySem.W.subIn K (.ref S) (.type "BaseException") == some true) = true then (if ((PySem.W.clsIn K S).isSome && PySem.W.typeIn K (.ref S) == some (.type "type")) = true then PySem.W.subIn K (.ref S) (.ref S) else none) else none) = some true
  simp [h1, a, h3, h4]
end EL
/-! isinstance(e, C) of a caught error with an own dict, where the answer is yes; calls in a try whose wish depends on the slots. -/
namespace EL
open PySem PySem.Spec PyProof.Rows L2
open PySem.W (Looks kitOne kit_cls)
theorem yes_ans {K : PySem.W.Frag} {x t c : Value} {P : Heap → Prop} (ty : ∀ (M : Model) (h : Heap), K.In h → P h → Looks M h (typeOf x) t) (e : kitOne K t c = some true) : Answers (fun s => K.In s.heap ∧ P s.heap) x c true := by
  intro dep tk prog w A R s hs
  obtain ⟨h0, g, d, tt, os⟩ := s
  obtain ⟨⟨X, p⟩, hq⟩ := hs
  have LT := ty (model prog w) h0 X p
  unfold kitOne at e
  unfold Builtin.«isinstance.nested»
  refine wpAny_bind (LT.at ?_)
  by_cases q : (t == c) = true
  · rw [if_pos q]
    first
      | ((repeat lk); exact hq tt)
      | exact wpAny_bind (wpAny_rule (hq tt))
      | exact wpAny_bind (wpAny_rule (wpAny_pure (hq tt)))
  · rw [if_neg q] at e ⊢
    obtain ⟨c1, c2, c3⟩ := kit_cls (M := model prog w) X e
    have LI : Looks (model prog w) h0 (isInstance x c) true := LT.andThen c3
    refine wpAny_bind (c1.at ?_)
    rw [if_pos (by decide)]
    k_delta "plainIsInstance"
    refine wpAny_bind (wpAny_bind (c2.at ?_))
    simp only [Bool.not_true, Bool.false_eq_true, if_false]
    refine wpAny_bind (LI.at ?_)
    first
      | exact wpAny_pure (wpAny_pure (hq tt))
      | (simp only [if_true]; first | exact wpAny_pure (wpAny_pure (hq tt)) | exact wpAny_pure (hq tt) | exact wpAny_bind (wpAny_pure (wpAny_pure (hq tt))))
/-- isinstance(e, c), e the exception that the suite holds, of the class D below c -/
def rIsEY (K : PySem.W.Frag) (cls : Value) (a : Addr) : List V → Hp → VK → Prop := fun xs H Q => ∃ (c : V) (cv : Value), xs = [.ref a, c] ∧ (∀ u, RelV c u → u = cv) ∧ kitOne K cls cv = some true ∧ Q (.bl true) H
theorem call_isEY {X : Cx} {a : Addr} {cls : Value} {d : Option Addr} {oe : Obj} {pn : List (Addr × Obj)} (hz : Zc cls d oe) : CallR (X.suite a ((a, oe) :: pn)) (.builtin "isinstance") (rIsEY X.K cls a) := by
  intro pins s σ H xs us Q I r h
  obtain ⟨c, cv, rfl, hcv, e, q⟩ := h
  cases r with
  | cons rx rr =>
    cases rr with
    | cons rt rr =>
      cases rr
      cases rx
      obtain rfl := hcv _ rt
      obtain ⟨hget, _⟩ := I.pin (a, oe) (List.mem_append.mpr (.inl List.mem_cons_self))
      have ans := yes_ans (K := X.K) (x := .ref a) (P := fun h => h.get? a = some oe) (fun M h _ p => fun A Q E s k q => wpAny_typeOf_ref (k _ _ p) (by rw [hz.1]; exact q)) e
      refine call_isinstance (S := fun _ R s => (X.K.In s.heap ∧ s.heap.get? a = some oe) ∧ ∀ tk, R (.ok (.ret (.bool true))) { s with toks := tk }) (fun prog w A R s hs => isinstance_outer (ans 0 _ prog w A R s hs) (fun z => nomatch z)) ⟨⟨I.kIn, hget⟩, fun tk => ?_⟩
      exact ⟨.bl true, H, I.kept (t' := tk) fun _ _ z => z, rfl, q⟩
/-- what a call in a try may let out -/
theorem passW {X : Cx} {W : WX} {n : Nat} (tk : Takes X W) (hn : X.N.length = n) : Passes (L2.CX X.prog X.w) X (fun cls d H => ∀ σ : L2.St, σ.length = n → W cls d σ H) := fun _ σ _ _ e s' I c =>
  tk e s' (XE.of_call I (fun _ _ _ h => h σ (I.len.trans hn)) c)
end EL
namespace KP
open PySem PySem.Spec PyProof.Rows L2 EL
open Evl (pss_cut)
open TL
abbrev sLShown : Stmt := topS 42
theorem scLShown : FnScope ["_law_it"] ["_law_it"] (defScope sLShown) := ⟨rfl, rfl, rfl, by decide +kernel, rfl, by decide +kernel, by decide +kernel⟩
abbrev sLHeard : Stmt := topS 49
theorem scLHeard : FnScope ["_law_it", "_law_is_named", "_law_found", "e"] ["_law_it", "_law_is_named"] (defScope sLHeard) := ⟨rfl, rfl, rfl, by decide +kernel, rfl, by decide +kernel, by decide +kernel⟩
abbrev sLIsTold : Stmt := topS 51
theorem scLIsTold : FnScope ["_law_it", "_law_due_here", "_law_was"] ["_law_it"] (defScope sLIsTold) := ⟨rfl, rfl, rfl, by decide +kernel, rfl, by decide +kernel, by decide +kernel⟩
def spShown (K : PySem.W.Frag) (C : Addr) : Sp := fun vs H Q _ => ∃ (p : Addr) (pl : Plan), vs = [.ref p] ∧ PacAt K C H p pl ∧ ∀ v H', Same H H' → Dq K H' v (planD pl) → Q v H'
def spHeard (K : PySem.W.Frag) : Sp := fun vs H Q _ => ∃ (v : V) (d : PyData) (b : Bool), vs = [v, .bl b] ∧ Dq K H v d ∧ (∀ t, d = .str t → TextOk t) ∧ ∀ v' H', Same H H' → Dq K H' v' (dueD d) → Q v' H'
theorem due_line {d : PyData} {l : Nat} (h : lineD d = some l) : dueD d = badL l := by
  unfold lineD at h
  unfold dueD
  cases d with
  | str t =>
    dsimp only at h ⊢
    cases e : outT t with
    | inr m => rw [e] at h; cases h; rfl
    | inl p => rw [e] at h; cases h
  | _ => cases h; rfl

section
variable {P : Program} {w : World} {K : PySem.W.Frag} {mg : Str → Option Value} {base : Heap}
theorem ok_LShown {f C : Addr} {fd : FuncData} {k : Nat} (F : Fun K "_law_shown" "_law_shown" sLShown f fd) (T : PTxt K C) : FnOk P w K mg base CX0 (k + 1) f fd ["_law_it"] (spShown K C) := by
  refine F.ok scLShown (fun vs H Q E h => ?_) (fun cdv A outer s H vs Q E hr h => ?_)
  · obtain ⟨p, pl, rfl, _⟩ := h; rfl
  · obtain ⟨p, pl, rfl, hP, kQ⟩ := h
    refine ⟨_, (pss_one (ps_ret (pe_tup (pa_cons (pe_fld (pv 0) rfl) (pa_cons (pe_fld (pv 0) rfl) (pa_cons (pe_fld (pv 0) rfl) (pa_cons (pe_fld (pv 0) rfl) pa_nil))))))), ?_⟩
    obtain ⟨dx, vb, vm, ve, e1, e2, e3, e4⟩ := hP.at'
    refine ⟨_, rfl, p, C, dx, _, _, rfl, e1, T.cl, T.nS, pf_s _ _ _ _, _, rfl, p, C, dx, _, _, rfl, e1, T.cl, T.nB, pf_b _ _ _ _, _, rfl, p, C, dx, _, _, rfl, e1, T.cl, T.nM, pf_m _ _ _ _, _, rfl, p, C, dx, _, _, rfl, e1, T.cl, T.nE, pf_e _ _ _ _, (by show 4 ≤ sizeLine; decide), fun tp ntp => ?_⟩
    have s1 := same_upd (o := .tup [.int (pl.wide : Int), .ref vb, .ref vm, .ref ve]) ntp
    exact kQ _ _ s1 (.tup (stOf upd_same) (.cons (.int _) (.cons (e2.up s1) (.cons (e3.up s1) (.cons (e4.up s1) .nil)))))
theorem ok_LHeard {f C CB CL fI : Addr} {fd : FuncData} {k : Nat} (F : Fun K "_law_heard" "_law_heard" sLHeard f fd) (nisinstance : mg "isinstance" = none) (TB : PySem.LowBadText.LowTxt K mg CB fI) (gL : mg "LeadError" = some (.ref CL)) (kB : PySem.W.kitOne K (.ref CB) (.ref CL) = some true) (CC : CalC P w K mg base k C) (RD : CalR P w K mg base k C "read" ["cls", "text"] ["text"] (spReadX K C CB)) (CLShown : Cal P w K mg base k "_law_shown" ["_law_it"] (spShown K C)) : FnOk P w K mg base CX0 (k + 1) f fd ["_law_it", "_law_is_named"] (spHeard K) := by
  refine F.ok scLHeard (fun vs H Q E h => ?_) (fun cdv A outer s H vs Q E hr h => ?_)
  · obtain ⟨v, d, b, rfl, _⟩ := h; rfl
  · obtain ⟨v, d, b, rfl, hd, hT, kQ⟩ := h
    have hu := hr.units
    refine ⟨_, (pss_cons (ps_set (i := 2) scLHeard.nd rfl (by first | exact Or.inl rfl | exact Or.inr rfl) pe_non)
      (pss_cons (ps_try_as (i := 3) (Wout := fun _ _ _ _ => False) rfl rfl scLHeard.nd rfl rfl ⟨rfl, by decide, Or.inl TB.gC⟩ takes0
        (fun W pn xe tk _ => pss_one (ps_set (i := 2) scLHeard.nd rfl (by first | exact Or.inl rfl | exact Or.inr rfl) (pe_lst (pa_cons pe_str (pa_cons (pe_cal CLShown hr (by rfl) pass0 (pa_cons (pe_ifExp (pt_val (pv 1)) (pe_readK RD hr (passW (n := 4) tk rfl) (pe_glob rfl CC.g (show RelV (.ref C) (.ref C) from rfl)) (pk_cons (pv 0) pk_nil)) (pe_read RD hr (passW (n := 4) tk rfl) (pe_glob rfl CC.g (show RelV (.ref C) (.ref C) from rfl)) (pa_cons (pv 0) pa_nil))) pa_nil)) pa_nil)))))
        (fun a oe cls d pn hz hf => pss_one (ps_set (i := 2) scLHeard.nd rfl (by first | exact Or.inl rfl | exact Or.inr rfl) (pe_lst (pa_cons pe_str (pa_cons (pe_byBadText TB hz hf (pv 3)) (pa_cons (pe_callB (call_isEY hz) (by rfl) nisinstance (by decide +kernel) (pa_cons (pv 3) (pa_cons (pe_glob rfl gL (show RelV (.ref CL) (.ref CL) from rfl)) pa_nil))) pa_nil)))))))
      (pss_one (ps_ret (pv 2))))), ?_⟩
    have fine : ∀ t pl, d = .str t → outT t = .inl pl → dueD d = .list [.str "fine", planD pl] := fun t pl e1 e2 => by
      subst e1
      show (match outT t with | .inr l => badL l | .inl pl => .list [.str "fine", planD pl]) = _
      rw [e2]
    have four : ∀ {σ : L2.St}, σ.length = 4 → ∃ a b c d, σ = [a, b, c, d] := fun {σ} h => by
      match σ, h with
      | [a, b, c, d], _ => exact ⟨a, b, c, d, rfl⟩
    refine ⟨_, rfl, _, rfl, ?_⟩
    cases b with
    | true =>
      refine iteT ⟨rfl, v, rfl, v, d, rfl, hd, hT, fun t pl ed eo x H1 s1 nx P => ?_, fun l el dd H1 s1 nd g σ' hl => ?_⟩
      · refine ⟨x, pl, rfl, P, fun u H2 s2 du => ⟨by show 2 ≤ sizeLine; decide, fun l nl => ?_⟩⟩
        have sl := same_upd (o := .lst [.str "fine", u]) nl
        refine ⟨_, rfl, kQ _ _ ((s1.trans s2).trans sl) ?_⟩
        rw [fine t pl ed eo]
        exact .lst (sqOf upd_same) (.cons (.str _) (.cons (du.up sl) .nil))
      · obtain ⟨y0, y1, y2, y3, rfl⟩ := four hl
        refine ⟨true, TB.te, fun _ a na => ?_, fun z => nomatch z⟩
        refine ⟨_, rfl, rfl, rfl, dd, _, rfl, g, _, rfl, .ref CL, .ref CL, rfl, fun u r => r, kB, by show 3 ≤ sizeLine; decide, fun l2 nl2 => ?_⟩
        have sl := same_upd (o := .lst [.str "bad", .int (l : Int), .bl true]) nl2
        refine ⟨_, rfl, kQ _ _ (s1.trans sl) ?_⟩
        rw [due_line el]
        exact .lst (sqOf upd_same) (.cons (.str _) (.cons (.int _) (.cons (.bl _) .nil)))
    | false =>
      refine iteF ⟨rfl, v, rfl, v, d, rfl, hd, hT, fun t pl ed eo x H1 s1 nx P => ?_, fun l el dd H1 s1 nd g σ' hl => ?_⟩
      · refine ⟨x, pl, rfl, P, fun u H2 s2 du => ⟨by show 2 ≤ sizeLine; decide, fun l nl => ?_⟩⟩
        have sl := same_upd (o := .lst [.str "fine", u]) nl
        refine ⟨_, rfl, kQ _ _ ((s1.trans s2).trans sl) ?_⟩
        rw [fine t pl ed eo]
        exact .lst (sqOf upd_same) (.cons (.str _) (.cons (du.up sl) .nil))
      · obtain ⟨y0, y1, y2, y3, rfl⟩ := four hl
        refine ⟨true, TB.te, fun _ a na => ?_, fun z => nomatch z⟩
        refine ⟨_, rfl, rfl, rfl, dd, _, rfl, g, _, rfl, .ref CL, .ref CL, rfl, fun u r => r, kB, by show 3 ≤ sizeLine; decide, fun l2 nl2 => ?_⟩
        have sl := same_upd (o := .lst [.str "bad", .int (l : Int), .bl true]) nl2
        refine ⟨_, rfl, kQ _ _ (s1.trans sl) ?_⟩
        rw [due_line el]
        exact .lst (sqOf upd_same) (.cons (.str _) (.cons (.int _) (.cons (.bl _) .nil)))
end
/-! ### what is due may be shown -/
theorem reprChar_low : ∀ c < 128, ∀ q ∈ [34, 39], ∀ x ∈ Builtin.Str.reprChar q c, x < 128 := by decide +kernel
theorem fold_low {q : Nat} (hq : q ∈ [34, 39]) : ∀ (l : List Nat) (acc : Array Nat), (∀ c ∈ l, c < 128) → (∀ c ∈ acc.toList, c < 128) → ∀ c ∈ (l.foldl (fun out c => out ++ (Builtin.Str.reprChar q c).toArray) acc).toList, c < 128
  | [], acc, _, h => h
  | a :: r, acc, h1, h2 => by
    refine fold_low hq r _ (fun c hc => h1 c (List.mem_cons_of_mem _ hc)) fun c hc => ?_
    simp only [Array.toList_append, List.mem_append] at hc
    rcases hc with z | z
    · exact h2 c z
    · exact reprChar_low a (h1 a List.mem_cons_self) q hq c (by simpa using z)
theorem reprQuote_or (x : Str) : PySem.reprQuote x ∈ [34, 39] := by
  unfold PySem.reprQuote
  split <;> decide
theorem shown_low {t : Str} (h : Low7 t) : Low7 (PyData.shown (.str t)) := by
  have e : PyData.shown (.str t) = PySem.reprText t := by simp only [PyData.shown]
  rw [e]
  intro c hc
  have hc : c ∈ ((t.cps.foldl (fun out c => out ++ (Builtin.Str.reprChar (PySem.reprQuote t) c).toArray) #[PySem.reprQuote t]).push (PySem.reprQuote t)).toList := hc
  have q1 : PySem.reprQuote t < 128 := by
    have := reprQuote_or t
    simp only [List.mem_cons, List.not_mem_nil, or_false] at this
    omega
  rw [Array.toList_push, List.mem_append, ← Array.foldl_toList] at hc
  rcases hc with z | z
  · exact fold_low (reprQuote_or t) _ _ h (fun c hc => by
      have : c = PySem.reprQuote t := by simpa using hc
      rw [this]; exact q1) c z
  · rw [List.mem_singleton.mp z]; exact q1
theorem shown_len {t : Str} (h : Low7 t) : (PyData.shown (.str t)).length ≤ 10 * t.length + 2 := by
  have e : PyData.shown (.str t) = PySem.reprText t := by simp only [PyData.shown]
  rw [e]
  exact StrLaws.reprText_len t fun c hc => Nat.lt_of_lt_of_le (h c hc) (by decide)

end KP
namespace KP
open PySem PySem.Spec PyProof.Rows L2 EL
open Evl (pss_cut)
open TL
/-! ### a plan that was read may be shown -/
structure Pn (m k : Nat) (ds : List PyData) : Prop where
  p : plns ds = true
  nd : PyData.hasDictAll ds = false
  dp : PyData.depthAll ds ≤ m
  bk : PyData.bulkAll ds ≤ k
theorem pn_nats : ∀ ns : List Nat, (∀ k ∈ ns, k < 1000) → Pn 0 (10 * ns.length) (nats ns)
  | [], _ => ⟨rfl, rfl, Nat.le_refl _, Nat.zero_le _⟩
  | k :: r, h => by
    obtain ⟨h1, h2, h3, h4⟩ := pn_nats r fun x hx => h x (List.mem_cons_of_mem _ hx)
    have hk := h k List.mem_cons_self
    have h4 : PyData.bulkAll (nats r) ≤ 10 * r.length := h4
    refine ⟨?_, ?_, ?_, ?_⟩
    · show (decide ((k : Int).natAbs < 10 ^ 50) && plns (nats r)) = true
      rw [h1, Bool.and_true]
      exact decide_eq_true (Nat.lt_of_lt_of_le (show (k : Int).natAbs < 1000 by omega) (by decide))
    · show (false || PyData.hasDictAll (nats r)) = false
      rw [h2]; rfl
    · show max 0 (PyData.depthAll (nats r)) ≤ 0
      omega
    · show 0 + 1 + PyData.bulkAll (nats r) ≤ 10 * (r.length + 1)
      omega
theorem pln_txt {t : Str} (h : isTextD (.str t) = true) : pln (.str t) = true := by
  show (t.cps.toList.all fun c => decide (c < 128)) = true
  have h : t.cps.toList.all isLow = true := h
  rw [List.all_eq_true] at h ⊢
  intro c hc
  have := low_iff.mp (h c hc)
  exact decide_eq_true (by omega)
theorem pn_moves : ∀ ms : List Mv, (∀ m ∈ ms, m.s < 1000 ∧ m.t < 1000 ∧ isTextD (.str ⟨m.l.toArray⟩) = true ∧ isTextD (.str ⟨m.r.toArray⟩) = true) → plns (ms.map mvD) = true ∧ PyData.hasDictAll (ms.map mvD) = false ∧ PyData.depthAll (ms.map mvD) ≤ 1
  | [], _ => ⟨rfl, rfl, Nat.zero_le _⟩
  | m :: r, h => by
    obtain ⟨h1, h2, h3⟩ := pn_moves r fun x hx => h x (List.mem_cons_of_mem _ hx)
    obtain ⟨a, b, c, d⟩ := h m List.mem_cons_self
    refine ⟨?_, ?_, ?_⟩
    · show ((decide ((m.s : Int).natAbs < 10 ^ 50) && (pln (.str ⟨m.l.toArray⟩) && (pln (.str ⟨m.r.toArray⟩) && (decide ((m.t : Int).natAbs < 10 ^ 50) && true)))) && plns (r.map mvD)) = true
      rw [h1, pln_txt c, pln_txt d, decide_eq_true (Nat.lt_of_lt_of_le (show (m.s : Int).natAbs < 1000 by omega) (by decide)), decide_eq_true (Nat.lt_of_lt_of_le (show (m.t : Int).natAbs < 1000 by omega) (by decide))]
      rfl
    · show ((mvD m).hasDict || PyData.hasDictAll (r.map mvD)) = false
      rw [h2]; rfl
    · show max (mvD m).depth (PyData.depthAll (r.map mvD)) ≤ 1
      have : (mvD m).depth = 1 := rfl
      omega
theorem TextOk.bulk2 {t : Str} (h : TextOk t) {pl : Plan} (e : outT t = .inl pl) : PyData.bulkAll (pl.ways.map mvD) ≤ 22000 := by
  have hz : t.length ≤ 1900 := h.sz.elim id fun ⟨l, q⟩ => by rw [e] at q; cases q
  obtain ⟨_, _, _, e4⟩ := outL_inl e
  have b := bulk_movesT e4
  have s1 := sum_split t 10
  have e5 : Txt.split t ⟨#[10]⟩ = linesOf t := by unfold linesOf; rw [nlS_eq]
  rw [e5] at s1
  have s2 := sum_drop ((linesOf t).map Str.length) 3
  rw [← List.map_drop] at s2
  have ln : (linesOf t).length ≤ t.length + 2 := by rw [← e5]; exact PyProof.Rows.split_le t ⟨#[10]⟩
  omega
theorem size_lt {ls : List Str} {i : Nat} {hd : Str} {n : Nat} (h : sizeAt ls i hd = some n) : 1 ≤ n ∧ n < 1000 := by
  unfold sizeAt at h
  split at h
  · split at h
    · rename_i m hm
      split at h
      · cases h; exact ⟨by assumption, (numOf_lt hm).1⟩
      · cases h
    · cases h
  · cases h
theorem states_asc {ls : List Str} {i : Nat} {hd : Str} {n : Nat} {ns : List Nat} (h : statesAt ls i hd n = some ns) : Asc n ns := by
  unfold statesAt at h
  split at h
  · cases h
  · rename_i ws _
    split at h
    · cases h; exact ⟨List.Pairwise.nil, fun _ z => by cases z⟩
    · split at h
      · rename_i q
        cases h
        have q2 := q.2
        simp only [statesD, Bool.and_eq_true] at q2
        obtain ⟨ns, e1, e2, e3⟩ := states_some q2.1
        rw [e1]
        refine ⟨?_, e3⟩
        have := q2.2
        rw [e2] at this
        exact asc_of this
      · cases h
structure Okd (m k : Nat) (d : PyData) : Prop where
  p : pln d = true
  nd : d.hasDict = false
  dp : d.depth ≤ m
  bk : d.bulk ≤ k
theorem due_okd {d : PyData} (hT : ∀ t, d = .str t → TextOk t) : Okd 4 43000 (dueD d) := by
  have bad : ∀ l : Nat, l ≤ 2000000 → Okd 4 43000 (badL l) := fun l hl => by
    refine ⟨?_, rfl, by show max 0 (max 0 (max 0 0)) + 1 ≤ 4; decide, ?_⟩
    · show ((true : Bool) && (decide ((l : Int).natAbs < 10 ^ 50) && (true && true))) = true
      rw [decide_eq_true (Nat.lt_of_lt_of_le (show (l : Int).natAbs < 3000000 by omega) (by decide))]; rfl
    · show 3 + 1 + (0 + 1 + (0 + 1 + 0)) ≤ 43000
      decide
  cases d with
  | str t =>
    have ok := hT t rfl
    show Okd 4 43000 (match outT t with | .inr l => badL l | .inl pl => .list [.str "fine", planD pl])
    cases e : outT t with
    | inr l =>
      refine bad l ?_
      have pl := (pages_lines ok.pg).1
      unfold outT outL at e
      split at e
      · cases e; omega
      · split at e
        · cases e; omega
        · split at e
          · cases e; omega
          · split at e
            · rename_i m hm
              cases e
              have key : ∀ {ls : List Str} {n k i l : Nat}, movesT ls n i k = .inr l → l ≤ i + k := by
                intro ls n k
                induction k with
                | zero => intro i l h; cases h
                | succ k ih =>
                  intro i l h
                  unfold movesT at h
                  split at h
                  · cases h; omega
                  · split at h
                    · rename_i q
                      cases h
                      have := ih q; omega
                    · cases h
              have := key hm
              omega
            · cases e
    | inl pl =>
      obtain ⟨e1, e2, e3, e4⟩ := outL_inl e
      have hn := size_lt e1
      have a1 := states_asc e2
      have a2 := states_asc e3
      have l1 := asc_len a1
      have l2 := asc_len a2
      obtain ⟨p1, n1, d1, b1⟩ := pn_nats pl.ins fun k hk => by have := a1.2 k hk; omega
      obtain ⟨p2, n2, d2, b2⟩ := pn_nats pl.outs fun k hk => by have := a2.2 k hk; omega
      obtain ⟨p3, n3, d3⟩ := pn_moves pl.ways fun m hm => by
        obtain ⟨j, hj⟩ := List.mem_iff_getElem?.mp hm
        obtain ⟨q1, q2, q3, q4, _⟩ := moveAt_ok ((movesT_inl e4).2 j m hj)
        exact ⟨by omega, by omega, q3, q4⟩
      have b3 := ok.bulk2 e
      refine ⟨?_, ?_, ?_, ?_⟩
      · show (pln (.str "fine") && ((decide ((pl.wide : Int).natAbs < 10 ^ 50) && (plns (nats pl.ins) && (plns (pl.ways.map mvD) && (plns (nats pl.outs) && true)))) && true)) = true
        rw [p1, p2, p3, decide_eq_true (Nat.lt_of_lt_of_le (show (pl.wide : Int).natAbs < 1000 by omega) (by decide))]
        decide +kernel
      · show (false || ((false || (PyData.hasDictAll (nats pl.ins) || (PyData.hasDictAll (pl.ways.map mvD) || (PyData.hasDictAll (nats pl.outs) || false)))) || false)) = false
        rw [n1, n2, n3]; rfl
      · show max 0 (max (max 0 (max (PyData.depthAll (nats pl.ins) + 1) (max (PyData.depthAll (pl.ways.map mvD) + 1) (max (PyData.depthAll (nats pl.outs) + 1) 0))) + 1) 0) + 1 ≤ 4
        omega
      · show 4 + 1 + ((0 + 1 + (PyData.bulkAll (nats pl.ins) + 1 + (PyData.bulkAll (pl.ways.map mvD) + 1 + (PyData.bulkAll (nats pl.outs) + 1 + 0)))) + 1 + 0) ≤ 43000
        omega
  | _ => exact bad 0 (by decide)

def spTold9 (K : PySem.W.Frag) : Sp := fun vs H Q _ => ∃ (v : V) (d : PyData), vs = [v] ∧ Dq K H v d ∧ (∀ t, d = .str t → TextOk t ∧ Words63 t) ∧ Shw d ∧ Low7 d.shown ∧ d.shown.length ≤ 100000 ∧ ∀ H', Same H H' → Q (.bl true) H'

section
variable {P : Program} {w : World} {K : PySem.W.Frag} {mg : Str → Option Value} {base : Heap}
theorem ok_LIsTold {f : Addr} {fd : FuncData} {k : Nat} (F : Fun K "_law_is_told" "_law_is_told" sLIsTold f fd) (nrepr : mg "repr" = none) (CLDue : Cal P w K mg base k "_law_due" ["_law_it"] (spDue K)) (CLHeard : Cal P w K mg base k "_law_heard" ["_law_it", "_law_is_named"] (spHeard K)) : FnG P w K mg base (k + 1) f fd ["_law_it"] (spTold9 K) := by
  refine FnG.body F scLIsTold (fun vs H Q E h => ?_) (fun cdv A outer s H vs Q E hg h => ?_)
  · obtain ⟨v, d, rfl, _⟩ := h; rfl
  · obtain ⟨v, d, rfl, hd, hT, sh, sl, sn, kQ⟩ := h
    have hr := hg.r
    have hu := hr.units
    refine ⟨_, (pss_cons (ps_par (i := 1) (j := 2) (by rfl) scLIsTold.nd rfl rfl (by decide) rfl rfl (pa_cons (pe_cal CLDue hr (by rfl) pass0 (pa_cons (pv 0) pa_nil)) (pa_cons (pe_callB (call_repr hg) (by rfl) nrepr (by decide +kernel) (pa_cons (pv 0) pa_nil)) pa_nil)) (by rfl))
      (pss_one (ps_ret (pe_cmpR op_eq (pe_callB (call_repr hg) (by rfl) nrepr (by decide +kernel) (pa_cons (pe_lst (pa_cons (pe_cal CLHeard hr (by rfl) pass0 (pa_cons (pv 0) (pa_cons pe_bl pa_nil))) (pa_cons (pe_cal CLHeard hr (by rfl) pass0 (pa_cons (pv 0) (pa_cons pe_bl pa_nil))) (pa_cons (pe_callB (call_repr hg) (by rfl) nrepr (by decide +kernel) (pa_cons (pv 0) pa_nil)) pa_nil)))) pa_nil)) (pe_callB (call_repr hg) (by rfl) nrepr (by decide +kernel) (pa_cons (pe_lst (pa_cons (pv 1) (pa_cons (pv 1) (pa_cons (pv 2) pa_nil)))) pa_nil)) (nomark _))))), ?_⟩
    have hT1 : ∀ t, d = .str t → TextOk t := fun t e => (hT t e).1
    have three : 3 ≤ sizeLine := by decide
    have ok := due_okd hT1
    have shB : Shw (.list [dueD d, dueD d, .str d.shown]) := by
      have b0 : (PyData.str d.shown).bulk = d.shown.length := by simp [PyData.bulk, Str.length]
      refine ⟨?_, .inl ?_, ?_, ?_⟩
      · show (pln (dueD d) && (pln (dueD d) && (pln (.str d.shown) && true))) = true
        rw [ok.p]
        show ((d.shown.cps.toList.all fun c => decide (c < 128)) && true) = true
        rw [Bool.and_true, List.all_eq_true]
        exact fun c hc => decide_eq_true (sl c hc)
      · show ((dueD d).hasDict || ((dueD d).hasDict || (false || false))) = false
        rw [ok.nd]; rfl
      · show max (dueD d).depth (max (dueD d).depth (max 0 0)) + 1 ≤ 60
        have := ok.dp
        omega
      · show (dueD d).bulk + 1 + ((dueD d).bulk + 1 + ((PyData.str d.shown).bulk + 1 + 0)) ≤ 200000
        have := ok.bk
        omega
    refine ⟨_, rfl, v, d, rfl, hd, hT, fun v1 H1 s1 d1 => ?_⟩
    refine ⟨_, rfl, ?_⟩
    dsimp only [tNil]
    refine repr_shw (hd.up s1) sh ?_
    refine ⟨_, _, rfl, ?_⟩
    have hd1 := hd.up s1
    refine ⟨_, rfl, v, d, false, rfl, hd1, hT1, fun v2 H2 s2 d2 => ⟨_, rfl, v, d, true, rfl, hd1.up s2, hT1, fun v3 H3 s3 d3 => ?_⟩⟩
    have s13 := s2.trans s3
    refine ⟨_, rfl, ?_⟩
    dsimp only [tNil]
    refine repr_shw (hd1.up s13) sh ?_
    try dsimp only [tNil]
    refine ⟨three, fun q1 nq1 => ?_⟩
    have sq1 := same_upd (o := .lst [v2, v3, .str d.shown]) nq1
    have gq1 : upd H3 q1 (.lst [v2, v3, .str d.shown]) q1 = some (.lst [v2, v3, .str d.shown]) := upd_same
    generalize upd H3 q1 (.lst [v2, v3, .str d.shown]) = H4 at sq1 gq1 ⊢
    refine repr_shw (d := .list [dueD d, dueD d, .str d.shown]) (.lst (sqOf gq1) (.cons (d2.up (s3.trans sq1)) (.cons (d3.up sq1) (.cons (.str _) .nil)))) shB ?_
    refine ⟨_, rfl, _, rfl, _, rfl, three, fun q2 nq2 => ?_⟩
    have sq2 := same_upd (o := .lst [v1, v1, .str d.shown]) nq2
    have gq2 : upd H4 q2 (.lst [v1, v1, .str d.shown]) q2 = some (.lst [v1, v1, .str d.shown]) := upd_same
    try dsimp only [tNil]
    generalize upd H4 q2 (.lst [v1, v1, .str d.shown]) = H5 at sq2 gq2 ⊢
    have d1 := d1.up ((s13.trans sq1).trans sq2)
    refine repr_shw (d := .list [dueD d, dueD d, .str d.shown]) (.lst (sqOf gq2) (.cons d1 (.cons d1 (.cons (.str _) .nil)))) shB ?_
    refine ⟨rfl, ?_⟩
    rw [decide_eq_true rfl]
    exact kQ _ (s1.trans ((s13.trans sq1).trans sq2))
end
end KP
namespace KP
open PySem PySem.Spec PyProof.Rows L2 EL TL
/-! ### what is written is read -/
theorem tl_sp : tl (" " : Str) = [32] := by decide +kernel
theorem tl_nl : tl nlS = [10] := by decide +kernel
theorem tl_empty : tl Str.empty = [] := rfl
theorem tl_joinS (y : Str) (parts : List Str) : tl (Txt.join y parts) = joinL (tl y) (parts.map tl) := by rw [join_eq]; exact tl_join y parts
theorem split_back {y : Str} {s : Nat} (ey : tl y = [s]) (hs : s < 256) {parts : List Str} (hne : parts ≠ []) (hp : ∀ p ∈ parts, s ∉ tl p) : Txt.split (Txt.join y parts) y = parts := by
  have hk : y.cps.all (· < 256) = true := by
    rw [Array.all_eq_true']
    intro c hc
    have : c ∈ tl y := Array.mem_toList_iff.mpr hc
    rw [ey] at this
    rw [List.mem_singleton.mp this]
    exact decide_eq_true hs
  exact TL.split_join ey hk hne hp
theorem wordsOf_join {ws : List Str} (hne : ws ≠ []) (hp : ∀ w ∈ ws, 32 ∉ tl w) : wordsOf (Txt.join (" " : Str) ws) = ws := split_back tl_sp (by decide) hne hp
theorem linesOf_join {ls : List Str} (hne : ls ≠ []) (hp : ∀ w ∈ ls, 10 ∉ tl w) : linesOf (Txt.join nlS ls) = ls := split_back tl_nl (by decide) hne hp
theorem num_free (n s : Nat) (h : s < 48 ∨ 57 < s) : s ∉ tl (numS n) := by rw [tl_numS]; exact numL_free h
theorem tl_dash : tl ("-" : Str) = [45] := by decide +kernel
theorem wordS_mk (l : List Nat) : tl (wordS ⟨l.toArray⟩) = if l = [] then [45] else l := by
  unfold wordS
  have e : (⟨l.toArray⟩ : Str).length = l.length := by rw [len_tl]
  rw [e]
  cases l with
  | nil => exact tl_dash
  | cons a r => rfl
/-- the words of a line -/
def lineW (hd : Str) (ns : List Nat) : List Str := hd :: (if ns = [] then [("-" : Str)] else ns.map numS)
def moveW (m : Mv) : List Str := [("move" : Str), numS m.s, wordS ⟨m.l.toArray⟩, wordS ⟨m.r.toArray⟩, numS m.t]
theorem joinL_cons (S a : List Nat) {r : List (List Nat)} (h : r ≠ []) : joinL S (a :: r) = a ++ (S ++ joinL S r) := by
  cases r with
  | nil => exact absurd rfl h
  | cons b r => rfl
theorem joinL_nil_iff {l : List Str} (h : ∀ w ∈ l, tl w ≠ []) : l ≠ [] → joinL [32] (l.map tl) ≠ [] := by
  intro hne
  cases l with
  | nil => exact absurd rfl hne
  | cons a r =>
    have ha := h a List.mem_cons_self
    cases r with
    | nil => exact ha
    | cons b r =>
      rw [List.map_cons, joinL_cons _ _ (by simp)]
      intro z
      exact ha (List.append_eq_nil_iff.mp z).1
theorem lineS_join (hd : Str) (ns : List Nat) : lineS hd ns = Txt.join (" " : Str) (lineW hd ns) := by
  refine ext_tl ?_
  show tl (((Str.empty ++ hd) ++ (" " : Str)) ++ wordS (Txt.join (" " : Str) (ns.map numS))) = _
  rw [tl_append, tl_append, tl_append, tl_empty, List.nil_append, tl_sp, tl_joinS, tl_sp]
  unfold lineW
  by_cases h : ns = []
  · subst h
    rw [if_pos rfl]
    have : wordS (Txt.join (" " : Str) (([] : List Nat).map numS)) = ("-" : Str) := by decide +kernel
    rw [this, List.map_cons, joinL_cons _ _ (by simp)]
    simp [joinL]
  · rw [if_neg h]
    have e : tl (Txt.join (" " : Str) (ns.map numS)) = joinL [32] ((ns.map numS).map tl) := by rw [tl_joinS, tl_sp]
    have ne : (Txt.join (" " : Str) (ns.map numS)).length ≠ 0 := by
      rw [len_tl, e]
      intro z
      refine joinL_nil_iff (l := ns.map numS) (fun w hw => ?_) (by simpa using h) (List.length_eq_zero_iff.mp z)
      obtain ⟨n, _, rfl⟩ := List.mem_map.mp hw
      rw [tl_numS]; exact numL_ne n
    unfold wordS
    rw [if_neg ne, e, List.map_cons, joinL_cons _ _ (by simpa using h)]
    simp
theorem moveS_join (m : Mv) : moveS m = Txt.join (" " : Str) (moveW m) := by
  refine ext_tl ?_
  have e5 : tl ("move " : Str) = tl ("move" : Str) ++ [32] := by decide +kernel
  simp only [moveS, moveW, tl_joinS, tl_append, tl_empty, tl_sp, List.map_cons, List.map_nil, joinL, e5, List.nil_append, List.append_assoc, List.cons_append]
theorem first_join (n : Nat) : Str.empty ++ ("pacer " : Str) ++ numS n = Txt.join (" " : Str) [("pacer" : Str), numS n] := by
  refine ext_tl ?_
  have e5 : tl ("pacer " : Str) = tl ("pacer" : Str) ++ [32] := by decide +kernel
  simp only [tl_joinS, tl_append, tl_empty, tl_sp, List.map_cons, List.map_nil, joinL, e5, List.nil_append, List.append_assoc, List.cons_append]
theorem mem_joinL {S : List Nat} {c : Nat} : ∀ {l : List (List Nat)}, c ∈ joinL S l → c ∈ S ∨ ∃ a ∈ l, c ∈ a
  | [], h => by cases h
  | [a], h => .inr ⟨a, List.mem_cons_self, h⟩
  | a :: b :: r, h => by
    have h : c ∈ a ++ (S ++ joinL S (b :: r)) := h
    rcases List.mem_append.mp h with h | h
    · exact .inr ⟨a, List.mem_cons_self, h⟩
    · rcases List.mem_append.mp h with h | h
      · exact .inl h
      · rcases mem_joinL h with h | ⟨x, hx, h⟩
        · exact .inl h
        · exact .inr ⟨x, List.mem_cons_of_mem _ hx, h⟩
/-- a word: neither blanks nor line feeds -/
def Wd (w : Str) : Prop := ∀ c ∈ tl w, c ≠ 10 ∧ c ≠ 32 ∧ c < 128
theorem Wd.lit {w : Str} (h : ((tl w).all fun c => c != 10 && (c != 32 && decide (c < 128))) = true) : Wd w := fun c hc => by
  have := List.all_eq_true.mp h c hc
  simp only [Bool.and_eq_true, bne_iff_ne, decide_eq_true_eq] at this
  exact this
theorem Wd.num (n : Nat) : Wd (numS n) := fun c hc => by
  rw [tl_numS] at hc
  have := numL_digits n c hc
  omega
theorem Wd.word {l : List Nat} (h : ∀ c ∈ l, 97 ≤ c ∧ c ≤ 122) : Wd (wordS ⟨l.toArray⟩) := fun c hc => by
  rw [wordS_mk] at hc
  split at hc
  · rw [List.mem_singleton.mp hc]; decide
  · have := h c hc; omega
theorem Wd.no32 {w : Str} (h : Wd w) : 32 ∉ tl w := fun z => (h 32 z).2.1 rfl
theorem join_ok {ws : List Str} (h : ∀ w ∈ ws, Wd w) : 10 ∉ tl (Txt.join (" " : Str) ws) ∧ Low7 (Txt.join (" " : Str) ws) := by
  have key : ∀ c ∈ tl (Txt.join (" " : Str) ws), c ≠ 10 ∧ c < 128 := fun c hc => by
    rw [tl_joinS, tl_sp] at hc
    rcases mem_joinL hc with z | ⟨a, ha, z⟩
    · rw [List.mem_singleton.mp z]; decide
    · obtain ⟨w, hw, rfl⟩ := List.mem_map.mp ha
      exact ⟨(h w hw c z).1, (h w hw c z).2.2⟩
  exact ⟨fun z => (key 10 z).1 rfl, fun c hc => (key c hc).2⟩
theorem lineW_wd {hd : Str} {ns : List Nat} (h : Wd hd) : ∀ w ∈ lineW hd ns, Wd w := fun w hw => by
  rcases List.mem_cons.mp hw with z | z
  · rw [z]; exact h
  · split at z
    · rw [List.mem_singleton.mp z]; exact Wd.lit (by decide +kernel)
    · obtain ⟨n, _, rfl⟩ := List.mem_map.mp z
      exact Wd.num n
abbrev AZ (l : List Nat) : Prop := ∀ c ∈ l, 97 ≤ c ∧ c ≤ 122
theorem moveW_wd {m : Mv} (h1 : AZ m.l) (h2 : AZ m.r) : ∀ w ∈ moveW m, Wd w := fun w hw => by
  simp only [moveW, List.mem_cons, List.not_mem_nil, or_false] at hw
  rcases hw with rfl | rfl | rfl | rfl | rfl
  · exact Wd.lit (by decide +kernel)
  · exact Wd.num _
  · exact Wd.word h1
  · exact Wd.word h2
  · exact Wd.num _
/-- the lines as words -/
def linesW (pl : Plan) : List (List Str) := [("pacer" : Str), numS pl.wide] :: lineW "begins" pl.ins :: lineW "ends" pl.outs :: pl.ways.map moveW
theorem linesW_wd {pl : Plan} (h : pl.Fine) : ∀ l ∈ linesW pl, (∀ w ∈ l, Wd w) ∧ l ≠ [] := fun l hl => by
  simp only [linesW, List.mem_cons, List.mem_map] at hl
  rcases hl with rfl | rfl | rfl | ⟨m, hm, rfl⟩
  · refine ⟨fun w hw => ?_, by simp⟩
    simp only [List.mem_cons, List.not_mem_nil, or_false] at hw
    rcases hw with rfl | rfl
    · exact Wd.lit (by decide +kernel)
    · exact Wd.num _
  · exact ⟨lineW_wd (Wd.lit (by decide +kernel)), by simp [lineW]⟩
  · exact ⟨lineW_wd (Wd.lit (by decide +kernel)), by simp [lineW]⟩
  · obtain ⟨_, _, _, _, h5, h6⟩ := h.m m hm
    exact ⟨moveW_wd h5 h6, by simp [moveW]⟩
theorem linesS_eq (pl : Plan) : linesS pl = (linesW pl).map (Txt.join (" " : Str)) := by
  simp only [linesS, linesW, List.map_cons, List.map_map]
  rw [← first_join, ← lineS_join, ← lineS_join]
  have : pl.ways.map moveS = pl.ways.map (Txt.join (" " : Str) ∘ moveW) := List.map_congr_left fun m _ => moveS_join m
  rw [this]
theorem lines_text {pl : Plan} (h : pl.Fine) : linesOf (textS pl) = linesS pl := by
  refine linesOf_join (by simp [linesS]) fun w hw => ?_
  rw [linesS_eq] at hw
  obtain ⟨l, hl, rfl⟩ := List.mem_map.mp hw
  exact (join_ok (linesW_wd h l hl).1).1
theorem page_text {pl : Plan} (h : pl.Fine) (hw : pl.ways.length ≤ 40) : Page (textS pl) := by
  constructor
  · have m1 := moves_sum (ms := pl.ways) fun m hm => by
      obtain ⟨q1, q2, q3, q4, _⟩ := h.m m hm
      have := h.w2
      exact moveS_len (by omega) (by omega) q3 q4
    have w2 := h.w2
    have l1 := asc_len h.i
    have l2 := asc_len h.o
    have k1 := lineS_len (hd := "begins") (ns := pl.ins) fun n hn => by have := h.i.2 n hn; omega
    have k2 := lineS_len (hd := "ends") (ns := pl.outs) fun n hn => by have := h.o.2 n hn; omega
    have n1 := numS_len pl.wide (by omega)
    have z1 : ("begins" : Str).length = 6 := by decide
    have z2 : ("ends" : Str).length = 4 := by decide
    have z3 : ("pacer " : Str).length = 6 := by decide
    have z5 : Str.empty.length = 0 := by decide
    have z6 : nlS.length = 1 := by decide
    have a1 : (Str.empty ++ ("pacer " : Str) ++ numS pl.wide).length ≤ 9 := by rw [app_len, app_len, z3, z5]; omega
    rw [z1] at k1
    rw [z2] at k2
    have hj := StrLaws.join_length_le nlS (linesS pl)
    have e : (textS pl).length = (Str.join nlS (linesS pl)).length := by rw [← join_eq]
    rw [e]
    refine Nat.le_trans hj ?_
    rw [z6]
    simp only [linesS, List.map_cons, List.sum_cons, List.length_cons, List.length_map] at m1 ⊢
    omega
  · intro c hc
    have hc : c ∈ tl (Txt.join nlS (linesS pl)) := hc
    rw [tl_joinS, tl_nl] at hc
    rcases mem_joinL hc with z | ⟨a, ha, z⟩
    · rw [List.mem_singleton.mp z]; decide
    · rw [linesS_eq] at ha
      obtain ⟨w, hw, rfl⟩ := List.mem_map.mp ha
      obtain ⟨l, hl, rfl⟩ := List.mem_map.mp hw
      exact (join_ok (linesW_wd h l hl).1).2 c z
theorem wordsAt_text {pl : Plan} (h : pl.Fine) {i : Nat} {hd : Str} {ws : List Str} (e : (linesW pl)[i]? = some (hd :: ws)) : wordsAt (linesOf (textS pl)) i hd = some ws := by
  have hw := linesW_wd h _ (List.mem_of_getElem? e)
  unfold wordsAt
  rw [lines_text h, linesS_eq, List.getElem?_map, e]
  dsimp only [Option.map]
  rw [wordsOf_join hw.2 fun w hw' => (hw.1 w hw').no32]
  simp
theorem wordS_dash {l : List Nat} (h : AZ l) : txtOf (wordS ⟨l.toArray⟩) = some ⟨l.toArray⟩ := by
  unfold wordS
  have e : (⟨l.toArray⟩ : Str).length = l.length := by rw [len_tl]
  rw [e]
  cases l with
  | nil => decide +kernel
  | cons a r =>
    rw [if_neg (by simp)]
    unfold txtOf
    have : (⟨(a :: r).toArray⟩ : Str) ≠ ("-" : Str) := fun z => by
      have z2 := congrArg tl z
      rw [tl_dash] at z2
      have := (List.cons.inj z2).1
      have := h a List.mem_cons_self
      omega
    rw [if_neg this, if_pos ⟨by rw [e]; simp, az_text h⟩]
theorem statesAt_text {pl : Plan} (h : pl.Fine) {i : Nat} {hd : Str} {ns : List Nat} (e : (linesW pl)[i]? = some (lineW hd ns)) (ha : Asc pl.wide ns) : statesAt (linesOf (textS pl)) i hd pl.wide = some ns := by
  unfold statesAt
  rw [wordsAt_text h e]
  dsimp only
  have w2 := h.w2
  by_cases hn : ns = []
  · subst hn; rw [if_pos rfl, if_pos rfl]
  · rw [if_neg hn]
    have n1 : ns.map numS ≠ [("-" : Str)] := fun z => by
      cases ns with
      | nil => exact hn rfl
      | cons a r =>
        have z2 := congrArg tl (List.cons.inj z).1
        rw [tl_numS, tl_dash] at z2
        exact numL_free (n := a) (s := 45) (by omega) (by rw [z2]; exact List.mem_cons_self)
    have e1 : ∀ l : List Nat, (∀ n ∈ l, n < pl.wide) → ((l.map numS).map fun w => optND (numOf w)) = nats l ∧ (l.map numS).filterMap numOf = l := by
      intro l
      induction l with
      | nil => intro _; exact ⟨rfl, rfl⟩
      | cons a r ih =>
        intro hl
        obtain ⟨i1, i2⟩ := ih fun n hn => hl n (List.mem_cons_of_mem _ hn)
        have := numOf_num (n := a) (by have := hl a List.mem_cons_self; omega)
        constructor
        · rw [List.map_cons, List.map_cons, this, i1]; rfl
        · rw [List.map_cons, List.filterMap_cons, this, i2]
    obtain ⟨i1, i2⟩ := e1 ns ha.2
    rw [if_neg n1, i1, i2, if_pos ⟨by simpa using hn, states_ok ha⟩]
theorem readAs_text {pl : Plan} (h : pl.Fine) : ReadAs (textS pl) pl := by
  have w2 := h.w2
  refine ⟨?_, statesAt_text h (i := 1) rfl h.i, statesAt_text h (i := 2) rfl h.o, ?_, fun j m hm => ?_⟩
  · unfold sizeAt
    rw [wordsAt_text h (i := 0) (ws := [numS pl.wide]) rfl]
    dsimp only
    rw [numOf_num (by omega)]
    exact if_pos h.w1
  · rw [lines_text h]; simp [linesS]; omega
  · unfold moveAt
    rw [wordsAt_text h (i := 3 + j) (ws := [numS m.s, wordS ⟨m.l.toArray⟩, wordS ⟨m.r.toArray⟩, numS m.t]) (by
      show (linesW pl)[3 + j]? = some (moveW m)
      simp only [linesW]
      rw [show 3 + j = j + 1 + 1 + 1 by omega, List.getElem?_cons_succ, List.getElem?_cons_succ, List.getElem?_cons_succ, List.getElem?_map, hm]; rfl)]
    obtain ⟨q1, q2, q3, q4, q5, q6⟩ := h.m m (List.mem_of_getElem? hm)
    dsimp only
    rw [numOf_num (by omega), numOf_num (by omega), wordS_dash q5, wordS_dash q6]
    dsimp only
    rw [if_pos ⟨q1, q2⟩]
end KP
namespace KP
open PySem PySem.Spec PyProof.Rows L2 EL
open TL
/-! ### pages: how long, how many blanks in a line -/
def Bsp (S : Nat) : Nat → List Nat → Prop
  | k, [] => k ≤ S
  | k, c :: r => k ≤ S ∧ Bsp S (if c = 10 then 0 else if c = 32 then k + 1 else k) r
theorem sp_le {S k : Nat} {l : List Nat} (h : Bsp S k l) : k ≤ S := by
  cases l with
  | nil => exact h
  | cons c r => exact h.1
theorem sp_add {S S' j : Nat} : ∀ {l : List Nat} {k k' : Nat}, Bsp S k l → k' ≤ k + j → S + j ≤ S' → Bsp S' k' l
  | [], k, k', h, h1, h2 => by have h : k ≤ S := h; show k' ≤ S'; omega
  | c :: r, k, k', h, h1, h2 => by
    have h0 := h.1
    refine ⟨by omega, sp_add h.2 ?_ h2⟩
    by_cases c10 : c = 10
    · rw [if_pos c10, if_pos c10]; omega
    · rw [if_neg c10, if_neg c10]
      by_cases c32 : c = 32
      · rw [if_pos c32, if_pos c32]; omega
      · rw [if_neg c32, if_neg c32]; exact h1
theorem sp_up {S S' k : Nat} {l : List Nat} (h : Bsp S k l) (h2 : S ≤ S') : Bsp S' k l := sp_add (j := 0) h (Nat.le_refl _) h2
theorem sp_app {S S' : Nat} {b : List Nat} (hb : Bsp S' 0 b) : ∀ {a : List Nat} {k : Nat}, Bsp S k a → Bsp (S + S') k (a ++ b)
  | [], k, h => by have h : k ≤ S := h; exact sp_add (j := k) hb (by omega) (by omega)
  | c :: r, k, h => ⟨by have := h.1; omega, sp_app hb h.2⟩
theorem sp_take {S : Nat} : ∀ {l : List Nat} {k : Nat} (i : Nat), Bsp S k l → Bsp S k (l.take i)
  | _, _, 0, h => sp_le h
  | [], _, _ + 1, h => h
  | c :: r, k, i + 1, h => ⟨h.1, sp_take i h.2⟩
theorem sp_drop {S : Nat} : ∀ {l : List Nat} {k : Nat} (i : Nat), Bsp S k l → Bsp S 0 (l.drop i)
  | l, k, 0, h => sp_add (j := 0) h (by omega) (Nat.le_refl _)
  | [], _, _ + 1, h => Nat.zero_le _
  | c :: r, k, i + 1, h => sp_drop i h.2
theorem sp_nl {S : Nat} {x : List Nat} (hx : Bsp S 0 x) : ∀ {a : List Nat} {k : Nat}, Bsp S k a → Bsp S k (a ++ 10 :: x)
  | [], k, h => ⟨h, by rw [if_pos rfl]; exact hx⟩
  | c :: r, k, h => ⟨h.1, sp_nl hx h.2⟩
theorem sp_nl_inv {S : Nat} {x : List Nat} : ∀ {a : List Nat} {k : Nat}, Bsp S k (a ++ 10 :: x) → Bsp S k a ∧ Bsp S 0 x
  | [], k, h => ⟨h.1, by have := h.2; rw [if_pos rfl] at this; exact this⟩
  | c :: r, k, h => by
    obtain ⟨h1, h2⟩ := sp_nl_inv (a := r) h.2
    exact ⟨⟨h.1, h1⟩, h2⟩
theorem sp_join {S : Nat} : ∀ {ps : List (List Nat)}, (∀ p ∈ ps, Bsp S 0 p) → Bsp S 0 (joinL [10] ps)
  | [], _ => Nat.zero_le _
  | [a], h => h a List.mem_cons_self
  | a :: b :: r, h => by
    have ih := sp_join (ps := b :: r) fun p hp => h p (List.mem_cons_of_mem _ hp)
    rw [joinL_cons _ _ (by simp)]
    exact sp_nl ih (h a List.mem_cons_self)
theorem sp_parts {S : Nat} : ∀ {ps : List (List Nat)}, Bsp S 0 (joinL [10] ps) → ∀ p ∈ ps, Bsp S 0 p
  | [], _, p, hp => by cases hp
  | [a], h, p, hp => by rw [List.mem_singleton.mp hp]; exact h
  | a :: b :: r, h, p, hp => by
    rw [joinL_cons _ _ (by simp)] at h
    obtain ⟨h1, h2⟩ := sp_nl_inv (a := a) h
    rcases List.mem_cons.mp hp with z | z
    · rw [z]; exact h1
    · exact sp_parts h2 p z
theorem sp_cnt {S : Nat} : ∀ {l : List Nat} {k : Nat}, 10 ∉ l → Bsp S k l → k + l.count 32 ≤ S
  | [], k, _, h => by have h : k ≤ S := h; rw [List.count_nil]; omega
  | c :: r, k, hn, h => by
    have c10 : c ≠ 10 := fun z => hn (z ▸ List.mem_cons_self)
    have h2 := h.2
    rw [if_neg c10] at h2
    have ih := sp_cnt (fun z => hn (List.mem_cons_of_mem _ z)) h2
    by_cases c32 : c = 32
    · rw [if_pos c32] at ih
      rw [c32, List.count_cons_self]
      omega
    · rw [if_neg c32] at ih
      rw [List.count_cons_of_ne c32]
      exact ih
theorem cnt_sp {S : Nat} : ∀ {l : List Nat} {k : Nat}, k + l.count 32 ≤ S → Bsp S k l
  | [], k, h => by rw [List.count_nil] at h; exact h
  | c :: r, k, h => by
    have hc : (c :: r).count 32 = r.count 32 + if c = 32 then 1 else 0 := by
      by_cases c32 : c = 32
      · rw [if_pos c32, c32, List.count_cons_self]
      · rw [if_neg c32, List.count_cons_of_ne c32]; rfl
    rw [hc] at h
    refine ⟨by omega, cnt_sp ?_⟩
    by_cases c10 : c = 10
    · rw [if_pos c10]; omega
    · rw [if_neg c10]
      by_cases c32 : c = 32
      · rw [if_pos c32] at h ⊢; omega
      · rw [if_neg c32] at h ⊢; omega
theorem cnt_count (l : List Nat) : PyProof.Rows.cnt 32 l = (l.count 32 : Nat) := by
  induction l with
  | nil => rfl
  | cons c r ih =>
    rw [PyProof.Rows.cnt_cons, ih]
    by_cases c32 : c = 32
    · rw [if_pos c32, c32, List.count_cons_self]; omega
    · rw [if_neg c32, List.count_cons_of_ne c32]; omega
theorem words_count (l : Str) : (wordsOf l).length = 1 + (tl l).count 32 := by
  have h := PyProof.Rows.split_len l 32
  have e : wordsOf l = Txt.split l ⟨#[32]⟩ := by unfold wordsOf; rw [spS_eq]
  rw [← e] at h
  have h2 := cnt_count l.cps.toList
  rw [h2] at h
  have : ((wordsOf l).length : Int) = 1 + ((tl l).count 32 : Nat) := h
  omega
theorem lines_eq (t : Str) : linesOf t = Txt.split t ⟨#[10]⟩ := by unfold linesOf; rw [nlS_eq]
theorem words_eq (t : Str) : wordsOf t = Txt.split t ⟨#[32]⟩ := by unfold wordsOf; rw [spS_eq]
theorem lines_free {t l : Str} (h : l ∈ linesOf t) : 10 ∉ tl l := by
  rw [lines_eq] at h
  exact StrLaws.split_free t 10 l h
theorem words_free {t l : Str} (h : l ∈ wordsOf t) : 32 ∉ tl l := by
  rw [words_eq] at h
  exact StrLaws.split_free t 32 l h
theorem tl_lines (t : Str) : tl t = joinL [10] ((linesOf t).map tl) := by
  have e := StrLaws.join_split t nlS
  have e2 := tl_join nlS (Txt.split t nlS)
  rw [e, tl_nl] at e2
  exact e2
theorem tl_words (t : Str) : tl t = joinL [32] ((wordsOf t).map tl) := by
  have e := StrLaws.join_split t spS
  have e2 := tl_join spS (Txt.split t spS)
  rw [e, show tl spS = [32] from tl_sp] at e2
  exact e2
/-- a page that may be bent -/
structure PgOk (L S : Nat) (t : Str) : Prop where
  len : t.length ≤ L
  low : Low7 t
  sp : Bsp S 0 (tl t)
theorem PgOk.w63 {L S : Nat} {t : Str} (h : PgOk L S t) (hS : S ≤ 62) : Words63 t := fun l hl => by
  have h1 := sp_parts (ps := (linesOf t).map tl) (by rw [← tl_lines]; exact h.sp) (tl l) (List.mem_map_of_mem hl)
  have := sp_cnt (lines_free hl) h1
  rw [words_count]
  omega
/-- how much parts need -/
def wt (ps : List Str) : Nat := (ps.map fun p => p.length + 1).sum
theorem wt_app (a b : List Str) : wt (a ++ b) = wt a + wt b := by unfold wt; rw [List.map_append, List.sum_append]
theorem wt_take (l : List Str) (i : Nat) : wt (l.take i) ≤ wt l := by
  have := wt_app (l.take i) (l.drop i)
  rw [List.take_append_drop] at this
  omega
theorem wt_drop (l : List Str) (i : Nat) : wt (l.drop i) ≤ wt l := by
  have := wt_app (l.take i) (l.drop i)
  rw [List.take_append_drop] at this
  omega
theorem wt_split (t : Str) (c : Nat) : wt (Txt.split t ⟨#[c]⟩) ≤ t.length + 1 := by
  have := PyProof.Rows.split_weight t ⟨#[c]⟩ (Nat.le_refl 1)
  have e : ∀ l : List Str, wt l = (l.map (·.length)).sum + l.length := by
    intro l
    induction l with
    | nil => rfl
    | cons a r ih => unfold wt at ih ⊢; simp only [List.map_cons, List.sum_cons, List.length_cons] at ih ⊢; omega
  rw [e]
  exact this
theorem len_join2 (c : Nat) : ∀ ps : List Str, (joinL [c] (ps.map tl)).length ≤ wt ps
  | [] => Nat.zero_le _
  | [a] => by
    show (tl a).length ≤ (a.length + 1) + 0
    rw [← len_tl]; omega
  | a :: b :: r => by
    have ih := len_join2 c (b :: r)
    rw [List.map_cons, joinL_cons _ _ (by simp), List.length_append, List.length_append]
    have e : wt (a :: b :: r) = (a.length + 1) + wt (b :: r) := rfl
    rw [e, ← len_tl]
    show a.length + (1 + _) ≤ _
    omega
theorem low_join {c : Nat} (hc : c < 128) {ps : List Str} (h : ∀ p ∈ ps, Low7 p) : ∀ x ∈ joinL [c] (ps.map tl), x < 128 := fun x hx => by
  rcases mem_joinL hx with z | ⟨a, ha, z⟩
  · rw [List.mem_singleton.mp z]; exact hc
  · obtain ⟨p, hp, rfl⟩ := List.mem_map.mp ha
    exact h p hp x z
theorem mem_part {c : Nat} : ∀ {ps : List (List Nat)} {p : List Nat}, p ∈ ps → ∀ x ∈ p, x ∈ joinL [c] ps := by
  intro ps
  induction ps with
  | nil => intro p hp; cases hp
  | cons a r ih =>
    intro p hp x hx
    cases r with
    | nil => rw [List.mem_singleton.mp hp] at hx; exact hx
    | cons b r' =>
      rw [joinL_cons _ _ (by simp)]
      rcases List.mem_cons.mp hp with z | z
      · rw [z] at hx; exact List.mem_append_left _ hx
      · exact List.mem_append_right _ (List.mem_append_right _ (ih z x hx))
theorem line_low {L S : Nat} {t : Str} (h : PgOk L S t) : ∀ l ∈ linesOf t, Low7 l := fun l hl c hc => by
  refine h.low c ?_
  rw [tl_lines]
  exact mem_part (List.mem_map_of_mem hl) c hc
theorem word_low {l w : Str} (h : Low7 l) (hw : w ∈ wordsOf l) : Low7 w := fun c hc => by
  refine h c ?_
  rw [tl_words]
  exact mem_part (List.mem_map_of_mem hw) c hc
theorem line_sp {L S : Nat} {t : Str} (h : PgOk L S t) : ∀ l ∈ linesOf t, Bsp S 0 (tl l) := fun l hl => sp_parts (ps := (linesOf t).map tl) (by rw [← tl_lines]; exact h.sp) (tl l) (List.mem_map_of_mem hl)
/-- a page of lines of one -/
theorem pg_lines {L S L' S' : Nat} {t : Str} (h : PgOk L S t) {ps : List Str} (hp : ∀ p ∈ ps, Low7 p ∧ Bsp S' 0 (tl p)) (hw : wt ps ≤ L') : PgOk L' S' (Txt.join nlS ps) := by
  have e : tl (Txt.join nlS ps) = joinL [10] (ps.map tl) := by rw [tl_joinS, tl_nl]
  refine ⟨?_, fun c hc => ?_, ?_⟩
  · rw [len_tl, e]
    exact Nat.le_trans (len_join2 10 ps) hw
  · rw [e] at hc
    exact low_join (by decide) (fun p hp' => (hp p hp').1) c hc
  · rw [e]
    refine sp_join fun p hp' => ?_
    obtain ⟨q, hq, rfl⟩ := List.mem_map.mp hp'
    exact (hp q hq).2
/-- a sign put in -/
theorem pg_sign {L S : Nat} {t x : Str} (h : PgOk L S t) (hx : Low7 x) (hl : x.length = 1) (i j : Nat) : PgOk (2 * L + 10) (2 * S + 2) ((⟨((tl t).take i).toArray⟩ ++ x) ++ ⟨((tl t).drop j).toArray⟩) := by
  have e : tl ((⟨((tl t).take i).toArray⟩ ++ x : Str) ++ ⟨((tl t).drop j).toArray⟩) = ((tl t).take i ++ tl x) ++ (tl t).drop j := by rw [tl_append, tl_append]
  have lt := h.len
  rw [len_tl] at lt hl
  refine ⟨?_, fun c hc => ?_, ?_⟩
  · rw [len_tl, e, List.length_append, List.length_append, List.length_take, List.length_drop]
    omega
  · rw [e] at hc
    rcases List.mem_append.mp hc with z | z
    · rcases List.mem_append.mp z with z | z
      · exact h.low c (List.mem_of_mem_take z)
      · exact hx c z
    · exact h.low c (List.mem_of_mem_drop z)
  · rw [e]
    have s1 : Bsp 1 0 (tl x) := cnt_sp (by
      have := List.count_le_length (a := 32) (l := tl x)
      omega)
    exact sp_up (sp_app (sp_drop j h.sp) (sp_app s1 (sp_take i h.sp))) (by omega)
theorem cnt_join : ∀ ps : List Str, (joinL [32] (ps.map tl)).count 32 ≤ (ps.map fun p => (tl p).count 32).sum + (ps.length - 1)
  | [] => Nat.zero_le _
  | [a] => by show (tl a).count 32 ≤ (tl a).count 32 + 0 + 0; omega
  | a :: b :: r => by
    have ih := cnt_join (b :: r)
    have e0 : ((a :: b :: r).map fun p => (tl p).count 32).sum = (tl a).count 32 + ((b :: r).map fun p => (tl p).count 32).sum := rfl
    rw [e0, List.map_cons, joinL_cons _ _ (by simp), List.count_append, List.count_append]
    have e : ([32] : List Nat).count 32 = 1 := by decide
    rw [e]
    simp only [List.length_cons] at ih ⊢
    omega
theorem sum_zero {ps : List Str} (h : ∀ p ∈ ps, 32 ∉ tl p) : (ps.map fun p => (tl p).count 32).sum = 0 := by
  induction ps with
  | nil => rfl
  | cons a r ih =>
    rw [List.map_cons, List.sum_cons, ih fun p hp => h p (List.mem_cons_of_mem _ hp), List.count_eq_zero.mpr (h a List.mem_cons_self)]
/-- the words of a line, bent -/
theorem ln_bits {L S : Nat} {t l : Str} (h : PgOk L S t) (hl : l ∈ linesOf t) {A X C : List Str} (hA : ∀ b ∈ A, b ∈ wordsOf l) (hC : ∀ b ∈ C, b ∈ wordsOf l) (hn : A.length + C.length ≤ (wordsOf l).length) (hx : X.length ≤ 1) (hX : ∀ b ∈ X, Low7 b ∧ (tl b).count 32 ≤ 1) :
    Low7 (Txt.join (" " : Str) (A ++ X ++ C)) ∧ Bsp (2 * S + 2) 0 (tl (Txt.join (" " : Str) (A ++ X ++ C))) := by
  have e : tl (Txt.join (" " : Str) (A ++ X ++ C)) = joinL [32] ((A ++ X ++ C).map tl) := by rw [tl_joinS, tl_sp]
  have lw := line_low h l hl
  have sl := sp_cnt (lines_free hl) (line_sp h l hl)
  have wc := words_count l
  refine ⟨fun c hc => ?_, ?_⟩
  · rw [e] at hc
    refine low_join (by decide) (fun p hp => ?_) c hc
    rcases List.mem_append.mp hp with z | z
    · rcases List.mem_append.mp z with z | z
      · exact word_low lw (hA p z)
      · exact (hX p z).1
    · exact word_low lw (hC p z)
  · rw [e]
    refine cnt_sp ?_
    have c1 := cnt_join (A ++ X ++ C)
    have zA := sum_zero fun p hp => words_free (hA p hp)
    have zC := sum_zero fun p hp => words_free (hC p hp)
    have zX : (X.map fun p => (tl p).count 32).sum ≤ 1 := by
      match X, hx with
      | [], _ => exact Nat.zero_le _
      | [x], _ => have := (hX x (by simp)).2; simp only [List.map_cons, List.map_nil, List.sum_cons, List.sum_nil]; omega
    have e0 : ((A ++ X ++ C).map fun p => (tl p).count 32).sum = (A.map fun p => (tl p).count 32).sum + (X.map fun p => (tl p).count 32).sum + (C.map fun p => (tl p).count 32).sum := by
      rw [List.map_append, List.map_append, List.sum_append, List.sum_append]
    rw [e0, zA, zC, List.length_append, List.length_append] at c1
    omega
theorem wt_join (ps : List Str) : (Txt.join (" " : Str) ps).length ≤ wt ps := by
  rw [len_tl, tl_joinS, tl_sp]
  exact len_join2 32 ps
/-- the page with a line in its place -/
theorem pg_line {L S : Nat} {t l x : Str} (h : PgOk L S t) {i : Nat} (hl : (linesOf t)[i]? = some l) (hx : Low7 x) (hs : Bsp (2 * S + 2) 0 (tl x)) (hw : x.length ≤ l.length + 9) : PgOk (2 * L + 10) (2 * S + 2) (Txt.join nlS ((linesOf t).take i ++ [x] ++ (linesOf t).drop (i + 1))) := by
  refine pg_lines h (fun p hp => ?_) ?_
  · rcases List.mem_append.mp hp with z | z
    · rcases List.mem_append.mp z with z | z
      · have := List.mem_of_mem_take z
        exact ⟨line_low h p this, sp_up (line_sp h p this) (by omega)⟩
      · rw [List.mem_singleton.mp z]; exact ⟨hx, hs⟩
    · have := List.mem_of_mem_drop z
      exact ⟨line_low h p this, sp_up (line_sp h p this) (by omega)⟩
  · have w1 := wt_split t 10
    rw [← lines_eq] at w1
    have e : wt (linesOf t) = wt ((linesOf t).take i) + (l.length + 1) + wt ((linesOf t).drop (i + 1)) := by
      obtain ⟨hi, he⟩ := List.getElem?_eq_some_iff.mp hl
      have := wt_app ((linesOf t).take i) ((linesOf t).drop i)
      rw [List.take_append_drop, List.drop_eq_getElem_cons hi, he] at this
      have e2 : wt (l :: (linesOf t).drop (i + 1)) = (l.length + 1) + wt ((linesOf t).drop (i + 1)) := rfl
      omega
    have e3 : wt [x] = x.length + 1 := rfl
    rw [wt_app, wt_app, e3]
    have := h.len
    omega
end KP
/-! list(text): its signs. -/
namespace EL
open PySem PySem.Spec PyProof.Rows L2
theorem vals_at : ∀ {vs : List V} {us : List Value}, vs.length = us.length → (∀ (j : Nat) (v : V) (u : Value), vs[j]? = some v → us[j]? = some u → RelV v u) → Vals vs us
  | [], [], _, _ => .nil
  | [], _ :: _, h, _ => by simp at h
  | _ :: _, [], h, _ => by simp at h
  | v :: vs, u :: us, h, k => .cons (k 0 v u rfl rfl) (vals_at (by simpa using h) fun j v' u' e1 e2 => k (j + 1) v' u' e1 e2)
def rListS : List V → Hp → VK → Prop := fun xs H Q => ∃ x : Str, xs = [.str x] ∧ x.length ≤ sizeLine ∧ ∀ p, H p = none → Q (.ref p) (upd H p (.lst (x.cps.toList.map fun c => V.str ⟨#[c]⟩)))
theorem call_listS {X : Cx} (hc : X.calm = true) : CallR X (.type "list") rListS := by
  intro pins s σ H xs us Q I r h
  obtain ⟨x, rfl, hz, q⟩ := h
  obtain ⟨u, rfl, t, rfl⟩ := vals1 r
  refine call_list_str (I.ok.hd hc) x t (hn := hz) fun h' tk acc' c' hk hS hacc => ?_
  have sz : acc'.toList.length = x.cps.toList.length := by rw [Array.length_toList, Array.length_toList]; exact hacc.1
  refine ⟨.ref s.heap.objs.size, _, I.laid (t' := tk) hk (Nat.le_refl _) (show ObjOk X.prog X.w _ h' _ (.lst (x.cps.toList.map fun c => V.str ⟨#[c]⟩)) from ⟨by rw [List.length_map, Array.length_toList]; exact hz, acc'.toList, c', ?_, by simpa using hS⟩), rfl, q _ (I.hok.fresh (Nat.le_refl _))⟩
  refine vals_at (by rw [List.length_map, sz]) fun j v u e1 e2 => ?_
  rw [Array.getElem?_toList] at e2
  obtain ⟨c, t', hc', rfl⟩ := hacc.2 j u e2
  rw [List.getElem?_map, Array.getElem?_toList, hc'] at e1
  cases e1
  exact ⟨t', rfl⟩
end EL
namespace KP
open PySem PySem.Spec PyProof.Rows L2 EL
open Evl (pss_cut)
open TL
abbrev sLBent : Stmt := topS 50
theorem scLBent : FnScope ["_law_deck_here", "_law_page", "_law_way_here", "_law_at", "_law_lines", "_law_spot", "_law_bits", "_law_where", "_law_some_here"] ["_law_deck_here", "_law_page"] (defScope sLBent) := ⟨rfl, rfl, rfl, by decide +kernel, rfl, by decide +kernel, by decide +kernel⟩
def spBent9 : Sp := fun vs H Q _ => ∃ (a q : Addr) (m L S : Nat) (t : Str), vs = [.ref a, .str t] ∧ Dw a q m H ∧ m + 10 < 1000000000 ∧ PgOk L S t ∧ L ≤ 900 ∧ ∀ t' H', PgOk (2 * L + 10) (2 * S + 2) t' → EL.Off a q H H' → Dw a q (m + 5) H' → Q (.str t') H'
theorem cutS_tk (t : Str) (n : Nat) : cutS t none (some (n : Int)) = ⟨((tl t).take n).toArray⟩ := by
  unfold cutS
  rw [HT.sIx_nat, HT.sIx_none, List.drop_zero, Nat.sub_zero]
  show (⟨((tl t).take (min n t.length)).toArray⟩ : Str) = _
  rw [show (tl t).take (min n t.length) = (tl t).take n by
    rw [List.take_eq_take_iff, ← len_tl]; omega]
theorem cutS_dp (t : Str) (n : Nat) : cutS t (some (n : Int)) none = ⟨((tl t).drop n).toArray⟩ := by
  unfold cutS
  rw [HT.sIx_nat, HT.sIx_none]
  show (⟨(((tl t).drop (min n t.length)).take (t.length - min n t.length)).toArray⟩ : Str) = _
  by_cases h : n ≤ t.length
  · rw [Nat.min_eq_left h, List.take_of_length_le (by rw [List.length_drop, ← len_tl]; omega)]
  · rw [Nat.min_eq_right (by omega), List.drop_of_length_le (by rw [← len_tl]; omega), List.drop_of_length_le (by rw [← len_tl]; omega), List.take_nil]
theorem hid_new {a q p : Addr} {m : Nat} {H G : Hp} {o : HO} (d : Dw a q m H) (np : H p = none) (h : G p = some o) : hid a q G p = some o := by
  obtain ⟨h1, h2⟩ := d.na np
  rw [hid_ne h1 h2]; exact h
theorem wt_sum (ys : List Str) {z : Str} (hz : z.length = 1) : (ys.map (·.length)).sum + ys.length * z.length = wt ys := by
  rw [hz, Nat.mul_one]
  induction ys with
  | nil => rfl
  | cons a r ih =>
    unfold wt at ih ⊢
    simp only [List.map_cons, List.sum_cons, List.length_cons] at ih ⊢
    omega
theorem join_at {K : PySem.W.Frag} {H : Hp} {b : Addr} {ys : List Str} {z : Str} {Q : VK} (hz : z.length = 1) (hb : H b = some (.lst (ys.map V.str))) (hw : wt ys ≤ 1000000) (q : Q (.str (Txt.join z ys)) H) :
    ∃ (a : Str) (p : Addr) (ys' : List Str), V.str z = .str a ∧ [V.ref b] = [.ref p] ∧ (SqL K H p (ys'.map V.str) ∨ SqT K H p (ys'.map V.str)) ∧ (ys'.map (·.length)).sum + ys'.length * a.length ≤ 16777216 ∧ Q (.str (Txt.join a ys')) H :=
  ⟨z, b, ys, rfl, rfl, .inl (sqOf hb), by rw [wt_sum ys hz]; omega, q⟩
theorem wt_len (ys : List Str) : ys.length ≤ wt ys := by
  have := wt_sum ys (z := nlS) (by decide +kernel)
  have e : nlS.length = 1 := by decide +kernel
  rw [e] at this
  omega
def someS : List Str := ["0", "00", "4", "1000", "-", "A", "ab", "", "move", "ends", "-1", "+1", "a-", "0 0", "1 0"]
theorem someS_ok0 : (someS.all fun z => (tl z).all (fun c => decide (c < 128)) && (decide ((tl z).count 32 ≤ 1) && decide (z.length ≤ 4))) = true := by decide +kernel
theorem someS_ok : ∀ z ∈ someS, Low7 z ∧ (tl z).count 32 ≤ 1 ∧ z.length ≤ 4 := fun z hz => by
  have := List.all_eq_true.mp someS_ok0 z hz
  simp only [Bool.and_eq_true, decide_eq_true_eq, List.all_eq_true] at this
  exact ⟨this.1, this.2.1, this.2.2⟩
theorem signs8 : ∀ c ∈ tl ("01a -\nZ_" : Str), c < 128 := by decide +kernel

section
variable {P : Program} {w : World} {K : PySem.W.Frag} {mg : Str → Option Value} {base : Heap}
theorem ok_LBent {f : Addr} {fd : FuncData} {k : Nat} (F : Fun K "_law_bent" "_law_bent" sLBent f fd) (nlen : mg "len" = none) (nlist : mg "list" = none) (nint : mg "int" = none) (CLDraw : Cal P w K mg base k "_law_draw" ["_law_deck_here", "_law_below"] spDraw) (CLPick : Cal P w K mg base k "_law_pick" ["_law_deck_here", "_law_some_here"] (spPick K)) : FnOk P w K mg base CX0 (k + 1) f fd ["_law_deck_here", "_law_page"] spBent9 := by
  refine F.ok scLBent (fun vs H Q E h => ?_) (fun cdv A outer s H vs Q E hr h => ?_)
  · obtain ⟨a, q, m, L, S, t, rfl, _⟩ := h; rfl
  · obtain ⟨a, q, m, L, S, t, rfl, hD, hm, pg, hL, kQ⟩ := h
    have hu := hr.units
    refine ⟨_, (pss_cons (ps_par (i := 2) (j := 3) (by rfl) scLBent.nd rfl rfl (by decide) rfl rfl (pa_cons (pe_cal CLDraw hr (by rfl) pass0 (pa_cons (pv 0) (pa_cons pe_int pa_nil))) (pa_cons (pe_cal CLDraw hr (by rfl) pass0 (pa_cons (pv 0) (pa_cons (pe_op op_add (pe_callB (show CallR _ _ (rLenK K) from call_len) (by rfl) nlen (by decide +kernel) (pa_cons (pv 1) pa_nil)) pe_int) pa_nil))) pa_nil)) (by rfl))
      (pss_cons (ps_if (pt_cmpR op_lt (pv 2) pe_int (nomark _)) (pss_one (ps_ret (pe_op op_add_str (pe_op op_add_str (pe_slice sl_str (pv 1) po_none (po_some (pv 3))) (pe_cal CLPick hr (by rfl) pass0 (pa_cons (pv 0) (pa_cons (pe_callTy (call_listS rfl) (by rfl) nlist (by decide +kernel) (pa_cons pe_str pa_nil)) pa_nil)))) (pe_slice sl_str (pv 1) (po_some (pe_op op_add (pv 3) (pe_callTy call_int1 (by rfl) nint (by decide +kernel) (pa_cons (pe_cmpR op_gt (pv 2) pe_int (nomark _)) pa_nil)))) po_none)))) pss_nil)
      (pss_cons (ps_set (i := 4) scLBent.nd rfl (by first | exact Or.inl rfl | exact Or.inr rfl) (pe_split (pv 1) pe_str))
      (pss_cons (ps_set (i := 5) scLBent.nd rfl (by first | exact Or.inl rfl | exact Or.inr rfl) (pe_cal CLDraw hr (by rfl) pass0 (pa_cons (pv 0) (pa_cons (pe_callB (show CallR _ _ (rLenK K) from call_len) (by rfl) nlen (by decide +kernel) (pa_cons (pv 4) pa_nil)) pa_nil))))
      (pss_cons (ps_if (pt_cmpR op_eq (pv 2) pe_int (nomark _)) (pss_one (ps_ret (pe_join pe_str (pe_op op_cat (pe_slice sl_list (pv 4) po_none (po_some (pv 5))) (pe_slice sl_list (pv 4) (po_some (pe_op op_add (pv 5) pe_int)) po_none))))) pss_nil)
      (pss_cons (ps_if (pt_cmpR op_eq (pv 2) pe_int (nomark _)) (pss_one (ps_ret (pe_join pe_str (pe_op op_cat (pe_slice sl_list (pv 4) po_none (po_some (pe_op op_add (pv 5) pe_int))) (pe_slice sl_list (pv 4) (po_some (pv 5)) po_none))))) pss_nil)
      (pss_cons (ps_set (i := 6) scLBent.nd rfl (by first | exact Or.inl rfl | exact Or.inr rfl) (pe_split (pe_ix (show IxR _ (rIxL K) from ix_list) (pv 4) (pv 5) (fun _ _ => rfl)) pe_str))
      (pss_cons (ps_set (i := 7) scLBent.nd rfl (by first | exact Or.inl rfl | exact Or.inr rfl) (pe_cal CLDraw hr (by rfl) pass0 (pa_cons (pv 0) (pa_cons (pe_callB (show CallR _ _ (rLenK K) from call_len) (by rfl) nlen (by decide +kernel) (pa_cons (pv 6) pa_nil)) pa_nil))))
      (pss_cons (ps_set (i := 8) scLBent.nd rfl (by first | exact Or.inl rfl | exact Or.inr rfl) (pe_lst (pa_cons pe_str (pa_cons pe_str (pa_cons pe_str (pa_cons pe_str (pa_cons pe_str (pa_cons pe_str (pa_cons pe_str (pa_cons pe_str (pa_cons pe_str (pa_cons pe_str (pa_cons pe_str (pa_cons pe_str (pa_cons pe_str (pa_cons pe_str (pa_cons pe_str pa_nil)))))))))))))))))
      (pss_cut (ps_if (pt_cmpR op_eq (pv 2) pe_int (nomark _)) (pss_one (ps_set (i := 6) scLBent.nd rfl (by first | exact Or.inl rfl | exact Or.inr rfl) (pe_op op_cat (pe_op op_cat (pe_slice sl_list (pv 6) po_none (po_some (pv 7))) (pe_lst (pa_cons (pe_cal CLPick hr (by rfl) pass0 (pa_cons (pv 0) (pa_cons (pv 8) pa_nil))) pa_nil))) (pe_slice sl_list (pv 6) (po_some (pe_op op_add (pv 7) pe_int)) po_none)))) (pss_one (ps_if (pt_cmpR op_eq (pv 2) pe_int (nomark _)) (pss_one (ps_set (i := 6) scLBent.nd rfl (by first | exact Or.inl rfl | exact Or.inr rfl) (pe_op op_cat (pe_slice sl_list (pv 6) po_none (po_some (pv 7))) (pe_slice sl_list (pv 6) (po_some (pe_op op_add (pv 7) pe_int)) po_none)))) (pss_one (ps_set (i := 6) scLBent.nd rfl (by first | exact Or.inl rfl | exact Or.inr rfl) (pe_op op_cat (pv 6) (pe_lst (pa_cons (pe_cal CLPick hr (by rfl) pass0 (pa_cons (pv 0) (pa_cons (pv 8) pa_nil))) pa_nil))))))))
      (pss_one (ps_ret (pe_join pe_str (pe_op op_cat (pe_op op_cat (pe_slice sl_list (pv 4) po_none (po_some (pv 5))) (pe_lst (pa_cons (pe_join pe_str (pv 6)) pa_nil))) (pe_slice sl_list (pv 4) (po_some (pe_op op_add (pv 5) pe_int)) po_none))))))))))))))), ?_⟩
    have tl1 := pg.len
    have zs : sizeLine = 16777216 := by decide
    refine ⟨.ref a, rfl, a, q, m, 8, rfl, hD, by omega, by decide, by decide, fun w H1 w0 w1 o1 D1 => ⟨.ref a, rfl, .str t, rfl, _, _, rfl, ⟨len_sz (by omega), rfl⟩, _, _, rfl, rfl, a, q, m + 1, ((t.length : Nat) : Int) + 1, rfl, D1, by omega, by omega, by omega, fun i H2 i0 i1 o2 D2 => ⟨_, _, rfl, ?_⟩⟩⟩
    have oo := o1.trans o2
    obtain ⟨i, rfl⟩ := Int.eq_ofNat_of_zero_le i0
    refine ⟨_, rfl, _, _, rfl, rfl, _, rfl, ?_⟩
    by_cases w3 : w < 3
    · rw [decide_eq_true w3]
      refine iteT ⟨.str t, rfl, _, rfl, _, rfl, t, rfl, len_sz (by omega), ?_⟩
      refine ⟨.ref a, rfl, ("01a -\nZ_" : Str), rfl, by show (8 : Nat) ≤ sizeLine; decide, fun p np => ?_⟩
      have sp := same_upd (o := .lst ((tl ("01a -\nZ_" : Str)).map fun c => V.str ⟨#[c]⟩)) np
      have gp : upd H2 p (.lst ((tl ("01a -\nZ_" : Str)).map fun c => V.str ⟨#[c]⟩)) p = some (.lst ((tl ("01a -\nZ_" : Str)).map fun c => V.str ⟨#[c]⟩)) := upd_same
      change ∃ _, _
      generalize upd H2 p (.lst ((tl ("01a -\nZ_" : Str)).map fun c => V.str ⟨#[c]⟩)) = H3 at sp gp ⊢
      have D3 := D2.same sp
      refine ⟨a, q, m + 1 + 1, .ref p, rfl, D3, by omega, .inl ⟨p, _, rfl, sqOf (hid_new D2 np gp), ?_, ?_, fun jx x H4 hx o4 D4 => ?_⟩⟩
      · exact fun z => by have := congrArg List.length z; rw [List.length_map] at this; exact absurd this (by decide)
      · rw [List.length_map]; exact (by decide : (tl ("01a -
Z_" : Str)).length ≤ 1000000)
      obtain ⟨c, hc, rfl⟩ : ∃ c, (tl ("01a -
Z_" : Str))[jx]? = some c ∧ x = .str ⟨#[c]⟩ := by
        rw [List.getElem?_map] at hx
        obtain ⟨c, h1, h2⟩ := Option.map_eq_some_iff.mp hx
        exact ⟨c, h1, h2.symm⟩
      have c1 := cutS_tk t i
      have lc1 : (⟨((tl t).take i).toArray⟩ : Str).length ≤ t.length := by rw [len_tl, len_tl]; show ((tl t).take i).length ≤ _; rw [List.length_take]; omega
      have lx : (⟨#[c]⟩ : Str).length = 1 := rfl
      have fin : ∀ j : Nat, (⟨((tl t).drop j).toArray⟩ : Str).length ≤ t.length := fun j => by
        rw [len_tl, len_tl]; show ((tl t).drop j).length ≤ _; rw [List.length_drop]; omega
      have done : ∀ j : Nat, Q (.str (((cutS t none (some (i : Int))) ++ ⟨#[c]⟩) ++ cutS t (some (j : Int)) none)) H4 := fun j => by
        rw [c1, cutS_dp]
        exact kQ _ H4 (pg_sign pg (fun x hx => by rw [List.mem_singleton.mp hx]; exact signs8 c (List.mem_of_getElem? hc)) rfl i j) ((oo.trans (.of_same sp)).trans o4) (D4.mono (by omega))
      refine ⟨_, _, rfl, rfl, ?_, ?_⟩
      · rw [c1]; omega
      refine ⟨.str t, rfl, _, rfl, _, rfl, _, _, rfl, rfl, .inr ⟨_, rfl, ?_⟩⟩
      refine ⟨_, _, rfl, rfl, _, rfl, ?_⟩
      dsimp only [tNoPart]
      refine ⟨t, rfl, len_sz (by omega), _, _, rfl, rfl, ?_, ?_⟩
      · have l1 := cutS_length t (some ((i : Int) + if decide (0 < w) = true then 1 else 0)) none
        have l2 : (cutS t none (some (i : Int)) ++ (⟨#[c]⟩ : Str)).length ≤ t.length + 1 := by rw [c1, len_tl, tl_append, List.length_append, ← len_tl, ← len_tl]; omega
        omega
      · by_cases w0' : 0 < w
        · rw [decide_eq_true w0', if_pos rfl]
          exact done (i + 1)
        · rw [decide_eq_false w0', if_neg (by decide), Int.add_zero]
          exact done i
    rw [decide_eq_false w3]
    refine iteF ⟨.str t, rfl, ⟨t, rfl⟩, t, nlS, rfl, rfl, by decide +kernel, len_sz (by omega), fun p np => ?_⟩
    rw [show Txt.split t nlS = linesOf t from rfl]
    have sp := same_upd (o := .lst ((linesOf t).map V.str)) np
    have gp : upd H2 p (.lst ((linesOf t).map V.str)) p = some (.lst ((linesOf t).map V.str)) := upd_same
    generalize upd H2 p (.lst ((linesOf t).map V.str)) = H3 at sp gp ⊢
    have pn := D2.na np
    have D3 := D2.same sp
    have l1 : 1 ≤ (linesOf t).length := PyProof.Rows.split_pos t nlS
    have sl := PyProof.Rows.split_le t nlS
    have sl : (linesOf t).length ≤ t.length + 2 := sl
    refine ⟨.ref a, rfl, .ref p, rfl, .ref p, _, rfl, .inl ⟨_, sqOf gp, rfl⟩, a, q, m + 1 + 1, _, rfl, D3, by omega, by rw [List.length_map]; omega, by rw [List.length_map]; omega, fun j H4 j0 j1 o4 D4 => ?_⟩
    rw [List.length_map] at j1
    obtain ⟨j, rfl⟩ := Int.eq_ofNat_of_zero_le j0
    have gp := o4 _ _ pn.1 pn.2 gp
    have oo := (oo.trans (.of_same sp)).trans o4
    have wt1 := wt_split t 10
    rw [← lines_eq] at wt1
    refine ⟨_, rfl, rfl, _, rfl, ?_⟩
    by_cases c3 : w = 3
    · rw [decide_eq_true (by rw [c3])]
      refine iteT ⟨⟨_, rfl⟩, .ref p, rfl, _, rfl, _, rfl, p, _, rfl, sqOf gp, fun b1 nb1 => ?_⟩
      have sb1 := same_upd (o := .lst (cutV ((linesOf t).map V.str) none (some (j : Int)))) nb1
      have gb1 : upd H4 b1 (.lst (cutV ((linesOf t).map V.str) none (some (j : Int)))) b1 = some (.lst (((linesOf t).take (j)).map V.str)) := by rw [upd_same, cut_tk, List.map_take]
      have g1 := sb1 _ _ gp
      generalize upd H4 b1 (.lst (cutV ((linesOf t).map V.str) none (some (j : Int)))) = G1 at sb1 gb1 g1 ⊢
      refine ⟨.ref p, rfl, _, rfl, _, _, rfl, rfl, _, rfl, ?_⟩
      dsimp only [tNoPart]
      refine ⟨p, _, rfl, sqOf g1, fun c1 nc1 => ?_⟩
      have sc1 := same_upd (o := .lst (cutV ((linesOf t).map V.str) (some ((j : Int) + 1)) none)) nc1
      have gc1 : upd G1 c1 (.lst (cutV ((linesOf t).map V.str) (some ((j : Int) + 1)) none)) c1 = some (.lst (((linesOf t).drop (j + 1)).map V.str)) := by rw [upd_same, show ((j : Int) + 1) = ((j + 1 : Nat) : Int) from rfl, cut_dp, List.map_drop]
      have gb1 := sc1 _ _ gb1
      generalize upd G1 c1 (.lst (cutV ((linesOf t).map V.str) (some ((j : Int) + 1)) none)) = F1 at sc1 gc1 gb1 ⊢
      have sF1 := sb1.trans sc1
      refine ⟨b1, c1, _, _, rfl, rfl, gb1, gc1, ?_, fun d2 nd2 => ?_⟩
      · have e1 := wt_len ((linesOf t).take j)
        have e2 := wt_len ((linesOf t).drop (j + 1))
        have e3 := (Nat.add_le_add (wt_take (linesOf t) j) (wt_drop (linesOf t) (j + 1)))
        rw [List.length_map, List.length_map]
        omega
      have sd2 := same_upd (o := .lst (((linesOf t).take j).map V.str ++ ((linesOf t).drop (j + 1)).map V.str)) nd2
      have gd2 : upd F1 d2 (.lst (((linesOf t).take j).map V.str ++ ((linesOf t).drop (j + 1)).map V.str)) d2 = some (.lst (((linesOf t).take j ++ (linesOf t).drop (j + 1)).map V.str)) := by rw [upd_same]; simp only [List.map_append]
      generalize upd F1 d2 (.lst (((linesOf t).take j).map V.str ++ ((linesOf t).drop (j + 1)).map V.str)) = E2 at sd2 gd2 ⊢
      have e4 : wt ((linesOf t).take j ++ (linesOf t).drop (j + 1)) ≤ 2 * L + 10 := by
        rw [wt_app]
        have := wt_take (linesOf t) j
        have := wt_drop (linesOf t) (j + 1)
        omega
      refine join_at (by decide +kernel) gd2 (by omega) ?_
      refine kQ _ _ (pg_lines pg (fun x hx => ?_) e4) (oo.trans (.of_same (sF1.trans sd2))) (((D4.same sF1).same sd2).mono (by omega))
      have : x ∈ linesOf t := (List.mem_append.mp hx).elim List.mem_of_mem_take List.mem_of_mem_drop
      exact ⟨line_low pg x this, sp_up (line_sp pg x this) (by omega)⟩
    rw [decide_eq_false (fun z => c3 (V.int.inj z))]
    refine iteF ⟨_, rfl, rfl, _, rfl, ?_⟩
    by_cases c4 : w = 4
    · rw [decide_eq_true (by rw [c4])]
      refine iteT ⟨⟨_, rfl⟩, .ref p, rfl, _, rfl, _, _, rfl, rfl, _, rfl, p, _, rfl, sqOf gp, fun b3 nb3 => ?_⟩
      have sb3 := same_upd (o := .lst (cutV ((linesOf t).map V.str) none (some ((j : Int) + 1)))) nb3
      have gb3 : upd H4 b3 (.lst (cutV ((linesOf t).map V.str) none (some ((j : Int) + 1)))) b3 = some (.lst (((linesOf t).take (j + 1)).map V.str)) := by rw [upd_same, show ((j : Int) + 1) = ((j + 1 : Nat) : Int) from rfl, cut_tk, List.map_take]
      have g3 := sb3 _ _ gp
      skip
      generalize upd H4 b3 (.lst (cutV ((linesOf t).map V.str) none (some ((j : Int) + 1)))) = G3 at sb3 gb3 g3 ⊢
      refine ⟨.ref p, rfl, _, rfl, _, rfl, ?_⟩
      dsimp only [tNoPart]
      refine ⟨p, _, rfl, sqOf g3, fun c3 nc3 => ?_⟩
      have sc3 := same_upd (o := .lst (cutV ((linesOf t).map V.str) (some (j : Int)) none)) nc3
      have gc3 : upd G3 c3 (.lst (cutV ((linesOf t).map V.str) (some (j : Int)) none)) c3 = some (.lst (((linesOf t).drop (j)).map V.str)) := by rw [upd_same, cut_dp, List.map_drop]
      have gb3 := sc3 _ _ gb3
      generalize upd G3 c3 (.lst (cutV ((linesOf t).map V.str) (some (j : Int)) none)) = F3 at sc3 gc3 gb3 ⊢
      have sF3 := sb3.trans sc3
      refine ⟨b3, c3, _, _, rfl, rfl, gb3, gc3, ?_, fun d4 nd4 => ?_⟩
      · have e1 := wt_len ((linesOf t).take (j + 1))
        have e2 := wt_len ((linesOf t).drop j)
        have e3 := (Nat.add_le_add (wt_take (linesOf t) (j + 1)) (wt_drop (linesOf t) j))
        rw [List.length_map, List.length_map]
        omega
      have sd4 := same_upd (o := .lst (((linesOf t).take (j + 1)).map V.str ++ ((linesOf t).drop j).map V.str)) nd4
      have gd4 : upd F3 d4 (.lst (((linesOf t).take (j + 1)).map V.str ++ ((linesOf t).drop j).map V.str)) d4 = some (.lst (((linesOf t).take (j + 1) ++ (linesOf t).drop j).map V.str)) := by rw [upd_same]; simp only [List.map_append]
      generalize upd F3 d4 (.lst (((linesOf t).take (j + 1)).map V.str ++ ((linesOf t).drop j).map V.str)) = E4 at sd4 gd4 ⊢
      have e4 : wt ((linesOf t).take (j + 1) ++ (linesOf t).drop j) ≤ 2 * L + 10 := by
        rw [wt_app]
        have := wt_take (linesOf t) (j + 1)
        have := wt_drop (linesOf t) j
        omega
      refine join_at (by decide +kernel) gd4 (by omega) ?_
      refine kQ _ _ (pg_lines pg (fun x hx => ?_) e4) (oo.trans (.of_same (sF3.trans sd4))) (((D4.same sF3).same sd4).mono (by omega))
      have : x ∈ linesOf t := (List.mem_append.mp hx).elim List.mem_of_mem_take List.mem_of_mem_drop
      exact ⟨line_low pg x this, sp_up (line_sp pg x this) (by omega)⟩
    rw [decide_eq_false (fun z => c4 (V.int.inj z))]
    refine iteF ?_
    obtain ⟨l, hl⟩ : ∃ l, (linesOf t)[j]? = some l := ⟨_, List.getElem?_eq_getElem (by omega)⟩
    have ml := List.mem_of_getElem? hl
    have ll : l.length ≤ t.length := by rw [lines_eq] at ml; exact PyProof.Rows.part_short ml
    refine ⟨.ref p, rfl, _, rfl, p, _, _, .str l, rfl, rfl, sqOf gp, atI_nat (by rw [List.getElem?_map, hl]; rfl), ⟨_, rfl⟩, l, spS, rfl, rfl, by decide +kernel, len_sz (by omega), fun b nb => ?_⟩
    rw [show Txt.split l spS = wordsOf l from rfl]
    have sb := same_upd (o := .lst ((wordsOf l).map V.str)) nb
    have gb : upd H4 b (.lst ((wordsOf l).map V.str)) b = some (.lst ((wordsOf l).map V.str)) := upd_same
    have gp := sb _ _ gp
    have bn := D4.na nb
    have D5 := D4.same sb
    have oo := oo.trans (.of_same sb)
    have wl0 := wt_split l 32
    rw [← words_eq] at wl0
    have wl1 : 1 ≤ (wordsOf l).length := PyProof.Rows.split_pos l spS
    have wl2 := wt_len (wordsOf l)
    generalize upd H4 b (.lst ((wordsOf l).map V.str)) = H5 at gb gp D5 oo ⊢
    refine ⟨.ref a, rfl, .ref b, rfl, .ref b, _, rfl, .inl ⟨_, sqOf gb, rfl⟩, a, q, m + 1 + 1 + 1, _, rfl, D5, by omega, by rw [List.length_map]; omega, by rw [List.length_map]; omega, fun x H6 x0 x1 o6 D6 => ?_⟩
    obtain ⟨x, rfl⟩ := Int.eq_ofNat_of_zero_le x0
    have gp := o6 _ _ pn.1 pn.2 gp
    have gb := o6 _ _ bn.1 bn.2 gb
    have oo := oo.trans o6
    refine ⟨by show 15 ≤ sizeLine; decide, fun v nv => ?_⟩
    have sv := same_upd (o := .lst [.str "0", .str "00", .str "4", .str "1000", .str "-", .str "A", .str "ab", .str "", .str "move", .str "ends", .str "-1", .str "+1", .str "a-", .str "0 0", .str "1 0"]) nv
    have gv : upd H6 v (.lst [.str "0", .str "00", .str "4", .str "1000", .str "-", .str "A", .str "ab", .str "", .str "move", .str "ends", .str "-1", .str "+1", .str "a-", .str "0 0", .str "1 0"]) v = some (.lst (someS.map V.str)) := upd_same
    have gp := sv _ _ gp
    have gb := sv _ _ gb
    have vn := D6.na nv
    have D7 := D6.same sv
    have oo := oo.trans (.of_same sv)
    generalize upd H6 v (.lst [.str "0", .str "00", .str "4", .str "1000", .str "-", .str "A", .str "ab", .str "", .str "move", .str "ends", .str "-1", .str "+1", .str "a-", .str "0 0", .str "1 0"]) = H7 at gv gp gb D7 oo ⊢
    refine ⟨fun σ H' => ∃ (b' : Addr) (bs : List Str), σ = [some (.ref a), some (.str t), some (.int w), some (.int (i : Int)), some (.ref p), some (.int (j : Int)), some (.ref b'), some (.int (x : Int)), some (.ref v)] ∧ H' b' = some (.lst (bs.map V.str)) ∧ H' p = some (.lst ((linesOf t).map V.str)) ∧ Low7 (Txt.join (" " : Str) bs) ∧ Bsp (2 * S + 2) 0 (tl (Txt.join (" " : Str) bs)) ∧ wt bs ≤ l.length + 8 ∧ EL.Off a q H H' ∧ Dw a q (m + 5) H', ?_, ?_⟩
    · refine ⟨_, rfl, rfl, _, rfl, ?_⟩
      by_cases c5 : w = 5
      · rw [decide_eq_true (by rw [c5])]
        refine iteT ⟨.ref b, rfl, _, rfl, _, rfl, b, _, rfl, sqOf gb, fun b1 nb1 => ?_⟩
        have s_b1 := same_upd (o := .lst (cutV ((wordsOf l).map V.str) none (some (x : Int)))) nb1
        have g_b1 : upd H7 b1 (.lst (cutV ((wordsOf l).map V.str) none (some (x : Int)))) b1 = some (.lst (((wordsOf l).take x).map V.str)) := by rw [upd_same, cut_tk, List.map_take]
        have n_b1 := D7.na nb1
        have gv := s_b1 _ _ gv
        have gb := s_b1 _ _ gb
        have gp := s_b1 _ _ gp
        have D7 := D7.same s_b1
        have oo := oo.trans (.of_same s_b1)
        generalize upd H7 b1 (.lst (cutV ((wordsOf l).map V.str) none (some (x : Int)))) = G1 at g_b1 gv gb gp D7 oo ⊢
        refine ⟨.ref a, rfl, .ref v, rfl, a, q, m + 1 + 1 + 1 + 1, .ref v, rfl, D7, by omega, .inl ⟨v, someS.map V.str, rfl, sqOf (by rw [hid_ne vn.1 vn.2]; exact gv), ?_, ?_, fun jx y G2 hy o8 D8 => ?_⟩⟩
        · exact fun z => by have := congrArg List.length z; rw [List.length_map] at this; exact absurd this (by decide)
        · rw [List.length_map]; exact (by decide : someS.length ≤ 1000000)
        obtain ⟨z, hz, rfl⟩ : ∃ z, z ∈ someS ∧ y = .str z := by
          rw [List.getElem?_map] at hy
          obtain ⟨c, h1, h2⟩ := Option.map_eq_some_iff.mp hy
          exact ⟨c, List.mem_of_getElem? h1, h2.symm⟩
        obtain ⟨z1, z2, z3⟩ := someS_ok z hz
        have oo := oo.trans o8
        have D7 := D8
        have gb := o8 _ _ bn.1 bn.2 gb
        have gp := o8 _ _ pn.1 pn.2 gp
        have g_b1 := o8 _ _ n_b1.1 n_b1.2 g_b1
        refine ⟨by show 1 ≤ sizeLine; decide, fun l2 nl2 => ?_⟩
        have s_l2 := same_upd (o := .lst [.str z]) nl2
        have g_l2 : upd G2 l2 (.lst [.str z]) l2 = some (.lst (([z] : List Str).map V.str)) := upd_same
        have n_l2 := D7.na nl2
        have gb := s_l2 _ _ gb
        have gp := s_l2 _ _ gp
        have g_b1 := s_l2 _ _ g_b1
        have D7 := D7.same s_l2
        have oo := oo.trans (.of_same s_l2)
        generalize upd G2 l2 (.lst [.str z]) = G3 at g_l2 gb gp g_b1 D7 oo ⊢
        refine ⟨b1, l2, _, _, rfl, rfl, g_b1, g_l2, ?_, fun d1 nd1 => ?_⟩
        · have e1 := wt_len ((wordsOf l).take x)
          have e2 := wt_len ([z])
          have e3 := wt_take (wordsOf l) x
          have e4 : wt [z] = z.length + 1 := rfl
          rw [List.length_map, List.length_map]
          omega
        have s_d1 := same_upd (o := .lst (((wordsOf l).take x).map V.str ++ ([z]).map V.str)) nd1
        have g_d1 : upd G3 d1 (.lst (((wordsOf l).take x).map V.str ++ ([z]).map V.str)) d1 = some (.lst (((wordsOf l).take x ++ [z]).map V.str)) := by rw [upd_same]; simp only [List.map_append]
        have n_d1 := D7.na nd1
        have gb := s_d1 _ _ gb
        have gp := s_d1 _ _ gp
        have D7 := D7.same s_d1
        have oo := oo.trans (.of_same s_d1)
        generalize upd G3 d1 (.lst (((wordsOf l).take x).map V.str ++ ([z]).map V.str)) = G4 at g_d1 gb gp D7 oo ⊢
        refine ⟨.ref b, rfl, _, rfl, _, _, rfl, rfl, _, rfl, ?_⟩
        dsimp only [tNoPart]
        refine ⟨b, _, rfl, sqOf gb, fun c1 nc1 => ?_⟩
        have s_c1 := same_upd (o := .lst (cutV ((wordsOf l).map V.str) (some ((x : Int) + 1)) none)) nc1
        have g_c1 : upd G4 c1 (.lst (cutV ((wordsOf l).map V.str) (some ((x : Int) + 1)) none)) c1 = some (.lst (((wordsOf l).drop (x + 1)).map V.str)) := by rw [upd_same, show ((x : Int) + 1) = ((x + 1 : Nat) : Int) from rfl, cut_dp, List.map_drop]
        have n_c1 := D7.na nc1
        have gb := s_c1 _ _ gb
        have gp := s_c1 _ _ gp
        have g_d1 := s_c1 _ _ g_d1
        have D7 := D7.same s_c1
        have oo := oo.trans (.of_same s_c1)
        generalize upd G4 c1 (.lst (cutV ((wordsOf l).map V.str) (some ((x : Int) + 1)) none)) = G5 at g_c1 gb gp g_d1 D7 oo ⊢
        refine ⟨d1, c1, _, _, rfl, rfl, g_d1, g_c1, ?_, fun e1 ne1 => ?_⟩
        · have e1 := wt_len ((wordsOf l).take x ++ [z])
          have e2 := wt_len ((wordsOf l).drop (x + 1))
          rw [wt_app] at e1
          have e3 := wt_take (wordsOf l) x
          have e4 : wt [z] = z.length + 1 := rfl
          have e5 := wt_drop (wordsOf l) (x + 1)
          rw [List.length_map, List.length_map]
          omega
        have s_e1 := same_upd (o := .lst (((wordsOf l).take x ++ [z]).map V.str ++ ((wordsOf l).drop (x + 1)).map V.str)) ne1
        have g_e1 : upd G5 e1 (.lst (((wordsOf l).take x ++ [z]).map V.str ++ ((wordsOf l).drop (x + 1)).map V.str)) e1 = some (.lst (((wordsOf l).take x ++ [z] ++ (wordsOf l).drop (x + 1)).map V.str)) := by rw [upd_same]; simp only [List.map_append]
        have n_e1 := D7.na ne1
        have gp := s_e1 _ _ gp
        have D7 := D7.same s_e1
        have oo := oo.trans (.of_same s_e1)
        generalize upd G5 e1 (.lst (((wordsOf l).take x ++ [z]).map V.str ++ ((wordsOf l).drop (x + 1)).map V.str)) = G6 at g_e1 gp D7 oo ⊢
        obtain ⟨r1, r2⟩ := ln_bits pg ml (A := (wordsOf l).take x) (X := [z]) (C := (wordsOf l).drop (x + 1)) (fun c hc => List.mem_of_mem_take hc) (fun c hc => List.mem_of_mem_drop hc) (by rw [List.length_take, List.length_drop]; omega) (Nat.le_refl 1) (fun c hc => by rw [List.mem_singleton.mp hc]; exact ⟨z1, z2⟩)
        refine ⟨e1, _, rfl, g_e1, gp, r1, r2, ?_, oo, D7.mono (by omega)⟩
        rw [wt_app, wt_app]
        have e4 : wt [z] = z.length + 1 := rfl
        have e5 : wt ((wordsOf l).take x) + wt ((wordsOf l).drop (x + 1)) ≤ wt (wordsOf l) := by
          have h1 := wt_app ((wordsOf l).take x) ((wordsOf l).drop x)
          rw [List.take_append_drop] at h1
          have h2 : (wordsOf l).drop (x + 1) = ((wordsOf l).drop x).drop 1 := by rw [List.drop_drop]
          have h3 := wt_drop ((wordsOf l).drop x) 1
          rw [h2]; omega
        omega
      rw [decide_eq_false (fun z => c5 (V.int.inj z))]
      refine iteF ⟨_, rfl, rfl, _, rfl, ?_⟩
      by_cases c6 : w = 6
      · rw [decide_eq_true (by rw [c6])]
        refine iteT ⟨.ref b, rfl, _, rfl, _, rfl, b, _, rfl, sqOf gb, fun b2 nb2 => ?_⟩
        have s_b2 := same_upd (o := .lst (cutV ((wordsOf l).map V.str) none (some (x : Int)))) nb2
        have g_b2 : upd H7 b2 (.lst (cutV ((wordsOf l).map V.str) none (some (x : Int)))) b2 = some (.lst (((wordsOf l).take x).map V.str)) := by rw [upd_same, cut_tk, List.map_take]
        have n_b2 := D7.na nb2
        have gb := s_b2 _ _ gb
        have gp := s_b2 _ _ gp
        have D7 := D7.same s_b2
        have oo := oo.trans (.of_same s_b2)
        generalize upd H7 b2 (.lst (cutV ((wordsOf l).map V.str) none (some (x : Int)))) = G1 at g_b2 gb gp D7 oo ⊢
        refine ⟨.ref b, rfl, _, rfl, _, _, rfl, rfl, _, rfl, ?_⟩
        dsimp only [tNoPart]
        refine ⟨b, _, rfl, sqOf gb, fun c2 nc2 => ?_⟩
        have s_c2 := same_upd (o := .lst (cutV ((wordsOf l).map V.str) (some ((x : Int) + 1)) none)) nc2
        have g_c2 : upd G1 c2 (.lst (cutV ((wordsOf l).map V.str) (some ((x : Int) + 1)) none)) c2 = some (.lst (((wordsOf l).drop (x + 1)).map V.str)) := by rw [upd_same, show ((x : Int) + 1) = ((x + 1 : Nat) : Int) from rfl, cut_dp, List.map_drop]
        have n_c2 := D7.na nc2
        have gb := s_c2 _ _ gb
        have gp := s_c2 _ _ gp
        have g_b2 := s_c2 _ _ g_b2
        have D7 := D7.same s_c2
        have oo := oo.trans (.of_same s_c2)
        generalize upd G1 c2 (.lst (cutV ((wordsOf l).map V.str) (some ((x : Int) + 1)) none)) = G2 at g_c2 gb gp g_b2 D7 oo ⊢
        refine ⟨b2, c2, _, _, rfl, rfl, g_b2, g_c2, ?_, fun e2 ne2 => ?_⟩
        · have e1 := wt_len ((wordsOf l).take x)
          have e2 := wt_len ((wordsOf l).drop (x + 1))
          have e3 := wt_take (wordsOf l) x
          have e5 := wt_drop (wordsOf l) (x + 1)
          rw [List.length_map, List.length_map]
          omega
        have s_e2 := same_upd (o := .lst (((wordsOf l).take x).map V.str ++ ((wordsOf l).drop (x + 1)).map V.str)) ne2
        have g_e2 : upd G2 e2 (.lst (((wordsOf l).take x).map V.str ++ ((wordsOf l).drop (x + 1)).map V.str)) e2 = some (.lst (((wordsOf l).take x ++ (wordsOf l).drop (x + 1)).map V.str)) := by rw [upd_same]; simp only [List.map_append]
        have n_e2 := D7.na ne2
        have gp := s_e2 _ _ gp
        have D7 := D7.same s_e2
        have oo := oo.trans (.of_same s_e2)
        generalize upd G2 e2 (.lst (((wordsOf l).take x).map V.str ++ ((wordsOf l).drop (x + 1)).map V.str)) = G3 at g_e2 gp D7 oo ⊢
        obtain ⟨r1, r2⟩ := ln_bits pg ml (A := (wordsOf l).take x) (X := []) (C := (wordsOf l).drop (x + 1)) (fun c hc => List.mem_of_mem_take hc) (fun c hc => List.mem_of_mem_drop hc) (by rw [List.length_take, List.length_drop]; omega) (Nat.zero_le 1) (fun c hc => by cases hc)
        rw [List.append_nil] at r1 r2
        refine ⟨e2, _, rfl, g_e2, gp, r1, r2, ?_, oo, D7.mono (by omega)⟩
        rw [wt_app]
        have h1 := wt_app ((wordsOf l).take x) ((wordsOf l).drop x)
        rw [List.take_append_drop] at h1
        have h2 : (wordsOf l).drop (x + 1) = ((wordsOf l).drop x).drop 1 := by rw [List.drop_drop]
        have h3 := wt_drop ((wordsOf l).drop x) 1
        rw [h2]; omega
      · rw [decide_eq_false (fun z => c6 (V.int.inj z))]
        refine iteF ⟨.ref b, rfl, ?_⟩
        refine ⟨.ref a, rfl, .ref v, rfl, a, q, m + 1 + 1 + 1 + 1, .ref v, rfl, D7, by omega, .inl ⟨v, someS.map V.str, rfl, sqOf (by rw [hid_ne vn.1 vn.2]; exact gv), ?_, ?_, fun jx y G2 hy o8 D8 => ?_⟩⟩
        · exact fun z => by have := congrArg List.length z; rw [List.length_map] at this; exact absurd this (by decide)
        · rw [List.length_map]; exact (by decide : someS.length ≤ 1000000)
        obtain ⟨z, hz, rfl⟩ : ∃ z, z ∈ someS ∧ y = .str z := by
          rw [List.getElem?_map] at hy
          obtain ⟨c, h1, h2⟩ := Option.map_eq_some_iff.mp hy
          exact ⟨c, List.mem_of_getElem? h1, h2.symm⟩
        obtain ⟨z1, z2, z3⟩ := someS_ok z hz
        have oo := oo.trans o8
        have D7 := D8
        have gb := o8 _ _ bn.1 bn.2 gb
        have gp := o8 _ _ pn.1 pn.2 gp
        refine ⟨by show 1 ≤ sizeLine; decide, fun l3 nl3 => ?_⟩
        have s_l3 := same_upd (o := .lst [.str z]) nl3
        have g_l3 : upd G2 l3 (.lst [.str z]) l3 = some (.lst (([z] : List Str).map V.str)) := upd_same
        have n_l3 := D7.na nl3
        have gb := s_l3 _ _ gb
        have gp := s_l3 _ _ gp
        have D7 := D7.same s_l3
        have oo := oo.trans (.of_same s_l3)
        generalize upd G2 l3 (.lst [.str z]) = G3 at g_l3 gb gp D7 oo ⊢
        have g_b := gb
        refine ⟨b, l3, _, _, rfl, rfl, g_b, g_l3, ?_, fun e3 ne3 => ?_⟩
        · have e1 := wt_len ((wordsOf l))
          have e2 := wt_len ([z])
          have e4 : wt [z] = z.length + 1 := rfl
          rw [List.length_map, List.length_map]
          omega
        have s_e3 := same_upd (o := .lst (((wordsOf l)).map V.str ++ ([z]).map V.str)) ne3
        have g_e3 : upd G3 e3 (.lst (((wordsOf l)).map V.str ++ ([z]).map V.str)) e3 = some (.lst (((wordsOf l) ++ [z]).map V.str)) := by rw [upd_same]; simp only [List.map_append]
        have n_e3 := D7.na ne3
        have gp := s_e3 _ _ gp
        have D7 := D7.same s_e3
        have oo := oo.trans (.of_same s_e3)
        generalize upd G3 e3 (.lst (((wordsOf l)).map V.str ++ ([z]).map V.str)) = G4 at g_e3 gp D7 oo ⊢
        obtain ⟨r1, r2⟩ := ln_bits pg ml (A := (wordsOf l)) (X := [z]) (C := []) (fun c hc => hc) (fun c hc => by cases hc) (by show _ + 0 ≤ _; omega) (Nat.le_refl 1) (fun c hc => by rw [List.mem_singleton.mp hc]; exact ⟨z1, z2⟩)
        rw [List.append_nil] at r1 r2
        refine ⟨e3, _, rfl, g_e3, gp, r1, r2, ?_, oo, D7.mono (by omega)⟩
        rw [wt_app]
        have e4 : wt [z] = z.length + 1 := rfl
        omega
    rintro σ H8 ⟨b', bs, rfl, gb', gp, lo, bsp, wb, oo, D8⟩
    refine ⟨⟨_, rfl⟩, .ref p, rfl, _, rfl, _, rfl, p, _, rfl, sqOf gp, fun b1 nb1 => ?_⟩
    have s_b1 := same_upd (o := .lst (cutV ((linesOf t).map V.str) none (some (j : Int)))) nb1
    have g_b1 : upd H8 b1 (.lst (cutV ((linesOf t).map V.str) none (some (j : Int)))) b1 = some (.lst (((linesOf t).take j).map V.str)) := by rw [upd_same, cut_tk, List.map_take]
    have n_b1 := D8.na nb1
    have gp := s_b1 _ _ gp
    have gb' := s_b1 _ _ gb'
    have D8 := D8.same s_b1
    have oo := oo.trans (.of_same s_b1)
    generalize upd H8 b1 (.lst (cutV ((linesOf t).map V.str) none (some (j : Int)))) = G1 at g_b1 gp gb' D8 oo ⊢
    have e1 := wt_sum bs (z := (" " : Str)) (by decide +kernel)
    refine ⟨⟨_, rfl⟩, .ref b', rfl, ?_⟩
    refine ⟨(" " : Str), b', bs, rfl, rfl, .inl (sqOf gb'), by rw [e1]; omega, ?_⟩
    dsimp only [tNil]
    refine ⟨by show 1 ≤ sizeLine; decide, fun l2 nl2 => ?_⟩
    have s_l2 := same_upd (o := .lst [.str (Txt.join (" " : Str) bs)]) nl2
    have g_l2 : upd G1 l2 (.lst [.str (Txt.join (" " : Str) bs)]) l2 = some (.lst (([Txt.join (" " : Str) bs] : List Str).map V.str)) := upd_same
    have n_l2 := D8.na nl2
    have gp := s_l2 _ _ gp
    have g_b1 := s_l2 _ _ g_b1
    have D8 := D8.same s_l2
    have oo := oo.trans (.of_same s_l2)
    generalize upd G1 l2 (.lst [.str (Txt.join (" " : Str) bs)]) = G2 at g_l2 gp g_b1 D8 oo ⊢
    have lj := wt_join bs
    refine ⟨b1, l2, _, _, rfl, rfl, g_b1, g_l2, ?_, fun d1 nd1 => ?_⟩
    · have e1 := wt_len ((linesOf t).take j)
      have e2 := wt_len ([Txt.join (" " : Str) bs])
      have e3 := wt_take (linesOf t) j
      have e4 : wt [Txt.join (" " : Str) bs] = (Txt.join (" " : Str) bs).length + 1 := rfl
      rw [List.length_map, List.length_map]
      omega
    have s_d1 := same_upd (o := .lst (((linesOf t).take j).map V.str ++ ([Txt.join (" " : Str) bs]).map V.str)) nd1
    have g_d1 : upd G2 d1 (.lst (((linesOf t).take j).map V.str ++ ([Txt.join (" " : Str) bs]).map V.str)) d1 = some (.lst (((linesOf t).take j ++ [Txt.join (" " : Str) bs]).map V.str)) := by rw [upd_same]; simp only [List.map_append]
    have n_d1 := D8.na nd1
    have gp := s_d1 _ _ gp
    have D8 := D8.same s_d1
    have oo := oo.trans (.of_same s_d1)
    generalize upd G2 d1 (.lst (((linesOf t).take j).map V.str ++ ([Txt.join (" " : Str) bs]).map V.str)) = G3 at g_d1 gp D8 oo ⊢
    refine ⟨.ref p, rfl, _, rfl, _, _, rfl, rfl, _, rfl, ?_⟩
    dsimp only [tNoPart]
    refine ⟨p, _, rfl, sqOf gp, fun c1 nc1 => ?_⟩
    have s_c1 := same_upd (o := .lst (cutV ((linesOf t).map V.str) (some ((j : Int) + 1)) none)) nc1
    have g_c1 : upd G3 c1 (.lst (cutV ((linesOf t).map V.str) (some ((j : Int) + 1)) none)) c1 = some (.lst (((linesOf t).drop (j + 1)).map V.str)) := by rw [upd_same, show ((j : Int) + 1) = ((j + 1 : Nat) : Int) from rfl, cut_dp, List.map_drop]
    have n_c1 := D8.na nc1
    have g_d1 := s_c1 _ _ g_d1
    have D8 := D8.same s_c1
    have oo := oo.trans (.of_same s_c1)
    generalize upd G3 c1 (.lst (cutV ((linesOf t).map V.str) (some ((j : Int) + 1)) none)) = G4 at g_c1 g_d1 D8 oo ⊢
    refine ⟨d1, c1, _, _, rfl, rfl, g_d1, g_c1, ?_, fun e1 ne1 => ?_⟩
    · have e1 := wt_len ((linesOf t).take j ++ [Txt.join (" " : Str) bs])
      have e2 := wt_len ((linesOf t).drop (j + 1))
      rw [wt_app] at e1
      have e3 := wt_take (linesOf t) j
      have e4 : wt [Txt.join (" " : Str) bs] = (Txt.join (" " : Str) bs).length + 1 := rfl
      have e5 := wt_drop (linesOf t) (j + 1)
      rw [List.length_map, List.length_map]
      omega
    have s_e1 := same_upd (o := .lst (((linesOf t).take j ++ [Txt.join (" " : Str) bs]).map V.str ++ ((linesOf t).drop (j + 1)).map V.str)) ne1
    have g_e1 : upd G4 e1 (.lst (((linesOf t).take j ++ [Txt.join (" " : Str) bs]).map V.str ++ ((linesOf t).drop (j + 1)).map V.str)) e1 = some (.lst (((linesOf t).take j ++ [Txt.join (" " : Str) bs] ++ (linesOf t).drop (j + 1)).map V.str)) := by rw [upd_same]; simp only [List.map_append]
    have n_e1 := D8.na ne1
    have D8 := D8.same s_e1
    have oo := oo.trans (.of_same s_e1)
    generalize upd G4 e1 (.lst (((linesOf t).take j ++ [Txt.join (" " : Str) bs]).map V.str ++ ((linesOf t).drop (j + 1)).map V.str)) = G5 at g_e1  D8 oo ⊢
    have pl := pg_line pg hl lo bsp (by omega)
    refine join_at (by decide +kernel) g_e1 ?_ (kQ _ _ pl oo D8)
    rw [wt_app, wt_app]
    have e3 := wt_take (linesOf t) j
    have e4 : wt [Txt.join (" " : Str) bs] = (Txt.join (" " : Str) bs).length + 1 := rfl
    have e5 := wt_drop (linesOf t) (j + 1)
    omega
end
end KP
namespace KP
open PySem PySem.Spec PyProof.Rows L2 EL
open TL
/-! ### the pages of the law -/
theorem numS_short {n : Nat} (h : n < 1000) : (numS n).length ≤ 3 := numS_len n h
theorem wt_cons (a : Str) (r : List Str) : wt (a :: r) = (a.length + 1) + wt r := rfl
theorem wt_nums : ∀ ns : List Nat, (∀ n ∈ ns, n < 1000) → wt (ns.map numS) ≤ 4 * ns.length
  | [], _ => Nat.zero_le _
  | n :: r, h => by
    have ih := wt_nums r fun x hx => h x (List.mem_cons_of_mem _ hx)
    have := numS_short (h n List.mem_cons_self)
    rw [List.map_cons, wt_cons, List.length_cons]
    omega
theorem wt_lineW {hd : Str} {ns : List Nat} (h : ∀ n ∈ ns, n < 1000) : wt (lineW hd ns) ≤ hd.length + 3 + 4 * ns.length ∧ (lineW hd ns).length ≤ 2 + ns.length := by
  unfold lineW
  rw [wt_cons, List.length_cons]
  by_cases e : ns = []
  · rw [if_pos e]
    have : wt [("-" : Str)] = 2 := by decide +kernel
    rw [this]
    simp only [List.length_cons, List.length_nil]
    omega
  · rw [if_neg e]
    have := wt_nums ns h
    rw [List.length_map]
    omega
theorem pg_words {ws : List Str} {S : Nat} (h : ∀ w ∈ ws, Wd w) (hn : ws.length ≤ S + 1) : Low7 (Txt.join (" " : Str) ws) ∧ Bsp S 0 (tl (Txt.join (" " : Str) ws)) := by
  refine ⟨(join_ok h).2, ?_⟩
  rw [tl_joinS, tl_sp]
  refine cnt_sp ?_
  have := cnt_join ws
  rw [sum_zero fun p hp => (h p hp).no32] at this
  omega
theorem wt_joins : ∀ (ls : List (List Str)) (m : Nat), (∀ l ∈ ls, wt l ≤ m) → wt (ls.map (Txt.join (" " : Str))) ≤ (m + 1) * ls.length
  | [], _, _ => Nat.zero_le _
  | l :: r, m, h => by
    have ih := wt_joins r m fun x hx => h x (List.mem_cons_of_mem _ hx)
    have h0 := h l List.mem_cons_self
    have := wt_join l
    rw [List.map_cons, wt_cons, List.length_cons, Nat.mul_succ]
    omega
theorem pg_text {pl : Plan} (hO : pl.Ok 4 4 2) : PgOk 200 4 (textS pl) := by
  have hF := hO.fine (by decide) (by decide) (by decide)
  have e : textS pl = Txt.join nlS ((linesW pl).map (Txt.join (" " : Str))) := by
    rw [← linesS_eq]
  have li := asc_len hO.i
  have lo := asc_len hO.o
  have w4 := hO.w2
  have n4 := hO.n
  have small : ∀ {ns : List Nat}, Asc pl.wide ns → ∀ n ∈ ns, n < 1000 := fun h n hn => by have := h.2 n hn; omega
  have hwd := linesW_wd hF
  have each : ∀ l ∈ linesW pl, wt l ≤ 25 ∧ l.length ≤ 6 := fun l hl => by
    simp only [linesW, List.mem_cons, List.mem_map] at hl
    rcases hl with rfl | rfl | rfl | ⟨m, hm, rfl⟩
    · have := numS_short (n := pl.wide) (by omega)
      refine ⟨?_, (by decide : 2 ≤ 6)⟩
      rw [wt_cons, wt_cons]
      have e1 : ("pacer" : Str).length = 5 := by decide +kernel
      have e2 : wt ([] : List Str) = 0 := rfl
      omega
    · have := wt_lineW (hd := "begins") (small hO.i)
      have e1 : ("begins" : Str).length = 6 := by decide +kernel
      omega
    · have := wt_lineW (hd := "ends") (small hO.o)
      have e1 : ("ends" : Str).length = 4 := by decide +kernel
      omega
    · obtain ⟨h1, h2, h3, h4, _⟩ := hO.m m hm
      have := numS_short (n := m.s) (by omega)
      have := numS_short (n := m.t) (by omega)
      have a1 := wordS_len ⟨m.l.toArray⟩
      have a2 := wordS_len ⟨m.r.toArray⟩
      have b1 : (⟨m.l.toArray⟩ : Str).length = m.l.length := by rw [len_tl]
      have b2 : (⟨m.r.toArray⟩ : Str).length = m.r.length := by rw [len_tl]
      have e1 : ("move" : Str).length = 4 := by decide +kernel
      refine ⟨?_, (by decide : 5 ≤ 6)⟩
      unfold moveW
      rw [wt_cons, wt_cons, wt_cons, wt_cons, wt_cons]
      have e2 : wt ([] : List Str) = 0 := rfl
      omega
  rw [e]
  refine pg_lines (L := 0) (S := 0) (t := Str.empty) ⟨Nat.le_refl _, (fun c hc => (by cases hc)), Nat.le_refl _⟩ (fun p hp => ?_) ?_
  · obtain ⟨ws, hw, rfl⟩ := List.mem_map.mp hp
    have l5 : ws.length ≤ 5 := by
      simp only [linesW, List.mem_cons, List.mem_map] at hw
      rcases hw with rfl | rfl | rfl | ⟨m, hm, rfl⟩
      · exact (by decide : 2 ≤ 5)
      · have := (wt_lineW (hd := "begins") (small hO.i)).2
        unfold lineW
        by_cases e : pl.ins = []
        · rw [if_pos e]; exact (by decide : 2 ≤ 5)
        · rw [if_neg e, List.length_cons, List.length_map]; omega
      · unfold lineW
        by_cases e : pl.outs = []
        · rw [if_pos e]; exact (by decide : 2 ≤ 5)
        · rw [if_neg e, List.length_cons, List.length_map]; omega
      · exact Nat.le_refl _
    exact pg_words (hwd ws hw).1 (by omega)
  · have := wt_joins (linesW pl) 25 fun l hl => (each l hl).1
    have ll : (linesW pl).length ≤ 7 := by
      show (pl.ways.map moveW).length + 1 + 1 + 1 ≤ 7
      rw [List.length_map]; omega
    have : (25 + 1) * (linesW pl).length ≤ 26 * 7 := Nat.mul_le_mul_left 26 ll
    omega
/-- what is told of a value -/
structure Vok (d : PyData) : Prop where
  t : ∀ t, d = .str t → TextOk t ∧ Words63 t
  sh : Shw d
  lo : Low7 d.shown
  sn : d.shown.length ≤ 100000
theorem vok_text {t : Str} (h1 : TextOk t) (h2 : Words63 t) (h3 : t.length ≤ 1910) : Vok (.str t) := by
  have lw := h1.pg.2
  refine ⟨fun t' e => by cases e; exact ⟨h1, h2⟩, ⟨?_, .inl rfl, by show 0 ≤ 60; decide, ?_⟩, shown_low lw, ?_⟩
  · show (t.cps.toList.all fun c => decide (c < 128)) = true
    rw [List.all_eq_true]
    exact fun c hc => decide_eq_true (lw c hc)
  · show t.length ≤ 200000
    omega
  · have := shown_len lw
    omega
theorem vok_page {L S : Nat} {t : Str} (h : PgOk L S t) (hL : L ≤ 1900) (hS : S ≤ 62) : Vok (.str t) := by
  have := h.len
  exact vok_text ⟨⟨by omega, h.low⟩, .inl (by omega)⟩ (h.w63 hS) (by omega)
theorem vok_lit {t : Str} (h : ((tl t).all (fun c => decide (c < 128)) && decide ((tl t).length ≤ 60)) = true) : Vok (.str t) := by
  rw [Bool.and_eq_true, decide_eq_true_eq, List.all_eq_true] at h
  have hl := h.2
  exact vok_page (L := 60) (S := 60) ⟨by rw [len_tl]; exact hl, fun c hc => of_decide_eq_true (h.1 c hc), cnt_sp (by
    have := List.count_le_length (a := 32) (l := tl t)
    omega)⟩ (by decide) (by decide)
end KP
namespace KP
open PySem PySem.Spec PyProof.Rows L2 EL
open Evl (pss_cut)
open TL
/-! ### a text, so often: four thousand -/
def rRepM : R2 := fun x y H Q => ∃ z k, x = .str z ∧ y = .int k ∧ 2 ≤ k ∧ k ≤ 4000 ∧ z.length ≠ 0 ∧ z.length ≤ 1000 ∧ Q (.str ⟨(List.replicate k.toNat z.cps).foldl (· ++ ·) #[]⟩) H
theorem op_repM {X : Cx} : OpR X (binaryOp .Mult) rRepM := by
  intro pins s σ H x y v u Q I rx ry h
  obtain ⟨z, k, rfl, rfl, h1, h2, hz, hz2, q⟩ := h
  obtain ⟨t, rfl⟩ := rx
  obtain ⟨t', rfl⟩ := ry
  have c0 : (decide (k < -(2 ^ 63 : Int)) || decide (k ≥ 2 ^ 63)) = false := by
    rw [decide_eq_false (by omega), decide_eq_false (by omega)]; rfl
  have c1 : (k == 1 || z.length == 0) = false := by
    rw [Bool.or_eq_false_iff]
    exact ⟨by simpa using (by omega : k ≠ 1), by simpa using hz⟩
  have hm : z.length * k.toNat ≤ 1000 * 4000 := Nat.mul_le_mul hz2 (by omega)
  refine P.mul_str c0 (fun _ _ => ?_) (fun _ _ => ?_) ?_
  · have : (2 : Int) ^ 63 - 1 = 9223372036854775807 := by decide
    rw [this]
    have : (1000 : Int) * k ≤ 9223372036854775807 := by omega
    have := Int.le_ediv_of_mul_le (by omega : 0 < k) this
    omega
  · have : sizeLine = 16777216 := by decide
    exact decide_eq_false (by omega)
  · rw [if_neg (by omega), if_neg (by rw [c1]; exact Bool.false_ne_true)]
    refine ⟨?_, ⟨.str _, H, I.tok _, ⟨_, rfl⟩, q⟩⟩
    show (List.foldl (fun x1 x2 => x1 ++ x2) #[] (List.replicate k.toNat z.cps)).size ≤ sizeLine
    rw [fold_size]
    have h0 : (#[] : Array Nat).size = 0 := rfl
    have h3 : k.toNat * z.cps.size = z.length * k.toNat := Nat.mul_comm _ _
    rw [h0, h3]
    have : sizeLine = 16777216 := by decide
    omega
theorem fold_one (c : Nat) : ∀ (n : Nat) (acc : Array Nat), (List.foldl (fun x1 x2 => x1 ++ x2) acc (List.replicate n #[c])).toList = acc.toList ++ List.replicate n c
  | 0, acc => by simp
  | n + 1, acc => by
    rw [List.replicate_succ, List.foldl_cons, fold_one c n, List.replicate_succ]
    simp
/-- nine, nineteen hundred times -/
def repS : Str := ⟨(List.replicate 1900 57).toArray⟩
theorem rep_eq : (⟨(List.replicate (1900 : Int).toNat ("9" : Str).cps).foldl (· ++ ·) #[]⟩ : Str) = repS := by
  have e := fold_one 57 1900 #[]
  have e2 : ("9" : Str).cps = #[57] := by decide +kernel
  rw [e2]
  show (⟨List.foldl (fun x1 x2 => x1 ++ x2) #[] (List.replicate 1900 #[57])⟩ : Str) = _
  unfold repS
  exact congrArg (fun z => (⟨z⟩ : Str)) (Array.ext' (by rw [e]; rfl))
def longS : Str := ("pacer " : Str) ++ repS
theorem tl_inj9 {a b : Str} (h : tl a = tl b) : a = b := by
  cases a; cases b; exact congrArg (fun z => (⟨z⟩ : Str)) (Array.ext' h)
theorem tl_rep : tl repS = List.replicate 1900 57 := rfl
theorem tl_long : tl longS = tl ("pacer " : Str) ++ List.replicate 1900 57 := by unfold longS; rw [tl_append, tl_rep]
theorem mem_long {c : Nat} (h : c ∈ tl longS) : c = 57 ∨ c ∈ tl ("pacer " : Str) := by
  rw [tl_long] at h
  rcases List.mem_append.mp h with z | z
  · exact .inr z
  · exact .inl (List.eq_of_mem_replicate z)
theorem long_free : 10 ∉ tl longS := fun h => by
  rcases mem_long h with z | z
  · cases z
  · exact absurd z (by decide +kernel)
theorem long_lines : linesOf longS = [longS] := linesOf_join (ls := [longS]) (by simp) (fun w h => by rw [List.mem_singleton.mp h]; exact long_free)
theorem long_words : wordsOf longS = [("pacer" : Str), repS] := by
  have e : longS = Txt.join (" " : Str) [("pacer" : Str), repS] := by
    apply tl_inj9
    rw [tl_long, tl_joinS, tl_sp]
    show _ = tl ("pacer" : Str) ++ 32 :: tl repS
    rw [tl_rep, show tl ("pacer " : Str) = tl ("pacer" : Str) ++ [32] by decide +kernel]
    simp
  rw [e]
  refine wordsOf_join (by simp) fun w h => ?_
  rcases List.mem_cons.mp h with z | z
  · rw [z]; decide +kernel
  · rw [List.mem_singleton.mp z, tl_rep]
    exact fun q => by cases List.eq_of_mem_replicate q
theorem rep_len : repS.length = 1900 := by rw [len_tl, tl_rep, List.length_replicate]
theorem long_len : longS.length = 1906 := by
  have : (tl ("pacer " : Str)).length = 6 := by decide +kernel
  rw [len_tl, tl_long, List.length_append, List.length_replicate, this]
theorem long_out : outT longS = .inr 1 := by
  refine outL_bad0 ?_
  rw [sizeAt_bits (l := longS) (by rw [long_lines]; rfl), long_words]
  have : numOf repS = none := by
    unfold numOf
    exact if_neg fun z => absurd z.2.1 (by rw [rep_len]; decide)
  simp [this]
theorem long_ok : Vok (.str longS) := by
  have low : Low7 longS := fun c h => by
    rcases mem_long h with z | z
    · rw [z]; decide
    · exact (by decide +kernel : ∀ c ∈ tl ("pacer " : Str), c < 128) c z
  refine vok_text ⟨⟨by rw [long_len]; decide, low⟩, .inr ⟨1, long_out⟩⟩ (fun l hl => ?_) (by rw [long_len]; decide)
  rw [long_lines] at hl
  rw [List.mem_singleton.mp hl, long_words]
  decide
/-! ### what is asked of it -/
def vals1 : List PyData := [.none, .int 0, .bool true, .tuple [], .list [], .dict [], .list [.str "pacer 1"], .str "", .str "\n", .str "pacer", .str "pacer 1", .str "pacer 1\nbegins -", .str "pacer 01"]
def vals2 : List PyData := [.str "pacer 1\nends -\nbegins -", .str "pacer 1\nbegins -\nends -\n", .str "pacer 2\nbegins 1 0\nends -"]
def vals3 : List PyData := [.str "pacer 1000\nbegins -\nends -", .str "pacer 1\nbegins 0 0\nends -", .str "pacer 1\nbegins\nends -"]
def vals4 : List PyData := [.str longS, .str "pacer 0\nbegins -\nends -"]
def low7b (t : Str) : Bool := (tl t).all fun c => decide (c < 128)
theorem vok_oth {d : PyData} (h0 : ∀ t, d ≠ .str t) (h : (pln d && ((!d.hasDict || noL d) && (decide (d.depth ≤ 60) && (decide (d.bulk ≤ 200000) && (low7b d.shown && decide (d.shown.length ≤ 100000)))))) = true) : Vok d := by
  simp only [Bool.and_eq_true, Bool.or_eq_true, decide_eq_true_eq, Bool.not_eq_true', low7b, List.all_eq_true] at h
  obtain ⟨h1, h2, h3, h4, h5, h6⟩ := h
  exact ⟨fun t e => absurd e (h0 t), ⟨h1, h2, h3, h4⟩, fun c hc => h5 c hc, h6⟩
theorem ok_vals1 : ∀ d ∈ vals1, Vok d := fun d hd => by
  simp only [vals1, List.mem_cons, List.not_mem_nil, or_false] at hd
  rcases hd with rfl | rfl | rfl | rfl | rfl | rfl | rfl | rfl | rfl | rfl | rfl | rfl | rfl <;> first | exact vok_lit (by decide +kernel) | exact vok_oth (fun _ h => by cases h) (by decide +kernel)
theorem ok_vals2 : ∀ d ∈ vals2, Vok d := fun d hd => by
  simp only [vals2, List.mem_cons, List.not_mem_nil, or_false] at hd
  rcases hd with rfl | rfl | rfl <;> exact vok_lit (by decide +kernel)
theorem ok_vals3 : ∀ d ∈ vals3, Vok d := fun d hd => by
  simp only [vals3, List.mem_cons, List.not_mem_nil, or_false] at hd
  rcases hd with rfl | rfl | rfl <;> exact vok_lit (by decide +kernel)
theorem ok_vals4 : ∀ d ∈ vals4, Vok d := fun d hd => by
  simp only [vals4, List.mem_cons, List.not_mem_nil, or_false] at hd
  rcases hd with rfl | rfl
  · exact long_ok
  · exact vok_lit (by decide +kernel)
theorem ok_vals : ∀ d ∈ vals1 ++ vals2 ++ vals3 ++ vals4, Vok d := fun d hd => by
  rcases List.mem_append.mp hd with hd | hd
  · rcases List.mem_append.mp hd with hd | hd
    · rcases List.mem_append.mp hd with hd | hd
      · exact ok_vals1 d hd
      · exact ok_vals2 d hd
    · exact ok_vals3 d hd
  · exact ok_vals4 d hd
def Lf : Nat → Nat
  | 0 => 200
  | j + 1 => 2 * Lf j + 10
def Sf : Nat → Nat
  | 0 => 4
  | j + 1 => 2 * Sf j + 2
theorem lf_le : ∀ {j : Nat}, j < 3 → Lf j ≤ 900
  | 0, _ => by decide
  | 1, _ => by decide
  | 2, _ => by decide
  | _ + 3, h => by omega
theorem lf_le3 : ∀ {j : Nat}, j ≤ 3 → Lf j ≤ 1900 ∧ Sf j ≤ 62
  | 0, _ => by decide
  | 1, _ => by decide
  | 2, _ => by decide
  | 3, _ => by decide
  | _ + 4, h => by omega

end KP
namespace KP
open PySem PySem.Spec PyProof.Rows L2 EL
open Evl (pss_cut)
open TL
abbrev sLaw : Stmt := topS 52
theorem scLaw : FnScope ["_law_script", "_law_deck_here", "_law_go", "_law_page", "_law_turn", "_law_some_here", "_law_it"] ["_law_script"] (defScope sLaw) := ⟨rfl, rfl, rfl, by decide +kernel, rfl, by decide +kernel, by decide +kernel⟩
def spLaw (K : PySem.W.Frag) : Sp := fun vs H Q _ => ∃ (a : Addr) (ns : List Int), vs = [.ref a] ∧ SqL K H a (ns.map V.int) ∧ ns.length ≤ 63 ∧ ∀ H', Q (.bl true) H'

section
variable {P : Program} {w : World} {K : PySem.W.Frag} {mg : Str → Option Value} {base : Heap}
theorem ok_Law {f C : Addr} {fd : FuncData} {k : Nat} (F : Fun K "law" "law" sLaw f fd) (nrange : mg "range" = none) (nstr : mg "str" = none) (CLDeck : Cal P w K mg base k "_law_deck" ["_law_script"] (spDeck K)) (CLDraw : Cal P w K mg base k "_law_draw" ["_law_deck_here", "_law_below"] spDraw) (CLPlan : Cal P w K mg base k "_law_plan" ["_law_deck_here", "_law_top", "_law_many", "_law_long"] (spPlan K)) (CLCode : Cal P w K mg base k "_law_code" ["_law_w"] (spCode K C)) (CLBent : Cal P w K mg base k "_law_bent" ["_law_deck_here", "_law_page"] spBent9) (CLIsTold : CalG P w K mg base k "_law_is_told" ["_law_it"] (spTold9 K)) (ST : CalS P w K mg base k C (spStr K C)) : FnG P w K mg base (k + 3) f fd ["_law_script"] (spLaw K) := by
  refine FnG.body F scLaw (fun vs H Q E h => ?_) (fun cdv A outer s H vs Q E hg2 h => ?_)
  · obtain ⟨a, ns, rfl, _⟩ := h; rfl
  · obtain ⟨a, ns, rfl, hS, hlen, kQ⟩ := h
    have hg := hg2.mono (Nat.le_trans (Nat.le_succ k) (Nat.le_succ _))
    have hr := hg.r
    have hr2 := hg2.r
    have hu := hr.units
    refine ⟨_, (pss_cons (ps_set (i := 1) scLaw.nd rfl (by first | exact Or.inl rfl | exact Or.inr rfl) (pe_cal CLDeck hr (by rfl) pass0 (pa_cons (pv 0) pa_nil)))
      (pss_cons (ps_for PassesOwn.never rfl (pi_range1 rfl nrange (pa_cons pe_int pa_nil)) (pg_name (i := 2) scLaw.nd rfl (by first | exact Or.inl rfl | exact Or.inr rfl)) (pss_cons (ps_set (i := 3) scLaw.nd rfl (by first | exact Or.inl rfl | exact Or.inr rfl) (pe_callTy (call_strC ST hr2 pass0) (by rfl) nstr (by decide +kernel) (pa_cons (pe_cal CLCode hr (by rfl) pass0 (pa_cons (pe_cal CLPlan hr (by rfl) pass0 (pa_cons (pv 1) (pa_cons pe_int (pa_cons pe_int (pa_cons pe_int pa_nil))))) pa_nil)) pa_nil)))
      (pss_cons (ps_for PassesOwn.never rfl (pi_range1 rfl nrange (pa_cons (pe_op op_add pe_int (pe_cal CLDraw hr (by rfl) pass0 (pa_cons (pv 1) (pa_cons pe_int pa_nil)))) pa_nil)) (pg_name (i := 4) scLaw.nd rfl (by first | exact Or.inl rfl | exact Or.inr rfl)) (pss_one (ps_set (i := 3) scLaw.nd rfl (by first | exact Or.inl rfl | exact Or.inr rfl) (pe_cal CLBent hr (by rfl) pass0 (pa_cons (pv 1) (pa_cons (pv 3) pa_nil))))))
      (pss_one (ps_if (pt_not (pt_val (pe_calG CLIsTold hg (by rfl) pass0 (pa_cons (pv 3) pa_nil)))) (pss_one (ps_ret pe_bl)) pss_nil)))))
      (pss_cons (ps_set (i := 5) scLaw.nd rfl (by first | exact Or.inl rfl | exact Or.inr rfl) (pe_lst (kd_cons kd_non (kd_cons kd_int (kd_cons kd_bl (kd_cons (kd_tup kd_nil) (kd_cons (kd_lst kd_nil) (kd_cons kd_dic (kd_cons (kd_lst (kd_cons kd_str kd_nil)) (kd_cons kd_str (kd_cons kd_str (kd_cons kd_str (kd_cons kd_str (kd_cons kd_str (kd_cons kd_str kd_nil)))))))))))))))
      (pss_cons (ps_set (i := 5) scLaw.nd rfl (by first | exact Or.inl rfl | exact Or.inr rfl) (pe_op op_cat (pv 5) (pe_lst (kd_cons kd_str (kd_cons kd_str (kd_cons kd_str kd_nil))))))
      (pss_cons (ps_set (i := 5) scLaw.nd rfl (by first | exact Or.inl rfl | exact Or.inr rfl) (pe_op op_cat (pv 5) (pe_lst (kd_cons kd_str (kd_cons kd_str (kd_cons kd_str kd_nil))))))
      (pss_cons (ps_set (i := 5) scLaw.nd rfl (by first | exact Or.inl rfl | exact Or.inr rfl) (pe_op op_cat (pv 5) (pe_lst (pa_cons (pe_op op_add_str pe_str (pe_op op_repM pe_str pe_int)) (pa_cons pe_str pa_nil)))))
      (pss_one (ps_ret (pe_cmpR (op_eqN hr.units0) (pe_lc (own := [("_law_it", 6)]) (g := (gName 6)) (by rfl) scLaw.nd (pi_list (pv 5)) (blkOk_by (own := [("_law_it", 6)]) (N := ["_law_script", "_law_deck_here", "_law_go", "_law_page", "_law_turn", "_law_some_here", "_law_it"]) (sc := defScope sLaw) (by decide +kernel)) (fun _ _ _ _ _ => (pg_name (i := 6) scLaw.nd rfl (by first | exact Or.inl rfl | exact Or.inr rfl))) (fun _ _ _ _ _ => (pts_one (pt_not (pt_val (pe_calG CLIsTold hg (by rfl) pass0 (pa_cons (pv 6) pa_nil)))))) (fun _ _ _ _ _ => (pv 6))) (pe_lst pa_nil) (nomark _)))))))))), ?_⟩
    refine ⟨.ref a, rfl, a, ns, rfl, hS, hlen, fun p q H1 s1 D1 np nq => ?_⟩
    refine ⟨24, rfl, by decide, by decide, ?_⟩
    rw [show (24 : Int).toNat = 24 from rfl]
    refine for_it walk_range (fun i σ H' => ∃ (y2 y3 y4 : Option V), σ = [some (.ref a), some (.ref p), y2, y3, y4, none, none] ∧ Dw p q (30000 * i) H')
      ⟨none, none, none, rfl, D1⟩ (fun _ _ _ _ _ => trivial) ?_ ?_
    · rintro i v σ H9 H2 hi ⟨y2, y3, y4, rfl, D2⟩ ⟨rfl, rfl⟩
      have hi4 : i < 24 := hi
      refine ⟨.ref p, rfl, p, q, _, 4, 4, 2, rfl, D2, by omega, by decide, by decide, by decide, by decide, fun w pl H3 hO hP o3 D3 => ?_⟩
      have hF := hO.fine (by decide) (by decide) (by decide)
      refine ⟨w, pl, 4, 4, 2, rfl, hP.up (hid_sub (a := p) (q := q)), hO, by decide, by decide, by decide, fun it H4 s4 nit k4 => ?_⟩
      obtain ⟨dx, fs, i1, i2⟩ := k4.ins "x"
      refine ⟨it, dx, fs, rfl, i1, it, pl, rfl, k4, hF, fun H5 s5 => ?_⟩
      have D5 := (D3.same s4).same s5
      have pg := pg_text hO
      refine ⟨_, rfl, .ref p, rfl, p, q, _, 3, rfl, D5, by omega, by decide, by decide, fun u H6 u0 u1 o6 D6 => ⟨_, _, rfl, rfl, ?_⟩⟩
      obtain ⟨u, rfl⟩ := Int.eq_ofNat_of_zero_le u0
      have big : (2 : Int) ^ 62 = 4611686018427387904 := by decide
      refine ⟨(1 : Int) + (u : Int), rfl, by rw [big]; omega, by rw [big]; omega, ?_⟩
      rw [show ((1 : Int) + (u : Int)).toNat = 1 + u by omega]
      refine for_it walk_range (fun j σ H' => ∃ (y4 : Option V) (t : Str), σ = [some (.ref a), some (.ref p), some (.int (0 + (i : Int))), some (.str t), y4, none, none] ∧ PgOk (Lf j) (Sf j) t ∧ Dw p q (30000 * i + 20001 + 5 * j) H')
        ⟨y4, textS pl, rfl, pg, D6.mono (by omega)⟩ (fun _ _ _ _ _ => trivial) ?_ ?_
      · rintro j v σ Ha H7 hj ⟨y4, t, rfl, pgt, D7⟩ ⟨rfl, rfl⟩
        have hj3 : j < 3 := by omega
        refine ⟨.ref p, rfl, .str t, rfl, p, q, _, Lf j, Sf j, t, rfl, D7, by omega, pgt, lf_le hj3, fun t' H8 pg8 o8 D8 => ?_⟩
        exact ⟨_, _, rfl, pg8, D8.mono (by omega)⟩
      · rintro σ H7 ⟨y4, t, rfl, pgt, D7⟩
        have lf := lf_le3 (j := 1 + u) (by omega)
        have vk := vok_page pgt lf.1 lf.2
        refine ⟨.str t, rfl, .str t, _, rfl, .str t, vk.t, vk.sh, vk.lo, vk.sn, fun H8 s8 => ⟨_, rfl, ?_⟩⟩
        exact iteF ⟨_, _, _, rfl, (D7.same s8).mono (by omega)⟩
    · rintro σ H2 ⟨y2, y3, y4, rfl, D2⟩
      refine fun vs1 H3 s3 d3 => ⟨by rw [d3.len]; decide, fun l1 nl1 => ?_⟩
      have sl1 := same_upd (o := .lst vs1) nl1
      have gl1 : upd H3 l1 (.lst vs1) l1 = some (.lst vs1) := upd_same
      have d3 : DqAll K _ vs1 vals1 := d3.up sl1
      generalize upd H3 l1 (.lst vs1) = H4 at sl1 gl1 d3 ⊢
      refine ⟨.ref l1, rfl, fun vs2 H5 s5 d5 => ⟨by rw [d5.len]; decide, fun l2 nl2 => ?_⟩⟩
      have gl1 := s5 _ _ gl1
      have d3 := d3.up s5
      have sl2 := same_upd (o := .lst vs2) nl2
      have gl2 : upd H5 l2 (.lst vs2) l2 = some (.lst vs2) := upd_same
      have d5 : DqAll K _ vs2 vals2 := d5.up sl2
      have gl1 := sl2 _ _ gl1
      have d3 := d3.up sl2
      generalize upd H5 l2 (.lst vs2) = H6 at sl2 gl2 d5 gl1 d3 ⊢
      have n3 := d3.len
      have n5 := d5.len
      refine ⟨l1, l2, _, _, rfl, rfl, gl1, gl2, by rw [n3, n5]; decide, fun l3 nl3 => ?_⟩
      have sl3 := same_upd (o := .lst (vs1 ++ vs2)) nl3
      have gl3 : upd H6 l3 (.lst (vs1 ++ vs2)) l3 = some (.lst (vs1 ++ vs2)) := upd_same
      have d6 := (d3.app d5).up sl3
      generalize upd H6 l3 (.lst (vs1 ++ vs2)) = H7 at sl3 gl3 d6 ⊢
      refine ⟨.ref l3, rfl, fun vs3 H8 s8 d8 => ⟨by rw [d8.len]; decide, fun l4 nl4 => ?_⟩⟩
      have gl3 := s8 _ _ gl3
      have d6 := d6.up s8
      have sl4 := same_upd (o := .lst vs3) nl4
      have gl4 : upd H8 l4 (.lst vs3) l4 = some (.lst vs3) := upd_same
      have d8 : DqAll K _ vs3 vals3 := d8.up sl4
      have gl3 := sl4 _ _ gl3
      have d6 := d6.up sl4
      generalize upd H8 l4 (.lst vs3) = H9 at sl4 gl4 d8 gl3 d6 ⊢
      have n6 := d6.len
      have n8 := d8.len
      refine ⟨l3, l4, _, _, rfl, rfl, gl3, gl4, by rw [n6, n8]; decide, fun l5 nl5 => ?_⟩
      have sl5 := same_upd (o := .lst ((vs1 ++ vs2) ++ vs3)) nl5
      have gl5 : upd H9 l5 (.lst ((vs1 ++ vs2) ++ vs3)) l5 = some (.lst ((vs1 ++ vs2) ++ vs3)) := upd_same
      have d9 := (d6.app d8).up sl5
      generalize upd H9 l5 (.lst ((vs1 ++ vs2) ++ vs3)) = Ha at sl5 gl5 d9 ⊢
      refine ⟨.ref l5, rfl, ("9" : Str), 1900, rfl, rfl, by decide, by decide, by decide +kernel, by decide +kernel, ?_⟩
      rw [rep_eq]
      refine ⟨("pacer " : Str), repS, rfl, rfl, by rw [rep_len]; decide +kernel, ?_⟩
      rw [show ("pacer " : Str) ++ repS = longS from rfl]
      refine ⟨by decide, fun l6 nl6 => ?_⟩
      have sl6 := same_upd (o := .lst [.str longS, .str "pacer 0
begins -
ends -"]) nl6
      have gl6 : upd Ha l6 (.lst [.str longS, .str "pacer 0
begins -
ends -"]) l6 = some (.lst [.str longS, .str "pacer 0
begins -
ends -"]) := upd_same
      have gl5 := sl6 _ _ gl5
      have d9 := d9.up sl6
      generalize upd Ha l6 (.lst [.str longS, .str "pacer 0
begins -
ends -"]) = Hb at sl6 gl6 gl5 d9 ⊢
      have n9 := d9.len
      refine ⟨l5, l6, _, _, rfl, rfl, gl5, gl6, by rw [n9]; decide, fun l7 nl7 => ?_⟩
      have sl7 := same_upd (o := .lst (((vs1 ++ vs2) ++ vs3) ++ [.str longS, .str "pacer 0
begins -
ends -"])) nl7
      have gl7 : upd Hb l7 (.lst (((vs1 ++ vs2) ++ vs3) ++ [.str longS, .str "pacer 0
begins -
ends -"])) l7 = some (.lst (((vs1 ++ vs2) ++ vs3) ++ [.str longS, .str "pacer 0
begins -
ends -"])) := upd_same
      have d10 : DqAll K _ _ (vals1 ++ vals2 ++ vals3 ++ vals4) := (d9.app (.cons (.str _) (.cons (.str _) .nil))).up sl7
      generalize upd Hb l7 (.lst (((vs1 ++ vs2) ++ vs3) ++ [.str longS, .str "pacer 0
begins -
ends -"])) = Hc at sl7 gl7 d10 ⊢
      generalize ((vs1 ++ vs2) ++ vs3) ++ [V.str longS, V.str "pacer 0
begins -
ends -"] = xs at gl7 d10 ⊢
      have hv := ok_vals
      generalize vals1 ++ vals2 ++ vals3 ++ vals4 = ds at d10 hv
      refine ⟨.ref l7, rfl, l7, rfl, ⟨_, sqOf gl7⟩, fun D nD => ?_⟩
      refine lc_it walk_list (LcP D (fun _ H' => Same Hc H') (fun j v => v = none)) (LcP.start (same_upd nD)) (fun i H' _ z => by obtain ⟨_, _, _, _, sm⟩ := z; exact sqOf (sm _ _ gl7)) ?_ ?_
      · rintro j v He Hd hj ⟨ys, hl2, hR, hD, sm⟩ ⟨rfl, hx⟩
        obtain ⟨d, hd, dv⟩ := d10.at hx
        have vk := hv d (List.mem_of_getElem? hd)
        refine ⟨rfl, v, rfl, v, d, rfl, dv.up sm, vk.t, vk.sh, vk.lo, vk.sn, fun Hf sf => ⟨_, rfl, ?_⟩⟩
        exact iteF (lcp_none hl2 hR (sf _ _ hD) rfl fun b o q => sf _ _ (sm b o q))
      rintro Hd ⟨ys, hl2, hR, hD, sm⟩
      have ey := rows_map (f := fun _ : V => (none : Option V)) (l := xs) hl2 (fun j v e => by
        have hj : j < xs.length := by rw [← hl2]; exact (List.getElem?_eq_some_iff.mp e).1
        exact ⟨xs[j], List.getElem?_eq_getElem hj, hR j v e⟩)
      rw [ey, show (xs.map fun _ : V => (none : Option V)).filterMap id = [] by rw [List.filterMap_map]; simp [Function.comp_def]] at hD
      refine ⟨by show 0 ≤ sizeLine; decide, fun l8 nl8 => ?_⟩
      have s9 : Same Hd (upd Hd l8 (.lst [])) := same_upd nl8
      have g9 : upd Hd l8 (.lst []) l8 = some (.lst []) := upd_same
      generalize upd Hd l8 (.lst []) = He at s9 g9 ⊢
      refine ⟨D, l8, [], rfl, rfl, sqOf (s9 _ _ hD), sqOf g9, ?_⟩
      rw [decide_eq_true rfl]
      exact kQ He
end
end KP
namespace KP
open PySem PySem.Spec PyProof.Rows L2 EL
theorem gup {P : Program} {w : World} {K : PySem.W.Frag} {mg : Str → Option Value} {base : Heap} {j k : Nat} {f : Addr} {fd : FuncData} {ps : List Str} {sp : Sp} (F : FnG P w K mg base j f fd ps sp) (h : j ≤ k) : FnG P w K mg base k f fd ps sp := ⟨F.ln, fun hr => F.go (hr.mono h)⟩
theorem all_mk {l : PySem.W.OpenLaw} {w : World} {K : PySem.W.Frag} {h : Heap} {mg : Str → Option Value} {fa f0 f1 f2 f3 f4 f5 f6 f7 f8 f9 f10 f11 f12 f13 f14 f15 f16 f17 f18 f19 f20 f21 f22 f23 f24 f25 f26 f27 f28 f29 f30 f31 f32 f33 f34 f35 CPacer CBadText CLeadError : Addr} {tLETTERS tNOTHING tDIGITS tMOST_DIGITS tFIRST_MOVE_LINE : Tok} (X : K.In h) (G : h.Ns mainGlobals mg) (hfa : mg "law" = some (.ref fa))
    (aPacer : PySem.W.nsIn K mainGlobals "Pacer" = some (some (.ref CPacer)))
    {od0 an0 : Option Addr} {sl0 : Array (Option Value)} {oc0 kV0 dc0 pm0 cd0 ct0 : Value} (a0 : PySem.W.nsIn K mainGlobals "is_text" = some (some (.ref f0))) (l0 : K.lookup f0 = some ⟨oc0, od0, .func (PySem.W.fnOf "is_text" "is_text" (defArgs sIsText) (defBody sIsText) (defScope sIsText) .none kV0 dc0 pm0 an0 cd0 ct0), sl0⟩) (c0 : PySem.W.codeIn K cd0 "is_text" = true) (k0 : PySem.W.keepIn K (.ref f0) = true)
    {od1 an1 : Option Addr} {sl1 : Array (Option Value)} {oc1 kV1 dc1 pm1 cd1 ct1 : Value} (a1 : PySem.W.nsIn K mainGlobals "is_integer" = some (some (.ref f1))) (l1 : K.lookup f1 = some ⟨oc1, od1, .func (PySem.W.fnOf "is_integer" "is_integer" (defArgs sIsInteger) (defBody sIsInteger) (defScope sIsInteger) .none kV1 dc1 pm1 an1 cd1 ct1), sl1⟩) (c1 : PySem.W.codeIn K cd1 "is_integer" = true) (k1 : PySem.W.keepIn K (.ref f1) = true)
    {od2 an2 : Option Addr} {sl2 : Array (Option Value)} {oc2 kV2 dc2 pm2 cd2 ct2 : Value} (a2 : PySem.W.nsIn K mainGlobals "is_size" = some (some (.ref f2))) (l2 : K.lookup f2 = some ⟨oc2, od2, .func (PySem.W.fnOf "is_size" "is_size" (defArgs sIsSize) (defBody sIsSize) (defScope sIsSize) .none kV2 dc2 pm2 an2 cd2 ct2), sl2⟩) (c2 : PySem.W.codeIn K cd2 "is_size" = true) (k2 : PySem.W.keepIn K (.ref f2) = true)
    {od3 an3 : Option Addr} {sl3 : Array (Option Value)} {oc3 kV3 dc3 pm3 cd3 ct3 : Value} (a3 : PySem.W.nsIn K mainGlobals "is_state" = some (some (.ref f3))) (l3 : K.lookup f3 = some ⟨oc3, od3, .func (PySem.W.fnOf "is_state" "is_state" (defArgs sIsState) (defBody sIsState) (defScope sIsState) .none kV3 dc3 pm3 an3 cd3 ct3), sl3⟩) (c3 : PySem.W.codeIn K cd3 "is_state" = true) (k3 : PySem.W.keepIn K (.ref f3) = true)
    {od4 an4 : Option Addr} {sl4 : Array (Option Value)} {oc4 kV4 dc4 pm4 cd4 ct4 : Value} (a4 : PySem.W.nsIn K mainGlobals "is_tuple_of_states" = some (some (.ref f4))) (l4 : K.lookup f4 = some ⟨oc4, od4, .func (PySem.W.fnOf "is_tuple_of_states" "is_tuple_of_states" (defArgs sIsTupleOfStates) (defBody sIsTupleOfStates) (defScope sIsTupleOfStates) .none kV4 dc4 pm4 an4 cd4 ct4), sl4⟩) (c4 : PySem.W.codeIn K cd4 "is_tuple_of_states" = true) (k4 : PySem.W.keepIn K (.ref f4) = true)
    {od5 an5 : Option Addr} {sl5 : Array (Option Value)} {oc5 kV5 dc5 pm5 cd5 ct5 : Value} (a5 : PySem.W.nsIn K mainGlobals "is_move" = some (some (.ref f5))) (l5 : K.lookup f5 = some ⟨oc5, od5, .func (PySem.W.fnOf "is_move" "is_move" (defArgs sIsMove) (defBody sIsMove) (defScope sIsMove) .none kV5 dc5 pm5 an5 cd5 ct5), sl5⟩) (c5 : PySem.W.codeIn K cd5 "is_move" = true) (k5 : PySem.W.keepIn K (.ref f5) = true)
    {od6 an6 : Option Addr} {sl6 : Array (Option Value)} {oc6 kV6 dc6 pm6 cd6 ct6 : Value} (a6 : PySem.W.nsIn K mainGlobals "is_tuple_of_moves" = some (some (.ref f6))) (l6 : K.lookup f6 = some ⟨oc6, od6, .func (PySem.W.fnOf "is_tuple_of_moves" "is_tuple_of_moves" (defArgs sIsTupleOfMoves) (defBody sIsTupleOfMoves) (defScope sIsTupleOfMoves) .none kV6 dc6 pm6 an6 cd6 ct6), sl6⟩) (c6 : PySem.W.codeIn K cd6 "is_tuple_of_moves" = true) (k6 : PySem.W.keepIn K (.ref f6) = true)
    {od7 an7 : Option Addr} {sl7 : Array (Option Value)} {oc7 kV7 dc7 pm7 cd7 ct7 : Value} (a7 : PySem.W.findIn K (.ref CPacer) "__init__" = some (some (.ref f7))) (i7 : PySem.W.isFn K (.ref f7) = true) (l7 : K.lookup f7 = some ⟨oc7, od7, .func (PySem.W.fnOf "__init__" "Pacer.__init__" (defArgs sPacerInit) (defBody sPacerInit) (defScope sPacerInit) .none kV7 dc7 pm7 an7 cd7 ct7), sl7⟩) (c7 : PySem.W.codeIn K cd7 "Pacer.__init__" = true) (k7 : PySem.W.keepIn K (.ref f7) = true)
    {od8 an8 : Option Addr} {sl8 : Array (Option Value)} {oc8 kV8 dc8 pm8 cd8 ct8 : Value} (a8 : PySem.W.nsIn K mainGlobals "number_of" = some (some (.ref f8))) (l8 : K.lookup f8 = some ⟨oc8, od8, .func (PySem.W.fnOf "number_of" "number_of" (defArgs sNumberOf) (defBody sNumberOf) (defScope sNumberOf) .none kV8 dc8 pm8 an8 cd8 ct8), sl8⟩) (c8 : PySem.W.codeIn K cd8 "number_of" = true) (k8 : PySem.W.keepIn K (.ref f8) = true)
    {od9 an9 : Option Addr} {sl9 : Array (Option Value)} {oc9 kV9 dc9 pm9 cd9 ct9 : Value} (a9 : PySem.W.nsIn K mainGlobals "text_of" = some (some (.ref f9))) (l9 : K.lookup f9 = some ⟨oc9, od9, .func (PySem.W.fnOf "text_of" "text_of" (defArgs sTextOf) (defBody sTextOf) (defScope sTextOf) .none kV9 dc9 pm9 an9 cd9 ct9), sl9⟩) (c9 : PySem.W.codeIn K cd9 "text_of" = true) (k9 : PySem.W.keepIn K (.ref f9) = true)
    {od10 an10 : Option Addr} {sl10 : Array (Option Value)} {oc10 kV10 dc10 pm10 cd10 ct10 : Value} (a10 : PySem.W.nsIn K mainGlobals "word_of" = some (some (.ref f10))) (l10 : K.lookup f10 = some ⟨oc10, od10, .func (PySem.W.fnOf "word_of" "word_of" (defArgs sWordOf) (defBody sWordOf) (defScope sWordOf) .none kV10 dc10 pm10 an10 cd10 ct10), sl10⟩) (c10 : PySem.W.codeIn K cd10 "word_of" = true) (k10 : PySem.W.keepIn K (.ref f10) = true)
    {od11 an11 : Option Addr} {sl11 : Array (Option Value)} {oc11 kV11 dc11 pm11 cd11 ct11 : Value} (a11 : PySem.W.nsIn K mainGlobals "line_of" = some (some (.ref f11))) (l11 : K.lookup f11 = some ⟨oc11, od11, .func (PySem.W.fnOf "line_of" "line_of" (defArgs sLineOf) (defBody sLineOf) (defScope sLineOf) .none kV11 dc11 pm11 an11 cd11 ct11), sl11⟩) (c11 : PySem.W.codeIn K cd11 "line_of" = true) (k11 : PySem.W.keepIn K (.ref f11) = true)
    {od12 an12 : Option Addr} {sl12 : Array (Option Value)} {oc12 kV12 dc12 pm12 cd12 ct12 : Value} (a12 : PySem.W.nsIn K mainGlobals "text_lines" = some (some (.ref f12))) (l12 : K.lookup f12 = some ⟨oc12, od12, .func (PySem.W.fnOf "text_lines" "text_lines" (defArgs sTextLines) (defBody sTextLines) (defScope sTextLines) .none kV12 dc12 pm12 an12 cd12 ct12), sl12⟩) (c12 : PySem.W.codeIn K cd12 "text_lines" = true) (k12 : PySem.W.keepIn K (.ref f12) = true)
    {od13 an13 : Option Addr} {sl13 : Array (Option Value)} {oc13 kV13 dc13 pm13 cd13 ct13 : Value} (a13 : PySem.W.findIn K (.ref CPacer) "__str__" = some (some (.ref f13))) (i13 : PySem.W.isFn K (.ref f13) = true) (l13 : K.lookup f13 = some ⟨oc13, od13, .func (PySem.W.fnOf "__str__" "Pacer.__str__" (defArgs sPacerStr) (defBody sPacerStr) (defScope sPacerStr) .none kV13 dc13 pm13 an13 cd13 ct13), sl13⟩) (c13 : PySem.W.codeIn K cd13 "Pacer.__str__" = true) (k13 : PySem.W.keepIn K (.ref f13) = true)
    {od14 an14 : Option Addr} {sl14 : Array (Option Value)} {oc14 kV14 dc14 pm14 cd14 ct14 : Value} (a14 : PySem.W.nsIn K mainGlobals "lines_of" = some (some (.ref f14))) (l14 : K.lookup f14 = some ⟨oc14, od14, .func (PySem.W.fnOf "lines_of" "lines_of" (defArgs sLinesOf) (defBody sLinesOf) (defScope sLinesOf) .none kV14 dc14 pm14 an14 cd14 ct14), sl14⟩) (c14 : PySem.W.codeIn K cd14 "lines_of" = true) (k14 : PySem.W.keepIn K (.ref f14) = true)
    {od15 an15 : Option Addr} {sl15 : Array (Option Value)} {oc15 kV15 dc15 pm15 cd15 ct15 : Value} (a15 : PySem.W.nsIn K mainGlobals "words_at" = some (some (.ref f15))) (l15 : K.lookup f15 = some ⟨oc15, od15, .func (PySem.W.fnOf "words_at" "words_at" (defArgs sWordsAt) (defBody sWordsAt) (defScope sWordsAt) .none kV15 dc15 pm15 an15 cd15 ct15), sl15⟩) (c15 : PySem.W.codeIn K cd15 "words_at" = true) (k15 : PySem.W.keepIn K (.ref f15) = true)
    {od16 an16 : Option Addr} {sl16 : Array (Option Value)} {oc16 kV16 dc16 pm16 cd16 ct16 : Value} (a16 : PySem.W.nsIn K mainGlobals "size_at" = some (some (.ref f16))) (l16 : K.lookup f16 = some ⟨oc16, od16, .func (PySem.W.fnOf "size_at" "size_at" (defArgs sSizeAt) (defBody sSizeAt) (defScope sSizeAt) .none kV16 dc16 pm16 an16 cd16 ct16), sl16⟩) (c16 : PySem.W.codeIn K cd16 "size_at" = true) (k16 : PySem.W.keepIn K (.ref f16) = true)
    {od17 an17 : Option Addr} {sl17 : Array (Option Value)} {oc17 kV17 dc17 pm17 cd17 ct17 : Value} (a17 : PySem.W.nsIn K mainGlobals "states_at" = some (some (.ref f17))) (l17 : K.lookup f17 = some ⟨oc17, od17, .func (PySem.W.fnOf "states_at" "states_at" (defArgs sStatesAt) (defBody sStatesAt) (defScope sStatesAt) .none kV17 dc17 pm17 an17 cd17 ct17), sl17⟩) (c17 : PySem.W.codeIn K cd17 "states_at" = true) (k17 : PySem.W.keepIn K (.ref f17) = true)
    {od18 an18 : Option Addr} {sl18 : Array (Option Value)} {oc18 kV18 dc18 pm18 cd18 ct18 : Value} (a18 : PySem.W.nsIn K mainGlobals "move_at" = some (some (.ref f18))) (l18 : K.lookup f18 = some ⟨oc18, od18, .func (PySem.W.fnOf "move_at" "move_at" (defArgs sMoveAt) (defBody sMoveAt) (defScope sMoveAt) .none kV18 dc18 pm18 an18 cd18 ct18), sl18⟩) (c18 : PySem.W.codeIn K cd18 "move_at" = true) (k18 : PySem.W.keepIn K (.ref f18) = true)
    {od19 an19 : Option Addr} {sl19 : Array (Option Value)} {oc19 kV19 dc19 pm19 cd19 ct19 : Value} {pR19 : Addr} {rR19 : List Value} (a19 : PySem.W.findCls K (.ref CPacer) (.type "type") "read" = some (.get (.builtin "classmethod.__get__") (.ref pR19) .none (.ref CPacer))) (r19 : PySem.W.recIn K pR19 "classmethod" = some (.ref f19 :: rR19)) (i19 : PySem.W.fnIn K f19 = true) (rd19 : PySem.W.readsIn K CPacer (.type "type") = true) (ga19 : PySem.W.specialIn K (.ref CPacer) "__getattribute__" = some (some (.builtin "type.__getattribute__"))) (l19 : K.lookup f19 = some ⟨oc19, od19, .func (PySem.W.fnOf "read" "Pacer.read" (defArgs sPacerRead) (defBody sPacerRead) (defScope sPacerRead) .none kV19 dc19 pm19 an19 cd19 ct19), sl19⟩) (c19 : PySem.W.codeIn K cd19 "Pacer.read" = true) (k19 : PySem.W.keepIn K (.ref f19) = true)
    {od20 an20 : Option Addr} {sl20 : Array (Option Value)} {oc20 kV20 dc20 pm20 cd20 ct20 : Value} (a20 : PySem.W.nsIn K mainGlobals "_law_deck" = some (some (.ref f20))) (l20 : K.lookup f20 = some ⟨oc20, od20, .func (PySem.W.fnOf "_law_deck" "_law_deck" (defArgs sDeck) (defBody sDeck) (defScope sDeck) .none kV20 dc20 pm20 an20 cd20 ct20), sl20⟩) (c20 : PySem.W.codeIn K cd20 "_law_deck" = true) (k20 : PySem.W.keepIn K (.ref f20) = true)
    {od21 an21 : Option Addr} {sl21 : Array (Option Value)} {oc21 kV21 dc21 pm21 cd21 ct21 : Value} (a21 : PySem.W.nsIn K mainGlobals "_law_draw" = some (some (.ref f21))) (l21 : K.lookup f21 = some ⟨oc21, od21, .func (PySem.W.fnOf "_law_draw" "_law_draw" (defArgs sDraw) (defBody sDraw) (defScope sDraw) .none kV21 dc21 pm21 an21 cd21 ct21), sl21⟩) (c21 : PySem.W.codeIn K cd21 "_law_draw" = true) (k21 : PySem.W.keepIn K (.ref f21) = true)
    {od22 an22 : Option Addr} {sl22 : Array (Option Value)} {oc22 kV22 dc22 pm22 cd22 ct22 : Value} (a22 : PySem.W.nsIn K mainGlobals "_law_pick" = some (some (.ref f22))) (l22 : K.lookup f22 = some ⟨oc22, od22, .func (PySem.W.fnOf "_law_pick" "_law_pick" (defArgs sPick) (defBody sPick) (defScope sPick) .none kV22 dc22 pm22 an22 cd22 ct22), sl22⟩) (c22 : PySem.W.codeIn K cd22 "_law_pick" = true) (k22 : PySem.W.keepIn K (.ref f22) = true)
    {od23 an23 : Option Addr} {sl23 : Array (Option Value)} {oc23 kV23 dc23 pm23 cd23 ct23 : Value} (a23 : PySem.W.nsIn K mainGlobals "_law_word" = some (some (.ref f23))) (l23 : K.lookup f23 = some ⟨oc23, od23, .func (PySem.W.fnOf "_law_word" "_law_word" (defArgs sLWord) (defBody sLWord) (defScope sLWord) .none kV23 dc23 pm23 an23 cd23 ct23), sl23⟩) (c23 : PySem.W.codeIn K cd23 "_law_word" = true) (k23 : PySem.W.keepIn K (.ref f23) = true)
    {od24 an24 : Option Addr} {sl24 : Array (Option Value)} {oc24 kV24 dc24 pm24 cd24 ct24 : Value} (a24 : PySem.W.nsIn K mainGlobals "_law_plan" = some (some (.ref f24))) (l24 : K.lookup f24 = some ⟨oc24, od24, .func (PySem.W.fnOf "_law_plan" "_law_plan" (defArgs sLPlan) (defBody sLPlan) (defScope sLPlan) .none kV24 dc24 pm24 an24 cd24 ct24), sl24⟩) (c24 : PySem.W.codeIn K cd24 "_law_plan" = true) (k24 : PySem.W.keepIn K (.ref f24) = true)
    {od25 an25 : Option Addr} {sl25 : Array (Option Value)} {oc25 kV25 dc25 pm25 cd25 ct25 : Value} (a25 : PySem.W.nsIn K mainGlobals "_law_code" = some (some (.ref f25))) (l25 : K.lookup f25 = some ⟨oc25, od25, .func (PySem.W.fnOf "_law_code" "_law_code" (defArgs sLCode) (defBody sLCode) (defScope sLCode) .none kV25 dc25 pm25 an25 cd25 ct25), sl25⟩) (c25 : PySem.W.codeIn K cd25 "_law_code" = true) (k25 : PySem.W.keepIn K (.ref f25) = true)
    {od26 an26 : Option Addr} {sl26 : Array (Option Value)} {oc26 kV26 dc26 pm26 cd26 ct26 : Value} (a26 : PySem.W.nsIn K mainGlobals "_law_shown" = some (some (.ref f26))) (l26 : K.lookup f26 = some ⟨oc26, od26, .func (PySem.W.fnOf "_law_shown" "_law_shown" (defArgs sLShown) (defBody sLShown) (defScope sLShown) .none kV26 dc26 pm26 an26 cd26 ct26), sl26⟩) (c26 : PySem.W.codeIn K cd26 "_law_shown" = true) (k26 : PySem.W.keepIn K (.ref f26) = true)
    {od27 an27 : Option Addr} {sl27 : Array (Option Value)} {oc27 kV27 dc27 pm27 cd27 ct27 : Value} (a27 : PySem.W.nsIn K mainGlobals "_law_number" = some (some (.ref f27))) (l27 : K.lookup f27 = some ⟨oc27, od27, .func (PySem.W.fnOf "_law_number" "_law_number" (defArgs sLNumber) (defBody sLNumber) (defScope sLNumber) .none kV27 dc27 pm27 an27 cd27 ct27), sl27⟩) (c27 : PySem.W.codeIn K cd27 "_law_number" = true) (k27 : PySem.W.keepIn K (.ref f27) = true)
    {od28 an28 : Option Addr} {sl28 : Array (Option Value)} {oc28 kV28 dc28 pm28 cd28 ct28 : Value} (a28 : PySem.W.nsIn K mainGlobals "_law_some" = some (some (.ref f28))) (l28 : K.lookup f28 = some ⟨oc28, od28, .func (PySem.W.fnOf "_law_some" "_law_some" (defArgs sLSome) (defBody sLSome) (defScope sLSome) .none kV28 dc28 pm28 an28 cd28 ct28), sl28⟩) (c28 : PySem.W.codeIn K cd28 "_law_some" = true) (k28 : PySem.W.keepIn K (.ref f28) = true)
    {od29 an29 : Option Addr} {sl29 : Array (Option Value)} {oc29 kV29 dc29 pm29 cd29 ct29 : Value} (a29 : PySem.W.nsIn K mainGlobals "_law_word_told" = some (some (.ref f29))) (l29 : K.lookup f29 = some ⟨oc29, od29, .func (PySem.W.fnOf "_law_word_told" "_law_word_told" (defArgs sLWordTold) (defBody sLWordTold) (defScope sLWordTold) .none kV29 dc29 pm29 an29 cd29 ct29), sl29⟩) (c29 : PySem.W.codeIn K cd29 "_law_word_told" = true) (k29 : PySem.W.keepIn K (.ref f29) = true)
    {od30 an30 : Option Addr} {sl30 : Array (Option Value)} {oc30 kV30 dc30 pm30 cd30 ct30 : Value} (a30 : PySem.W.nsIn K mainGlobals "_law_way" = some (some (.ref f30))) (l30 : K.lookup f30 = some ⟨oc30, od30, .func (PySem.W.fnOf "_law_way" "_law_way" (defArgs sLWay) (defBody sLWay) (defScope sLWay) .none kV30 dc30 pm30 an30 cd30 ct30), sl30⟩) (c30 : PySem.W.codeIn K cd30 "_law_way" = true) (k30 : PySem.W.keepIn K (.ref f30) = true)
    {od31 an31 : Option Addr} {sl31 : Array (Option Value)} {oc31 kV31 dc31 pm31 cd31 ct31 : Value} (a31 : PySem.W.nsIn K mainGlobals "_law_due" = some (some (.ref f31))) (l31 : K.lookup f31 = some ⟨oc31, od31, .func (PySem.W.fnOf "_law_due" "_law_due" (defArgs sLDue) (defBody sLDue) (defScope sLDue) .none kV31 dc31 pm31 an31 cd31 ct31), sl31⟩) (c31 : PySem.W.codeIn K cd31 "_law_due" = true) (k31 : PySem.W.keepIn K (.ref f31) = true)
    {od32 an32 : Option Addr} {sl32 : Array (Option Value)} {oc32 kV32 dc32 pm32 cd32 ct32 : Value} (a32 : PySem.W.nsIn K mainGlobals "_law_heard" = some (some (.ref f32))) (l32 : K.lookup f32 = some ⟨oc32, od32, .func (PySem.W.fnOf "_law_heard" "_law_heard" (defArgs sLHeard) (defBody sLHeard) (defScope sLHeard) .none kV32 dc32 pm32 an32 cd32 ct32), sl32⟩) (c32 : PySem.W.codeIn K cd32 "_law_heard" = true) (k32 : PySem.W.keepIn K (.ref f32) = true)
    {od33 an33 : Option Addr} {sl33 : Array (Option Value)} {oc33 kV33 dc33 pm33 cd33 ct33 : Value} (a33 : PySem.W.nsIn K mainGlobals "_law_bent" = some (some (.ref f33))) (l33 : K.lookup f33 = some ⟨oc33, od33, .func (PySem.W.fnOf "_law_bent" "_law_bent" (defArgs sLBent) (defBody sLBent) (defScope sLBent) .none kV33 dc33 pm33 an33 cd33 ct33), sl33⟩) (c33 : PySem.W.codeIn K cd33 "_law_bent" = true) (k33 : PySem.W.keepIn K (.ref f33) = true)
    {od34 an34 : Option Addr} {sl34 : Array (Option Value)} {oc34 kV34 dc34 pm34 cd34 ct34 : Value} (a34 : PySem.W.nsIn K mainGlobals "_law_is_told" = some (some (.ref f34))) (l34 : K.lookup f34 = some ⟨oc34, od34, .func (PySem.W.fnOf "_law_is_told" "_law_is_told" (defArgs sLIsTold) (defBody sLIsTold) (defScope sLIsTold) .none kV34 dc34 pm34 an34 cd34 ct34), sl34⟩) (c34 : PySem.W.codeIn K cd34 "_law_is_told" = true) (k34 : PySem.W.keepIn K (.ref f34) = true)
    {od35 an35 : Option Addr} {sl35 : Array (Option Value)} {oc35 kV35 dc35 pm35 cd35 ct35 : Value} (a35 : PySem.W.nsIn K mainGlobals "law" = some (some (.ref f35))) (l35 : K.lookup f35 = some ⟨oc35, od35, .func (PySem.W.fnOf "law" "law" (defArgs sLaw) (defBody sLaw) (defScope sLaw) .none kV35 dc35 pm35 an35 cd35 ct35), sl35⟩) (c35 : PySem.W.codeIn K cd35 "law" = true) (k35 : PySem.W.keepIn K (.ref f35) = true)
    {nmBadText qnBadText : Str} {NBadText fIBadText : Addr} {bsBadText : List Value} {snBadText : List Str} {sbBadText : List Value} {abBadText : Bool} {colBadText : Option Bool} {ddBadText odIBadText anIBadText : Option Addr} {m0BadText m1BadText m2BadText m3BadText m5BadText : Option Value} {slIBadText : Array (Option Value)} {ocIBadText dcIBadText pmIBadText cdIBadText ctIBadText : Value} {p1BadText p2BadText q1BadText q2BadText q3BadText q4BadText : Pos}
    (aCBadText : PySem.W.nsIn K mainGlobals "BadText" = some (some (.ref CBadText)))
    (xLBadText : K.lookup CBadText = some (excClassObj nmBadText qnBadText CBadText NBadText bsBadText [.ref CLeadError, .type "Exception", .type "BaseException", .type "object"] true snBadText sbBadText abBadText colBadText ddBadText m0BadText m1BadText m2BadText m3BadText m5BadText "Exception.__new__"))
    (saBadText : PySem.W.findIn K (.ref CBadText) "__setattr__" = some (some (.builtin "object.__setattr__")))
    (gaBadText : PySem.W.findIn K (.ref CBadText) "__getattribute__" = some (some (.builtin "BaseException.__getattribute__")))
    (ggBadText : PySem.W.findIn K (.ref CBadText) "__getattr__" = some none)
    (nbBadText : PySem.W.findIn K (.ref CBadText) "line" = some none)
    (iNBadText : PySem.W.findIn K (.ref CBadText) "__init__" = some (some (.ref fIBadText)))
    (tIBadText : PySem.W.typeIn K (.ref fIBadText) = some (.type "function"))
    (lIBadText : K.lookup fIBadText = some ⟨ocIBadText, odIBadText, .func (PySem.W.fnOf "__init__" "BadText.__init__" (PySem.LowBadText.iA p1BadText p2BadText) (PySem.LowBadText.iB q1BadText q2BadText q3BadText q4BadText) PySem.LowBadText.iS .none .none dcIBadText pmIBadText anIBadText cdIBadText ctIBadText), slIBadText⟩)
    (cIBadText : PySem.W.codeIn K cdIBadText "BadText.__init__" = true)
    (kCBadText : PySem.W.keepIn K (.ref CBadText) = true)
    (eCBadText : PySem.W.subIn K (.ref CBadText) (.type "BaseException") = some true)
    (tCBadText : PySem.W.typeIn K (.ref CBadText) = some (.type "type"))
    (hCBadText : PySem.W.hasDictIn K CBadText = true)
    (iCBadText : PySem.W.isClsIn K CBadText = true)
    (sCBadText : PySem.W.subIn K (.ref CBadText) (.ref CBadText) = some true)
    (zMOST_DIGITS : PySem.W.nsIn K mainGlobals "MOST_DIGITS" = some (some (.int 3 tMOST_DIGITS)))
    (zFIRST_MOVE_LINE : PySem.W.nsIn K mainGlobals "FIRST_MOVE_LINE" = some (some (.int 3 tFIRST_MOVE_LINE)))
    (pg : PySem.W.plainGet K CPacer Str.empty = true)
    (hd : PySem.W.hasDictIn K CPacer = true)
    (po : PySem.W.plainOver K CPacer = true)
    (sa : PySem.W.findIn K (.ref CPacer) "__setattr__" = some (some (.builtin "object.__setattr__")))
    (mk : PySem.W.makesIn K CPacer = true)
    (kc : PySem.W.keepIn K (.ref CPacer) = true)
    (nS : PySem.W.findIn K (.ref CPacer) "size" = some none)
    (nB : PySem.W.findIn K (.ref CPacer) "begins" = some none)
    (nM : PySem.W.findIn K (.ref CPacer) "moves" = some none)
    (nE : PySem.W.findIn K (.ref CPacer) "ends" = some none)
    (aLE : PySem.W.nsIn K mainGlobals "LeadError" = some (some (.ref CLeadError)))
    (sLE : PySem.W.subIn K (.ref CBadText) (.ref CLeadError) = some true)
    (iLE : PySem.W.isClsIn K CLeadError = true)
    (tLE : PySem.W.typeIn K (.ref CLeadError) = some (.type "type"))
    (z_all : PySem.W.nsIn K mainGlobals "all" = some none)
    (z_isinstance : PySem.W.nsIn K mainGlobals "isinstance" = some none)
    (z_int : PySem.W.nsIn K mainGlobals "int" = some none)
    (z_bool : PySem.W.nsIn K mainGlobals "bool" = some none)
    (z_str : PySem.W.nsIn K mainGlobals "str" = some none)
    (z_tuple : PySem.W.nsIn K mainGlobals "tuple" = some none)
    (z_zip : PySem.W.nsIn K mainGlobals "zip" = some none)
    (z_len : PySem.W.nsIn K mainGlobals "len" = some none)
    (z_range : PySem.W.nsIn K mainGlobals "range" = some none)
    (z_list : PySem.W.nsIn K mainGlobals "list" = some none)
    (z_repr : PySem.W.nsIn K mainGlobals "repr" = some none)
    (z_sorted : PySem.W.nsIn K mainGlobals "sorted" = some none)
    (z_set : PySem.W.nsIn K mainGlobals "set" = some none)
    (z_enumerate : PySem.W.nsIn K mainGlobals "enumerate" = some none)
    (zLETTERS : PySem.W.nsIn K mainGlobals "LETTERS" = some (some (.str "abcdefghijklmnopqrstuvwxyz" tLETTERS)))
    (zNOTHING : PySem.W.nsIn K mainGlobals "NOTHING" = some (some (.str "-" tNOTHING)))
    (zDIGITS : PySem.W.nsIn K mainGlobals "DIGITS" = some (some (.str "0123456789" tDIGITS))) :
    ∃ fd : FuncData, (∀ (s : Shared) (v : Value), BindsTo s fd ⟨[v], []⟩ [("_law_script", v)]) ∧ ∀ base : Heap, K.In base → base.Ns mainGlobals mg → FnG l.prog w K mg base 12 fa fd ["_law_script"] (spLaw K) := by
  have e := hfa.symm.trans (PySem.W.mg_of X G a35)
  cases e
  have F0 := fun_mk (st := sIsText) l0 c0 k0
  have b0 := F0.binds (ps := ["thing"]) fun _ _ _ _ _ _ us hl => match us, hl with | [_], _ => rfl
  have F1 := fun_mk (st := sIsInteger) l1 c1 k1
  have b1 := F1.binds (ps := ["thing"]) fun _ _ _ _ _ _ us hl => match us, hl with | [_], _ => rfl
  have F2 := fun_mk (st := sIsSize) l2 c2 k2
  have b2 := F2.binds (ps := ["thing"]) fun _ _ _ _ _ _ us hl => match us, hl with | [_], _ => rfl
  have F3 := fun_mk (st := sIsState) l3 c3 k3
  have b3 := F3.binds (ps := ["thing", "size"]) fun _ _ _ _ _ _ us hl => match us, hl with | [_, _], _ => rfl
  have F4 := fun_mk (st := sIsTupleOfStates) l4 c4 k4
  have b4 := F4.binds (ps := ["thing", "size"]) fun _ _ _ _ _ _ us hl => match us, hl with | [_, _], _ => rfl
  have F5 := fun_mk (st := sIsMove) l5 c5 k5
  have b5 := F5.binds (ps := ["thing", "size"]) fun _ _ _ _ _ _ us hl => match us, hl with | [_, _], _ => rfl
  have F6 := fun_mk (st := sIsTupleOfMoves) l6 c6 k6
  have b6 := F6.binds (ps := ["thing", "size"]) fun _ _ _ _ _ _ us hl => match us, hl with | [_, _], _ => rfl
  have F7 := fun_mk (st := sPacerInit) l7 c7 k7
  have b7 := F7.binds (ps := ["self", "size", "begins", "moves", "ends"]) fun _ _ _ _ _ _ us hl => match us, hl with | [_, _, _, _, _], _ => rfl
  have F8 := fun_mk (st := sNumberOf) l8 c8 k8
  have b8 := F8.binds (ps := ["word"]) fun _ _ _ _ _ _ us hl => match us, hl with | [_], _ => rfl
  have F9 := fun_mk (st := sTextOf) l9 c9 k9
  have b9 := F9.binds (ps := ["word"]) fun _ _ _ _ _ _ us hl => match us, hl with | [_], _ => rfl
  have F10 := fun_mk (st := sWordOf) l10 c10 k10
  have b10 := F10.binds (ps := ["text"]) fun _ _ _ _ _ _ us hl => match us, hl with | [_], _ => rfl
  have F11 := fun_mk (st := sLineOf) l11 c11 k11
  have b11 := F11.binds (ps := ["head", "states"]) fun _ _ _ _ _ _ us hl => match us, hl with | [_, _], _ => rfl
  have F12 := fun_mk (st := sTextLines) l12 c12 k12
  have b12 := F12.binds (ps := ["pacer"]) fun _ _ _ _ _ _ us hl => match us, hl with | [_], _ => rfl
  have F13 := fun_mk (st := sPacerStr) l13 c13 k13
  have b13 := F13.binds (ps := ["self"]) fun _ _ _ _ _ _ us hl => match us, hl with | [_], _ => rfl
  have F14 := fun_mk (st := sLinesOf) l14 c14 k14
  have b14 := F14.binds (ps := ["text"]) fun _ _ _ _ _ _ us hl => match us, hl with | [_], _ => rfl
  have F15 := fun_mk (st := sWordsAt) l15 c15 k15
  have b15 := F15.binds (ps := ["lines", "at", "head"]) fun _ _ _ _ _ _ us hl => match us, hl with | [_, _, _], _ => rfl
  have F16 := fun_mk (st := sSizeAt) l16 c16 k16
  have b16 := F16.binds (ps := ["lines", "at", "head"]) fun _ _ _ _ _ _ us hl => match us, hl with | [_, _, _], _ => rfl
  have F17 := fun_mk (st := sStatesAt) l17 c17 k17
  have b17 := F17.binds (ps := ["lines", "at", "head", "size"]) fun _ _ _ _ _ _ us hl => match us, hl with | [_, _, _, _], _ => rfl
  have F18 := fun_mk (st := sMoveAt) l18 c18 k18
  have b18 := F18.binds (ps := ["lines", "at", "size"]) fun _ _ _ _ _ _ us hl => match us, hl with | [_, _, _], _ => rfl
  have F19 := fun_mk (st := sPacerRead) l19 c19 k19
  have b19 := F19.binds (ps := ["cls", "text"]) fun _ _ _ _ _ _ us hl => match us, hl with | [_, _], _ => rfl
  have F20 := fun_mk (st := sDeck) l20 c20 k20
  have b20 := F20.binds (ps := ["_law_script"]) fun _ _ _ _ _ _ us hl => match us, hl with | [_], _ => rfl
  have F21 := fun_mk (st := sDraw) l21 c21 k21
  have b21 := F21.binds (ps := ["_law_deck_here", "_law_below"]) fun _ _ _ _ _ _ us hl => match us, hl with | [_, _], _ => rfl
  have F22 := fun_mk (st := sPick) l22 c22 k22
  have b22 := F22.binds (ps := ["_law_deck_here", "_law_some_here"]) fun _ _ _ _ _ _ us hl => match us, hl with | [_, _], _ => rfl
  have F23 := fun_mk (st := sLWord) l23 c23 k23
  have b23 := F23.binds (ps := ["_law_deck_here", "_law_signs", "_law_top"]) fun _ _ _ _ _ _ us hl => match us, hl with | [_, _, _], _ => rfl
  have F24 := fun_mk (st := sLPlan) l24 c24 k24
  have b24 := F24.binds (ps := ["_law_deck_here", "_law_top", "_law_many", "_law_long"]) fun _ _ _ _ _ _ us hl => match us, hl with | [_, _, _, _], _ => rfl
  have F25 := fun_mk (st := sLCode) l25 c25 k25
  have b25 := F25.binds (ps := ["_law_w"]) fun _ _ _ _ _ _ us hl => match us, hl with | [_], _ => rfl
  have F26 := fun_mk (st := sLShown) l26 c26 k26
  have b26 := F26.binds (ps := ["_law_it"]) fun _ _ _ _ _ _ us hl => match us, hl with | [_], _ => rfl
  have F27 := fun_mk (st := sLNumber) l27 c27 k27
  have b27 := F27.binds (ps := ["_law_bit"]) fun _ _ _ _ _ _ us hl => match us, hl with | [_], _ => rfl
  have F28 := fun_mk (st := sLSome) l28 c28 k28
  have b28 := F28.binds (ps := ["_law_wide", "_law_bits"]) fun _ _ _ _ _ _ us hl => match us, hl with | [_, _], _ => rfl
  have F29 := fun_mk (st := sLWordTold) l29 c29 k29
  have b29 := F29.binds (ps := ["_law_bit"]) fun _ _ _ _ _ _ us hl => match us, hl with | [_], _ => rfl
  have F30 := fun_mk (st := sLWay) l30 c30 k30
  have b30 := F30.binds (ps := ["_law_wide", "_law_bits"]) fun _ _ _ _ _ _ us hl => match us, hl with | [_, _], _ => rfl
  have F31 := fun_mk (st := sLDue) l31 c31 k31
  have b31 := F31.binds (ps := ["_law_it"]) fun _ _ _ _ _ _ us hl => match us, hl with | [_], _ => rfl
  have F32 := fun_mk (st := sLHeard) l32 c32 k32
  have b32 := F32.binds (ps := ["_law_it", "_law_is_named"]) fun _ _ _ _ _ _ us hl => match us, hl with | [_, _], _ => rfl
  have F33 := fun_mk (st := sLBent) l33 c33 k33
  have b33 := F33.binds (ps := ["_law_deck_here", "_law_page"]) fun _ _ _ _ _ _ us hl => match us, hl with | [_, _], _ => rfl
  have F34 := fun_mk (st := sLIsTold) l34 c34 k34
  have b34 := F34.binds (ps := ["_law_it"]) fun _ _ _ _ _ _ us hl => match us, hl with | [_], _ => rfl
  have F35 := fun_mk (st := sLaw) l35 c35 k35
  have n_all := PySem.W.mg_none_of X G z_all
  have n_isinstance := PySem.W.mg_none_of X G z_isinstance
  have n_int := PySem.W.mg_none_of X G z_int
  have n_bool := PySem.W.mg_none_of X G z_bool
  have n_str := PySem.W.mg_none_of X G z_str
  have n_tuple := PySem.W.mg_none_of X G z_tuple
  have n_zip := PySem.W.mg_none_of X G z_zip
  have n_len := PySem.W.mg_none_of X G z_len
  have n_range := PySem.W.mg_none_of X G z_range
  have n_list := PySem.W.mg_none_of X G z_list
  have n_repr := PySem.W.mg_none_of X G z_repr
  have n_sorted := PySem.W.mg_none_of X G z_sorted
  have n_set := PySem.W.mg_none_of X G z_set
  have n_enumerate := PySem.W.mg_none_of X G z_enumerate
  have m_LETTERS : StrAt mg "LETTERS" "abcdefghijklmnopqrstuvwxyz" := ⟨tLETTERS, PySem.W.mg_of X G zLETTERS⟩
  have m_NOTHING : StrAt mg "NOTHING" "-" := ⟨tNOTHING, PySem.W.mg_of X G zNOTHING⟩
  have m_DIGITS : StrAt mg "DIGITS" "0123456789" := ⟨tDIGITS, PySem.W.mg_of X G zDIGITS⟩
  have g_Pacer := PySem.W.mg_of X G aPacer
  have m_MOST_DIGITS := PySem.W.mg_of X G zMOST_DIGITS
  have m_FIRST_MOVE_LINE := PySem.W.mg_of X G zFIRST_MOVE_LINE
  have TBadText : PySem.LowBadText.LowTxt K mg CBadText fIBadText := ⟨PySem.W.mg_of X G aCBadText, ⟨nmBadText, qnBadText, NBadText, bsBadText, _, snBadText, sbBadText, abBadText, colBadText, ddBadText, m0BadText, m1BadText, m2BadText, m3BadText, m5BadText, xLBadText, ⟨[CLeadError], rfl⟩⟩, saBadText, gaBadText, ggBadText, nbBadText, iNBadText, tIBadText, kCBadText, eCBadText, tCBadText, hCBadText, EL.exm_own eCBadText iCBadText tCBadText sCBadText, ⟨_, _, _, _, _, _, _, _, _, _, _, _, _, _, lIBadText, cIBadText⟩⟩
  have T : PTxt K CPacer := ⟨⟨pg, hd, po, sa⟩, nS, nB, nM, nE⟩
  have g_LE := PySem.W.mg_of X G aLE
  have kB : PySem.W.kitOne K (.ref CBadText) (.ref CLeadError) = some true := by
    unfold PySem.W.kitOne
    by_cases z : ((.ref CBadText : Value) == .ref CLeadError) = true
    · rw [if_pos z]
    · rw [if_neg z]
      unfold PySem.W.kitCls
      dsimp only
      rw [if_pos (by rw [tLE, show (PySem.W.clsIn K CLeadError).isSome = true from iLE]; simp)]
      exact sLE
  refine ⟨PySem.W.fnOf "law" "law" (defArgs sLaw) (defBody sLaw) (defScope sLaw) .none kV35 dc35 pm35 an35 cd35 ct35, fun s v => .of_eq rfl, fun base _ _ => ?_⟩
  have oIsText := ok_IsText (P := l.prog) (w := w) (base := base) (mg := mg) (k := 0)  F0 n_all n_isinstance n_str m_LETTERS
  have oIsInteger := ok_IsInteger (P := l.prog) (w := w) (base := base) (mg := mg) (k := 0)  F1 n_isinstance n_int n_bool
  have oIsSize := ok_IsSize (P := l.prog) (w := w) (base := base) (mg := mg) (k := 1)  F2 (⟨f1, _, FnOk.mono oIsInteger (by decide), PySem.W.mg_of X G a1, k1, b1⟩ : EL.Cal l.prog w K mg base 1 "is_integer" ["thing"] (spLook K isIntD))
  have oIsState := ok_IsState (P := l.prog) (w := w) (base := base) (mg := mg) (k := 1)  F3 (⟨f1, _, FnOk.mono oIsInteger (by decide), PySem.W.mg_of X G a1, k1, b1⟩ : EL.Cal l.prog w K mg base 1 "is_integer" ["thing"] (spLook K isIntD))
  have oIsTupleOfStates := ok_IsTupleOfStates (P := l.prog) (w := w) (base := base) (mg := mg) (k := 2)  F4 n_isinstance n_tuple n_all n_zip (⟨f3, _, FnOk.mono oIsState (by decide), PySem.W.mg_of X G a3, k3, b3⟩ : EL.Cal l.prog w K mg base 2 "is_state" ["thing", "size"] (spLookN K stateD))
  have oIsMove := ok_IsMove (P := l.prog) (w := w) (base := base) (mg := mg) (k := 2)  F5 n_isinstance n_tuple n_len (⟨f3, _, FnOk.mono oIsState (by decide), PySem.W.mg_of X G a3, k3, b3⟩ : EL.Cal l.prog w K mg base 2 "is_state" ["thing", "size"] (spLookN K stateD)) (⟨f0, _, FnOk.mono oIsText (by decide), PySem.W.mg_of X G a0, k0, b0⟩ : EL.Cal l.prog w K mg base 2 "is_text" ["thing"] (spLook K isTextD))
  have oIsTupleOfMoves := ok_IsTupleOfMoves (P := l.prog) (w := w) (base := base) (mg := mg) (k := 3)  F6 n_isinstance n_tuple n_all (⟨f5, _, FnOk.mono oIsMove (by decide), PySem.W.mg_of X G a5, k5, b5⟩ : EL.Cal l.prog w K mg base 3 "is_move" ["thing", "size"] (spLookN K moveD))
  have oInit := ok_PacerInit (P := l.prog) (w := w) (base := base) (mg := mg) (k := 4)  F7 T (⟨f2, _, FnOk.mono oIsSize (by decide), PySem.W.mg_of X G a2, k2, b2⟩ : EL.Cal l.prog w K mg base 4 "is_size" ["thing"] (spLook K sizeD)) (⟨f6, _, FnOk.mono oIsTupleOfMoves (by decide), PySem.W.mg_of X G a6, k6, b6⟩ : EL.Cal l.prog w K mg base 4 "is_tuple_of_moves" ["thing", "size"] (spLookN K movesD)) (⟨f4, _, FnOk.mono oIsTupleOfStates (by decide), PySem.W.mg_of X G a4, k4, b4⟩ : EL.Cal l.prog w K mg base 4 "is_tuple_of_states" ["thing", "size"] (spLookN K statesD))
  have oWordOf := ok_WordOf (P := l.prog) (w := w) (base := base) (mg := mg) (k := 0)  F10 m_NOTHING
  have oLineOf := ok_LineOf (P := l.prog) (w := w) (base := base) (mg := mg) (k := 1)  F11 n_str (⟨f10, _, FnOk.mono oWordOf (by decide), PySem.W.mg_of X G a10, k10, b10⟩ : EL.Cal l.prog w K mg base 1 "word_of" ["text"] spWordOf)
  have oTextLines := ok_TextLines (P := l.prog) (w := w) (base := base) (mg := mg) (k := 2)  F12 T (⟨f10, _, FnOk.mono oWordOf (by decide), PySem.W.mg_of X G a10, k10, b10⟩ : EL.Cal l.prog w K mg base 2 "word_of" ["text"] spWordOf) (⟨f11, _, FnOk.mono oLineOf (by decide), PySem.W.mg_of X G a11, k11, b11⟩ : EL.Cal l.prog w K mg base 2 "line_of" ["head", "states"] (spLineOf K))
  have oStr := ok_PacerStr (P := l.prog) (w := w) (base := base) (mg := mg) (k := 3)  F13 (⟨f12, _, FnOk.mono oTextLines (by decide), PySem.W.mg_of X G a12, k12, b12⟩ : EL.Cal l.prog w K mg base 3 "text_lines" ["pacer"] (spTextLines K CPacer))
  have oNumberOf := ok_NumberOf (P := l.prog) (w := w) (base := base) (mg := mg) (k := 0)  F8 n_len n_all n_int n_str m_MOST_DIGITS m_DIGITS
  have oTextOf := ok_TextOf (P := l.prog) (w := w) (base := base) (mg := mg) (k := 1)  F9 m_NOTHING (⟨f0, _, FnOk.mono oIsText (by decide), PySem.W.mg_of X G a0, k0, b0⟩ : EL.Cal l.prog w K mg base 1 "is_text" ["thing"] (spLook K isTextD))
  have oLinesOf := ok_LinesOf (P := l.prog) (w := w) (base := base) (mg := mg) (k := 0)  F14 n_isinstance n_str TBadText
  have oWordsAt := ok_WordsAt (P := l.prog) (w := w) (base := base) (mg := mg) (k := 0)  F15 n_len TBadText
  have oSizeAt := ok_SizeAt (P := l.prog) (w := w) (base := base) (mg := mg) (k := 2)  F16 n_len TBadText (⟨f15, _, FnOk.mono oWordsAt (by decide), PySem.W.mg_of X G a15, k15, b15⟩ : EL.CalX l.prog w K mg base 2 "words_at" ["lines", "at", "head"] (spWordsAt K CBadText)) (⟨f8, _, FnOk.mono oNumberOf (by decide), PySem.W.mg_of X G a8, k8, b8⟩ : EL.Cal l.prog w K mg base 2 "number_of" ["word"] spNum) (⟨f2, _, FnOk.mono oIsSize (by decide), PySem.W.mg_of X G a2, k2, b2⟩ : EL.Cal l.prog w K mg base 2 "is_size" ["thing"] (spLook K sizeD))
  have oStatesAt := ok_StatesAt (P := l.prog) (w := w) (base := base) (mg := mg) (k := 3)  F17 n_tuple m_NOTHING TBadText (⟨f15, _, FnOk.mono oWordsAt (by decide), PySem.W.mg_of X G a15, k15, b15⟩ : EL.CalX l.prog w K mg base 3 "words_at" ["lines", "at", "head"] (spWordsAt K CBadText)) (⟨f8, _, FnOk.mono oNumberOf (by decide), PySem.W.mg_of X G a8, k8, b8⟩ : EL.Cal l.prog w K mg base 3 "number_of" ["word"] spNum) (⟨f4, _, FnOk.mono oIsTupleOfStates (by decide), PySem.W.mg_of X G a4, k4, b4⟩ : EL.Cal l.prog w K mg base 3 "is_tuple_of_states" ["thing", "size"] (spLookN K statesD))
  have oMoveAt := ok_MoveAt (P := l.prog) (w := w) (base := base) (mg := mg) (k := 3)  F18 n_len TBadText (⟨f15, _, FnOk.mono oWordsAt (by decide), PySem.W.mg_of X G a15, k15, b15⟩ : EL.CalX l.prog w K mg base 3 "words_at" ["lines", "at", "head"] (spWordsAt K CBadText)) (⟨f8, _, FnOk.mono oNumberOf (by decide), PySem.W.mg_of X G a8, k8, b8⟩ : EL.Cal l.prog w K mg base 3 "number_of" ["word"] spNum) (⟨f9, _, FnOk.mono oTextOf (by decide), PySem.W.mg_of X G a9, k9, b9⟩ : EL.Cal l.prog w K mg base 3 "text_of" ["word"] spTxt) (⟨f5, _, FnOk.mono oIsMove (by decide), PySem.W.mg_of X G a5, k5, b5⟩ : EL.Cal l.prog w K mg base 3 "is_move" ["thing", "size"] (spLookN K moveD))
  have oRead := ok_PacerReadX (P := l.prog) (w := w) (base := base) (mg := mg) (k := 5)  F19 n_len n_range n_tuple m_FIRST_MOVE_LINE (⟨f14, _, FnOk.mono oLinesOf (by decide), PySem.W.mg_of X G a14, k14, b14⟩ : EL.CalX l.prog w K mg base 6 "lines_of" ["text"] (spLinesOf K CBadText)) (⟨f16, _, FnOk.mono oSizeAt (by decide), PySem.W.mg_of X G a16, k16, b16⟩ : EL.CalX l.prog w K mg base 6 "size_at" ["lines", "at", "head"] (spSizeAt K CBadText)) (⟨f17, _, FnOk.mono oStatesAt (by decide), PySem.W.mg_of X G a17, k17, b17⟩ : EL.CalX l.prog w K mg base 6 "states_at" ["lines", "at", "head", "size"] (spStatesAt K CBadText)) (⟨f18, _, FnOk.mono oMoveAt (by decide), PySem.W.mg_of X G a18, k18, b18⟩ : EL.CalX l.prog w K mg base 6 "move_at" ["lines", "at", "size"] (spMoveAt K CBadText)) (⟨f7, _, ⟨mk, a7, i7, kc⟩, FnOk.mono oInit (by decide), g_Pacer, b7⟩ : KP.CalC l.prog w K mg base 5 CPacer)
  have oLDeck := ok_deck (P := l.prog) (w := w) (base := base) (mg := mg) (k := 0)  F20 n_list n_int
  have oLDraw := ok_draw (P := l.prog) (w := w) (base := base) (mg := mg) (k := 0)  F21 n_int
  have oLPick := ok_pick (P := l.prog) (w := w) (base := base) (mg := mg) (k := 0)  F22 n_len (⟨f21, _, FnOk.mono oLDraw (by decide), PySem.W.mg_of X G a21, k21, b21⟩ : EL.Cal l.prog w K mg base 1 "_law_draw" ["_law_deck_here", "_law_below"] spDraw)
  have oLWord := ok_LWord (P := l.prog) (w := w) (base := base) (mg := mg) (k := 2)  F23 n_range (⟨f21, _, FnOk.mono oLDraw (by decide), PySem.W.mg_of X G a21, k21, b21⟩ : EL.Cal l.prog w K mg base 2 "_law_draw" ["_law_deck_here", "_law_below"] spDraw) (⟨f22, _, FnOk.mono oLPick (by decide), PySem.W.mg_of X G a22, k22, b22⟩ : EL.Cal l.prog w K mg base 2 "_law_pick" ["_law_deck_here", "_law_some_here"] (spPick K))
  have oLPlan := ok_LPlan (P := l.prog) (w := w) (base := base) (mg := mg) (k := 3)  F24 n_range n_tuple (⟨f21, _, FnOk.mono oLDraw (by decide), PySem.W.mg_of X G a21, k21, b21⟩ : EL.Cal l.prog w K mg base 3 "_law_draw" ["_law_deck_here", "_law_below"] spDraw) (⟨f23, _, FnOk.mono oLWord (by decide), PySem.W.mg_of X G a23, k23, b23⟩ : EL.Cal l.prog w K mg base 3 "_law_word" ["_law_deck_here", "_law_signs", "_law_top"] spWord)
  have oLCode := ok_LCode (P := l.prog) (w := w) (base := base) (mg := mg) (k := 5)  F25 n_tuple (⟨f7, _, ⟨mk, a7, i7, kc⟩, FnOk.mono oInit (by decide), g_Pacer, b7⟩ : KP.CalC l.prog w K mg base 5 CPacer)
  have oLShown := ok_LShown (P := l.prog) (w := w) (base := base) (mg := mg) (k := 0)  F26 T
  have oLNumber := ok_LNumber (P := l.prog) (w := w) (base := base) (mg := mg) (k := 0)  F27 n_len n_int
  have oLSome := ok_LSome (P := l.prog) (w := w) (base := base) (mg := mg) (k := 1)  F28 n_sorted n_set (⟨f27, _, FnOk.mono oLNumber (by decide), PySem.W.mg_of X G a27, k27, b27⟩ : EL.Cal l.prog w K mg base 1 "_law_number" ["_law_bit"] spNumL)
  have oLWordTold := ok_LWordTold (P := l.prog) (w := w) (base := base) (mg := mg) (k := 0)  F29 
  have oLWay := ok_LWay (P := l.prog) (w := w) (base := base) (mg := mg) (k := 1)  F30 n_len (⟨f27, _, FnOk.mono oLNumber (by decide), PySem.W.mg_of X G a27, k27, b27⟩ : EL.Cal l.prog w K mg base 1 "_law_number" ["_law_bit"] spNumL) (⟨f29, _, FnOk.mono oLWordTold (by decide), PySem.W.mg_of X G a29, k29, b29⟩ : EL.Cal l.prog w K mg base 1 "_law_word_told" ["_law_bit"] spWordL)
  have oLDue := ok_LDue (P := l.prog) (w := w) (base := base) (mg := mg) (k := 2)  F31 n_isinstance n_str n_len n_tuple n_enumerate (⟨f27, _, FnOk.mono oLNumber (by decide), PySem.W.mg_of X G a27, k27, b27⟩ : EL.Cal l.prog w K mg base 2 "_law_number" ["_law_bit"] spNumL) (⟨f28, _, FnOk.mono oLSome (by decide), PySem.W.mg_of X G a28, k28, b28⟩ : EL.Cal l.prog w K mg base 2 "_law_some" ["_law_wide", "_law_bits"] (spSomeL K)) (⟨f30, _, FnOk.mono oLWay (by decide), PySem.W.mg_of X G a30, k30, b30⟩ : EL.Cal l.prog w K mg base 2 "_law_way" ["_law_wide", "_law_bits"] (spWayL K))
  have oLHeard := ok_LHeard (P := l.prog) (w := w) (base := base) (mg := mg) (k := 7)  F32 n_isinstance TBadText g_LE kB (⟨f7, _, ⟨mk, a7, i7, kc⟩, FnOk.mono oInit (by decide), g_Pacer, b7⟩ : KP.CalC l.prog w K mg base 7 CPacer) (⟨_, _, f19, _, ⟨rd19, ga19⟩, ⟨a19, ⟨_, r19⟩, i19⟩, FnOk.mono oRead (by decide), b19, EL.Fun.kwM1 F19 fun _ _ _ _ _ _ _ _ => rfl⟩ : EL.CalR l.prog w K mg base 7 CPacer "read" ["cls", "text"] ["text"] (spReadX K CPacer CBadText)) (⟨f26, _, FnOk.mono oLShown (by decide), PySem.W.mg_of X G a26, k26, b26⟩ : EL.Cal l.prog w K mg base 7 "_law_shown" ["_law_it"] (spShown K CPacer))
  have oLBent := ok_LBent (P := l.prog) (w := w) (base := base) (mg := mg) (k := 2)  F33 n_len n_list n_int (⟨f21, _, FnOk.mono oLDraw (by decide), PySem.W.mg_of X G a21, k21, b21⟩ : EL.Cal l.prog w K mg base 2 "_law_draw" ["_law_deck_here", "_law_below"] spDraw) (⟨f22, _, FnOk.mono oLPick (by decide), PySem.W.mg_of X G a22, k22, b22⟩ : EL.Cal l.prog w K mg base 2 "_law_pick" ["_law_deck_here", "_law_some_here"] (spPick K))
  have oLIsTold := ok_LIsTold (P := l.prog) (w := w) (base := base) (mg := mg) (k := 8)  F34 n_repr (⟨f31, _, FnOk.mono oLDue (by decide), PySem.W.mg_of X G a31, k31, b31⟩ : EL.Cal l.prog w K mg base 8 "_law_due" ["_law_it"] (spDue K)) (⟨f32, _, FnOk.mono oLHeard (by decide), PySem.W.mg_of X G a32, k32, b32⟩ : EL.Cal l.prog w K mg base 8 "_law_heard" ["_law_it", "_law_is_named"] (spHeard K))
  exact ok_Law (P := l.prog) (w := w) (base := base) (mg := mg) (k := 9)  F35 n_range n_str (⟨f20, _, FnOk.mono oLDeck (by decide), PySem.W.mg_of X G a20, k20, b20⟩ : EL.Cal l.prog w K mg base 9 "_law_deck" ["_law_script"] (spDeck K)) (⟨f21, _, FnOk.mono oLDraw (by decide), PySem.W.mg_of X G a21, k21, b21⟩ : EL.Cal l.prog w K mg base 9 "_law_draw" ["_law_deck_here", "_law_below"] spDraw) (⟨f24, _, FnOk.mono oLPlan (by decide), PySem.W.mg_of X G a24, k24, b24⟩ : EL.Cal l.prog w K mg base 9 "_law_plan" ["_law_deck_here", "_law_top", "_law_many", "_law_long"] (spPlan K)) (⟨f25, _, FnOk.mono oLCode (by decide), PySem.W.mg_of X G a25, k25, b25⟩ : EL.Cal l.prog w K mg base 9 "_law_code" ["_law_w"] (spCode K CPacer)) (⟨f33, _, FnOk.mono oLBent (by decide), PySem.W.mg_of X G a33, k33, b33⟩ : EL.Cal l.prog w K mg base 9 "_law_bent" ["_law_deck_here", "_law_page"] spBent9) (⟨f34, _, gup oLIsTold (by decide), PySem.W.mg_of X G a34, k34, b34⟩ : EL.CalG l.prog w K mg base 9 "_law_is_told" ["_law_it"] (spTold9 K)) (⟨f13, _, FnOk.mono oStr (by decide), a13, i13, b13⟩ : EL.CalS l.prog w K mg base 9 CPacer (spStr K CPacer))
end KP
open PySem PySem.W PyProof.Rows
set_option maxHeartbeats 0 in
theorem PySem.Challenge.cw_evenlead_k09_texts_that_are_none_holds : PySem.Challenge.rw_evenlead_k09_texts_that_are_none.Holds := by
  w_on; o_law; k_head; (case hw => w_witness2)
  k_fill
  refine EL.walk_ofG (l := PySem.Challenge.rw_evenlead_k09_texts_that_are_none) (n := 63) (k := 12) (x := "_law_script") (sp := fun w => KP.spLaw _) rfl (by decide) rfl ⟨rfl, by decide, by decide⟩ (fun w h Y => PySem.W.kIn_of Y) ?F (fun _ _ a ns hl _ hS => ⟨a, ns, rfl, hS, hl, fun _ => rfl⟩)
  case F =>
    intro w mg fa h KX G hmg
    refine' KP.all_mk KX G hmg ?aPacer ?a0 ?l0 ?c0 ?k0 ?a1 ?l1 ?c1 ?k1 ?a2 ?l2 ?c2 ?k2 ?a3 ?l3 ?c3 ?k3 ?a4 ?l4 ?c4 ?k4 ?a5 ?l5 ?c5 ?k5 ?a6 ?l6 ?c6 ?k6 ?a7 ?i7 ?l7 ?c7 ?k7 ?a8 ?l8 ?c8 ?k8 ?a9 ?l9 ?c9 ?k9 ?a10 ?l10 ?c10 ?k10 ?a11 ?l11 ?c11 ?k11 ?a12 ?l12 ?c12 ?k12 ?a13 ?i13 ?l13 ?c13 ?k13 ?a14 ?l14 ?c14 ?k14 ?a15 ?l15 ?c15 ?k15 ?a16 ?l16 ?c16 ?k16 ?a17 ?l17 ?c17 ?k17 ?a18 ?l18 ?c18 ?k18 ?a19 ?r19 ?i19 ?rd19 ?ga19 ?l19 ?c19 ?k19 ?a20 ?l20 ?c20 ?k20 ?a21 ?l21 ?c21 ?k21 ?a22 ?l22 ?c22 ?k22 ?a23 ?l23 ?c23 ?k23 ?a24 ?l24 ?c24 ?k24 ?a25 ?l25 ?c25 ?k25 ?a26 ?l26 ?c26 ?k26 ?a27 ?l27 ?c27 ?k27 ?a28 ?l28 ?c28 ?k28 ?a29 ?l29 ?c29 ?k29 ?a30 ?l30 ?c30 ?k30 ?a31 ?l31 ?c31 ?k31 ?a32 ?l32 ?c32 ?k32 ?a33 ?l33 ?c33 ?k33 ?a34 ?l34 ?c34 ?k34 ?a35 ?l35 ?c35 ?k35 ?aCBadText ?xLBadText ?saBadText ?gaBadText ?ggBadText ?nbBadText ?iNBadText ?tIBadText ?lIBadText ?cIBadText ?kCBadText ?eCBadText ?tCBadText ?hCBadText ?iCBadText ?sCBadText ?zMOST_DIGITS ?zFIRST_MOVE_LINE ?pg ?hd ?po ?sa ?mk ?kc ?nS ?nB ?nM ?nE ?aLE ?sLE ?iLE ?tLE ?z_all ?z_isinstance ?z_int ?z_bool ?z_str ?z_tuple ?z_zip ?z_len ?z_range ?z_list ?z_repr ?z_sorted ?z_set ?z_enumerate ?zLETTERS ?zNOTHING ?zDIGITS
    (case aPacer => k_is); (case a0 => k_is); (case l0 => k_is); (case c0 => k_is); (case k0 => k_is); (case a1 => k_is); (case l1 => k_is); (case c1 => k_is); (case k1 => k_is); (case a2 => k_is); (case l2 => k_is); (case c2 => k_is); (case k2 => k_is); (case a3 => k_is); (case l3 => k_is); (case c3 => k_is); (case k3 => k_is); (case a4 => k_is); (case l4 => k_is); (case c4 => k_is); (case k4 => k_is); (case a5 => k_is); (case l5 => k_is); (case c5 => k_is); (case k5 => k_is); (case a6 => k_is); (case l6 => k_is); (case c6 => k_is); (case k6 => k_is); (case a7 => k_is); (case i7 => k_is); (case l7 => k_is); (case c7 => k_is); (case k7 => k_is); (case a8 => k_is); (case l8 => k_is); (case c8 => k_is); (case k8 => k_is); (case a9 => k_is); (case l9 => k_is); (case c9 => k_is); (case k9 => k_is); (case a10 => k_is); (case l10 => k_is); (case c10 => k_is); (case k10 => k_is); (case a11 => k_is); (case l11 => k_is); (case c11 => k_is); (case k11 => k_is); (case a12 => k_is); (case l12 => k_is); (case c12 => k_is); (case k12 => k_is); (case a13 => k_is); (case i13 => k_is); (case l13 => k_is); (case c13 => k_is); (case k13 => k_is); (case a14 => k_is); (case l14 => k_is); (case c14 => k_is); (case k14 => k_is); (case a15 => k_is); (case l15 => k_is); (case c15 => k_is); (case k15 => k_is); (case a16 => k_is); (case l16 => k_is); (case c16 => k_is); (case k16 => k_is); (case a17 => k_is); (case l17 => k_is); (case c17 => k_is); (case k17 => k_is); (case a18 => k_is); (case l18 => k_is); (case c18 => k_is); (case k18 => k_is); (case a19 => k_is); (case r19 => k_is); (case i19 => k_is); (case rd19 => k_is); (case ga19 => k_is); (case l19 => k_is); (case c19 => k_is); (case k19 => k_is); (case a20 => k_is); (case l20 => k_is); (case c20 => k_is); (case k20 => k_is); (case a21 => k_is); (case l21 => k_is); (case c21 => k_is); (case k21 => k_is); (case a22 => k_is); (case l22 => k_is); (case c22 => k_is); (case k22 => k_is); (case a23 => k_is); (case l23 => k_is); (case c23 => k_is); (case k23 => k_is); (case a24 => k_is); (case l24 => k_is); (case c24 => k_is); (case k24 => k_is); (case a25 => k_is); (case l25 => k_is); (case c25 => k_is); (case k25 => k_is); (case a26 => k_is); (case l26 => k_is); (case c26 => k_is); (case k26 => k_is); (case a27 => k_is); (case l27 => k_is); (case c27 => k_is); (case k27 => k_is); (case a28 => k_is); (case l28 => k_is); (case c28 => k_is); (case k28 => k_is); (case a29 => k_is); (case l29 => k_is); (case c29 => k_is); (case k29 => k_is); (case a30 => k_is); (case l30 => k_is); (case c30 => k_is); (case k30 => k_is); (case a31 => k_is); (case l31 => k_is); (case c31 => k_is); (case k31 => k_is); (case a32 => k_is); (case l32 => k_is); (case c32 => k_is); (case k32 => k_is); (case a33 => k_is); (case l33 => k_is); (case c33 => k_is); (case k33 => k_is); (case a34 => k_is); (case l34 => k_is); (case c34 => k_is); (case k34 => k_is); (case a35 => k_is); (case l35 => k_is); (case c35 => k_is); (case k35 => k_is); (case aCBadText => k_is); (case xLBadText => k_is); (case saBadText => k_is); (case gaBadText => k_is); (case ggBadText => k_is); (case nbBadText => k_is); (case iNBadText => k_is); (case tIBadText => k_is); (case lIBadText => k_is); (case cIBadText => k_is); (case kCBadText => k_is); (case eCBadText => k_is); (case tCBadText => k_is); (case hCBadText => k_is); (case iCBadText => k_is); (case sCBadText => k_is); (case zMOST_DIGITS => k_is); (case zFIRST_MOVE_LINE => k_is); (case pg => k_is); (case hd => k_is); (case po => k_is); (case sa => k_is); (case mk => k_is); (case kc => k_is); (case nS => k_is); (case nB => k_is); (case nM => k_is); (case nE => k_is); (case aLE => k_is); (case sLE => k_is); (case iLE => k_is); (case tLE => k_is); (case z_all => k_is); (case z_isinstance => k_is); (case z_int => k_is); (case z_bool => k_is); (case z_str => k_is); (case z_tuple => k_is); (case z_zip => k_is); (case z_len => k_is); (case z_range => k_is); (case z_list => k_is); (case z_repr => k_is); (case z_sorted => k_is); (case z_set => k_is); (case z_enumerate => k_is); (case zLETTERS => k_is); (case zNOTHING => k_is); (case zDIGITS => k_is)
