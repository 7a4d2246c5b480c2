import PyProof.Rows.All
import Wide.All
import OpenK.AllK
import Wide.FinOn
import PySem.Challenge.RW_evenlead_k02_texts_and_rows
import HandS.ForMost
import HandS.Style
import HandS.Wide
import HandS.IsInst
import HandS.Evl
import PyProof.ReprRoads
import PyProof.Rows.StrPadFill
import KE.KDictZip
import KE.GoesMore
import KE.GoesEnum
import PyProof.CollectWalk
import HandS.RevTup
import HandS.Walk
import HandS.TupAny
import PyProof.Rows.StrPadWhole
import KE.KRevSl
import HandS.TupMul
set_option Elab.async false
set_option linter.all false
set_option maxRecDepth 100000
set_option maxHeartbeats 4000000
namespace EL
open PySem PySem.Spec PyProof.Rows L2
/-! ### the deck of draws: a list [queue, blend, count]; the queue a list of ints -/
structure Dk (a q : Addr) (c : Nat) (H : Hp) : Prop where
  ne : a ≠ q
  top : ∃ b : Int, 0 ≤ b ∧ b < 2147483648 ∧ H a = some (.lst [.ref q, .int b, .int (c : Int)])
  que : ∃ ns : List Int, ns.length ≤ 63 ∧ H q = some (.lst (ns.map V.int))
/-- at most m draws so far -/
def Dw (a q : Addr) (m : Nat) (H : Hp) : Prop := ∃ c, c ≤ m ∧ Dk a q c H
/-- all but the deck stands -/
def Off (a q : Addr) (H H' : Hp) : Prop := ∀ b o, b ≠ a → b ≠ q → H b = some o → H' b = some o
theorem Off.refl {a q : Addr} (H : Hp) : Off a q H H := fun _ _ _ _ h => h
theorem Off.trans {a q : Addr} {H H1 H2 : Hp} (x : Off a q H H1) (y : Off a q H1 H2) : Off a q H H2 := fun b o h1 h2 h => y b o h1 h2 (x b o h1 h2 h)
theorem Off.of_same {a q : Addr} {H H' : Hp} (x : Same H H') : Off a q H H' := fun b o _ _ h => x b o h
/-- the heap without the deck -/
def hid (a q : Addr) (H : Hp) : Hp := fun b => if b = a ∨ b = q then none else H b
theorem hid_ne {a q b : Addr} {H : Hp} (h1 : b ≠ a) (h2 : b ≠ q) : hid a q H b = H b := by unfold hid; rw [if_neg (fun z => z.elim h1 h2)]
theorem hid_some {a q b : Addr} {H : Hp} {o : HO} (h : hid a q H b = some o) : b ≠ a ∧ b ≠ q ∧ H b = some o := by
  unfold hid at h
  by_cases z : b = a ∨ b = q
  · rw [if_pos z] at h; cases h
  · rw [if_neg z] at h; exact ⟨fun e => z (.inl e), fun e => z (.inr e), h⟩
theorem hid_sub {a q : Addr} {H : Hp} : Same (hid a q H) H := fun b o h => (hid_some h).2.2
theorem Off.hid {a q : Addr} {H H' : Hp} (x : Off a q H H') : Same (hid a q H) (hid a q H') := fun b o h => by
  obtain ⟨h1, h2, h3⟩ := hid_some h
  rw [hid_ne h1 h2]; exact x b o h1 h2 h3
theorem same_upd {H : Hp} {p : Addr} {o : HO} (h : H p = none) : Same H (upd H p o) := fun b x e => by
  rw [upd_ne (ne_of_none e h)]; exact e
theorem Dk.same {a q : Addr} {c : Nat} {H H' : Hp} (d : Dk a q c H) (s : Same H H') : Dk a q c H' := by
  obtain ⟨b, h1, h2, h3⟩ := d.top
  obtain ⟨ns, h4, h5⟩ := d.que
  exact ⟨d.ne, ⟨b, h1, h2, s _ _ h3⟩, ⟨ns, h4, s _ _ h5⟩⟩
theorem Dw.same {a q : Addr} {m : Nat} {H H' : Hp} (d : Dw a q m H) (s : Same H H') : Dw a q m H' := by
  obtain ⟨c, hc, k⟩ := d; exact ⟨c, hc, k.same s⟩
theorem Dw.mono {a q : Addr} {m n : Nat} {H : Hp} (d : Dw a q m H) (h : m ≤ n) : Dw a q n H := by
  obtain ⟨c, hc, k⟩ := d; exact ⟨c, Nat.le_trans hc h, k⟩
theorem Dk.na {a q p : Addr} {c : Nat} {H : Hp} (d : Dk a q c H) (h : H p = none) : p ≠ a ∧ p ≠ q := by
  obtain ⟨b, _, _, h3⟩ := d.top
  obtain ⟨ns, _, h5⟩ := d.que
  exact ⟨fun e => (by rw [e, h3] at h; cases h), fun e => (by rw [e, h5] at h; cases h)⟩
theorem Dw.na {a q p : Addr} {m : Nat} {H : Hp} (d : Dw a q m H) (h : H p = none) : p ≠ a ∧ p ≠ q := by
  obtain ⟨c, _, k⟩ := d; exact k.na h
/-- a store at an object beside the deck -/
theorem Dk.upd {a q p : Addr} {c : Nat} {H : Hp} {o : HO} (d : Dk a q c H) (h1 : p ≠ a) (h2 : p ≠ q) : Dk a q c (upd H p o) := by
  obtain ⟨b, h3, h4, h5⟩ := d.top
  obtain ⟨ns, h6, h7⟩ := d.que
  exact ⟨d.ne, ⟨b, h3, h4, by rw [upd_ne (Ne.symm h1)]; exact h5⟩, ⟨ns, h6, by rw [upd_ne (Ne.symm h2)]; exact h7⟩⟩
theorem Dw.upd {a q p : Addr} {m : Nat} {H : Hp} {o : HO} (d : Dw a q m H) (h1 : p ≠ a) (h2 : p ≠ q) : Dw a q m (upd H p o) := by
  obtain ⟨c, hc, k⟩ := d; exact ⟨c, hc, k.upd h1 h2⟩
theorem len_sz {n : Nat} (h : n ≤ 1000000) : n ≤ sizeLine := Nat.le_trans h (by decide)
theorem lt_sz {n : Nat} (h : n ≤ 1000000) : n < sizeLine := Nat.lt_of_le_of_lt h (by decide)
theorem dpInts {K : PySem.W.Frag} {H : Hp} : ∀ ns : List Int, DpAll K H (ns.map V.int) (ns.map PyData.int)
  | [] => .nil
  | n :: r => .cons (.int n) (dpInts r)
/-! ### slices of lists of ints -/
def cutI (ns : List Int) (k : Nat) : List Int := ns.take k
theorem cutI_map (ns : List Int) : cutV (ns.map V.int) none (some 63) = (cutI ns 63).map V.int := by
  unfold cutV cutI
  rw [show HT.sIx (ns.map V.int).length (ns.map V.int).length (some 63) = min 63 (ns.map V.int).length from HT.sIx_nat _ _ 63, HT.sIx_none, List.drop_zero, Nat.sub_zero, List.map_take, List.take_eq_take_iff]
  omega
theorem cutI_len (ns : List Int) (k : Nat) (h : ns.length ≤ 63) : (cutI ns k).length ≤ 63 := by
  unfold cutI; rw [List.length_take]; omega
theorem get_map_int {ms : List Int} {i : Nat} {x : V} (h : (ms.map V.int)[i]? = some x) : ∃ z, ms[i]? = some z ∧ x = V.int z := by
  rw [List.getElem?_map] at h
  cases e : ms[i]? with
  | none => rw [e] at h; cases h
  | some z => rw [e] at h; exact ⟨z, rfl, (Option.some.inj h).symm⟩
theorem sqOf {K : PySem.W.Frag} {H : Hp} {a : Addr} {xs : List V} (h : H a = some (.lst xs)) : SqL K H a xs := .inl (.inl h)
theorem stOf {K : PySem.W.Frag} {H : Hp} {a : Addr} {xs : List V} (h : H a = some (.tup xs)) : SqT K H a xs := .inl (.inl h)
theorem ex_l' {K : PySem.W.Frag} {H H' : Hp} {a : Addr} {xs : List V} (e : Same H H') (h : SqL K H a xs) : SqL K H' a xs := e.seq h
theorem ex_t' {K : PySem.W.Frag} {H H' : Hp} {a : Addr} {xs : List V} (e : Same H H') (h : SqT K H a xs) : SqT K H' a xs := Evl.ex_t e h
theorem canLay_ints : ∀ ns : List Int, PyData.canLayAll0 (ns.map PyData.int) = true
  | [] => by simp [PyData.canLayAll0]
  | n :: r => by simp [PyData.canLayAll0, PyData.canLay0, canLay_ints r]
theorem depth_ints : ∀ ns : List Int, PyData.depthAll (ns.map PyData.int) = 0
  | [] => by simp [PyData.depthAll]
  | n :: r => by simp [PyData.depthAll, PyData.depth, depth_ints r]
theorem shaped_ints (ns : List Int) : SeqAt.shaped (.list (ns.map PyData.int)) = true := by
  simp [SeqAt.shaped, PyData.canLay0, PyData.depth, canLay_ints, depth_ints]
theorem eqv_nil (ns : List Int) : PyData.eqv (.list (ns.map PyData.int)) (.list []) = decide (ns = []) := by
  cases ns <;> simp [PyData.eqv, PyData.eqvAll]
theorem last_int {ns : List Int} (h : ns ≠ []) : ∃ y, (ns.map V.int)[(ns.map V.int).length - 1]? = some (.int y) := by
  have hl : 0 < ns.length := List.length_pos_iff.mpr h
  refine ⟨ns[ns.length - 1]'(by omega), ?_⟩
  rw [List.getElem?_map, List.length_map, List.getElem?_eq_getElem (by omega)]; rfl
/-! ### a def that may be called -/
structure Cal (P : Program) (w : World) (K : PySem.W.Frag) (mg : Str → Option Value) (base : Heap) (k : Nat) (x : Str) (ps : List Str) (sp : Sp) where
  f : Addr
  fd : FuncData
  ok : FnOk P w K mg base CX0 k f fd ps sp
  g : mg x = some (.ref f)
  kp : PySem.W.keepIn K (.ref f) = true
  b : Binds K fd ps []
theorem pe_cal {X : Cx} {k : Nat} {x : Str} {ps : List Str} {sp : Sp} {E : XK} {e : Expr} {es : List Expr} {t : TA} {p pos : Pos} (C : Cal X.prog X.w X.K X.mg X.base k x ps sp) (hr : Room k X.A) (hg : Gl X x) (hx : Passes CX0 X E) (ha : PA X (e :: es) t)
    (hdb : (x == ("__debug__" : Str)) = false := by decide) (he : starEach (e :: es) X.env = (false, eval e X.env) :: starEach es X.env := by rfl) (hpl : (backTo pos (starEach es X.env)).any (·.1) = false := by rfl) :
    PE X (.Call (.Name x p) (e :: es) [] pos) (tCall sp [] E t) := pe_call C.ok hr hg C.g C.kp C.b .nil hx ha hdb he hpl
/-- the names of built-ins that the text leaves alone -/
abbrev Nn (mg : Str → Option Value) (x : Str) : Prop := mg x = none
/-! ### promises of the deck's defs -/
def spDeck (K : PySem.W.Frag) : Sp := fun vs H Q _ => ∃ (a : Addr) (ns : List Int), vs = [.ref a] ∧ SqL K H a (ns.map V.int) ∧ ns.length ≤ 63 ∧
  ∀ p q H', Same H H' → Dw p q 0 H' → H p = none → H q = none → Q (.ref p) H'
def spDraw : Sp := fun vs H Q _ => ∃ (a q : Addr) (m : Nat) (n : Int), vs = [.ref a, .int n] ∧ Dw a q m H ∧ m < 1000000000 ∧ 0 < n ∧ n < 1073741824 ∧
  ∀ k H', 0 ≤ k → k < n → Off a q H H' → Dw a q (m + 1) H' → Q (.int k) H'
/-- a pick of a list's item (not the deck's) -/
def spPick (K : PySem.W.Frag) : Sp := fun vs H Q _ => ∃ (a q : Addr) (m : Nat) (y : V) , vs = [.ref a, y] ∧ Dw a q m H ∧ m < 1000000000 ∧
  ((∃ (l : Addr) (xs : List V), y = .ref l ∧ SqL K (hid a q H) l xs ∧ xs ≠ [] ∧ xs.length ≤ 1000000 ∧ ∀ (i : Nat) (x : V) (H' : Hp), xs[i]? = some x → Off a q H H' → Dw a q (m + 1) H' → Q x H') ∨
   (∃ z : Str, y = .str z ∧ z.length ≠ 0 ∧ z.length ≤ 1000000 ∧ ∀ (i c : Nat) (H' : Hp), z.cps.toList[i]? = some c → Off a q H H' → Dw a q (m + 1) H' → Q (.str ⟨#[c]⟩) H'))
end EL
/-! Defs that show data (repr): a call where no display is under way around it. -/
namespace EL
open PySem PySem.Spec PyProof.Rows L2
/-- room, and nothing around is being shown -/
structure RoomG (k : Nat) (A : Around) : Prop where
  r : Room k A
  g : A.guards = some []
theorem RoomG.mono {j k : Nat} {A : Around} (h : RoomG k A) (hj : j ≤ k) : RoomG j A := ⟨h.r.mono hj, h.g⟩
/-- a def's promise where nothing around is being shown -/
structure FnG (P : Program) (w : World) (K : PySem.W.Frag) (mg : Str → Option Value) (base : Heap) (k : Nat) (f : Addr) (fd : FuncData) (ps : List Str) (sp : Sp) : Prop where
  ln : ∀ (vs : List V) (H : Hp) (Q : VK) (E : XK), sp vs H Q E → vs.length = ps.length
  go : ∀ {A : Around} {outer : List Env} {s : Shared} {H : Hp} {args : Args} {us : List Value} {vs : List V} {Q : VK} {E : XK},
    RoomG k A → Env0 P w K mg base A outer s H → BindsTo s fd args (ps.zip us) → Vals vs us → sp vs H Q E → codeAny (model P w) A (.call (.ref f) args) (CR CX0 outer P w H s Q E) s
section
variable {P : Program} {w : World} {K : PySem.W.Frag} {mg : Str → Option Value} {base : Heap}
theorem FnG.of {k : Nat} {f : Addr} {fd : FuncData} {ps : List Str} {sp : Sp} (F : FnOk P w K mg base CX0 k f fd ps sp) : FnG P w K mg base k f fd ps sp :=
  ⟨F.len, fun hr e hb hv hs => F.run _ _ _ _ _ _ _ _ _ hr.r e hb hv hs⟩
/-- by its body -/
theorem FnG.body {x : Str} {st : Stmt} {f : Addr} {fd : FuncData} {N ps : List Str} {k : Nat} {sp : Sp} (F : Fun K x x st f fd) (S : FnScope N ps (defScope st)) (ln : ∀ vs H Q E, sp vs H Q E → vs.length = ps.length)
    (hb : ∀ (cdv : Value) (A : Around) (outer : List Env) (s : Shared) (H : Hp) (vs : List V) (Q : VK) (E : XK), RoomG k (A.deeper (envOfC x (defScope st) s.heap.objs.size f cdv)) → sp vs H Q E →
      ∃ t, PSs (cxOf CX0 P w K mg base N x (defScope st) f cdv A outer s H E).nox (defBody st) t ∧ t { nx := fun _ H' => Q .non H', rt := Q } (start N vs) H) : FnG P w K mg base (k + 1) f fd ps sp := by
  obtain ⟨oc, od, kV, doc, pm, an, cdv, ct, osl, rfl, lk, hcd⟩ := F.ex
  refine ⟨ln, fun {A outer s H args us vs Q E} hr e0 bd rv hs => ?_⟩
  have stands : ∀ b o, base.get? b = some o → s.heap.get? b = some o := fun b o e => (e0.bs b o e).1
  have KX := e0.mod.kin.keeps stands
  have named : ∀ y ∈ ps.zip us, (defScope st).names.lookup y.1 = some .local ∨ ((defScope st).names.lookup y.1 = some .cell ∧ ((cellsFrom (s.heap.objs.size + 1) (defScope st).names []).lookup y.1).isSome = true) := by
    rintro ⟨n, v⟩ hy
    exact (S.par n (List.of_mem_zip hy).1).imp id fun q => ⟨q, PySem.W.cellsFrom_some _ _ _ (.inl q)⟩
  refine codeAny_call_function hr.r.depth (KX _ _ lk) rfl S.co S.gen rfl (PySem.W.codeRec_of KX hcd) (bd _ _ _ _ ?_)
  refine wpAny_newFunctionEnv_cells S.kind named fun env he s1 x1 => ?_
  subst he
  refine ⟨(e0.mod.nolimit.keeps stands).keeps x1.toInCall.keep, codeAny_func ?_⟩
  obtain ⟨t, ht, hq⟩ := hb cdv A outer s H vs Q E ⟨hr.r.deeper _, hr.g⟩ hs
  have I := inv_start (CX := CX0) (mg := mg) (base := base) (E := E) (qual := x) (f := f) (cd := cdv) S hr.r.hd e0 (ln _ _ _ _ hs) rv x1
  refine wpAny_mono (ht.nox.run [] s1 (start N vs) H _ I hq) (fun fl s2 end2 => ?_) fun _ _ z => z
  cases fl with
  | ret u =>
    obtain ⟨v, σ2, H2, J, r2, q2⟩ := end2
    exact ⟨v, H2, J.os, J.bare, J.base, J.hok, r2, q2⟩
  | next =>
    obtain ⟨σ2, H2, J, q2⟩ := end2
    exact ⟨.non, H2, J.os, J.bare, J.base, J.hok, rfl, q2⟩
  | brk => exact end2.elim fun _ z => z.elim fun _ y => y.2.elim
  | cont => exact end2.elim fun _ z => z.elim fun _ y => y.2.elim
end
/-- a def that may be called where nothing around is being shown -/
structure CalG (P : Program) (w : World) (K : PySem.W.Frag) (mg : Str → Option Value) (base : Heap) (k : Nat) (x : Str) (ps : List Str) (sp : Sp) where
  f : Addr
  fd : FuncData
  ok : FnG P w K mg base k f fd ps sp
  g : mg x = some (.ref f)
  kp : PySem.W.keepIn K (.ref f) = true
  b : Binds K fd ps []
section
variable {X : Cx} {k : Nat} {x : Str} {ps : List Str} {sp : Sp} {E : XK} {e : Expr} {es : List Expr} {t : TA} {p pos : Pos}
theorem pe_calG (C : CalG X.prog X.w X.K X.mg X.base k x ps sp) (hr : RoomG k X.A) (hg : Gl X x) (hx : Passes CX0 X E) (ha : PA X (e :: es) t)
    (hdb : (x == ("__debug__" : Str)) = false := by decide) (he : starEach (e :: es) X.env = (false, eval e X.env) :: starEach es X.env := by rfl) (hpl : (backTo pos (starEach es X.env)).any (·.1) = false := by rfl) :
    PE X (.Call (.Name x p) (e :: es) [] pos) (tCall sp [] E t) := by
  refine ⟨fun pins s σ H Q I h => wpAny_Call_Name_kw (ld_glob I hg C.g ?_ hdb)⟩
  refine PySem.W.callWith_K (h₀ := X.base) I.ok.mod.kin C.kp (thn (ha.run pos pins s σ H _ I h) fun us s1 hh => ?_) he hpl
  obtain ⟨vs, H1, I1, r, q⟩ := hh
  refine ⟨I1.kIn, ?_⟩
  have q' : sp vs H1 Q E := by rw [List.append_nil] at q; exact q
  have hl : us.length = ps.length := r.length.symm.trans (C.ok.ln _ _ _ _ q')
  have bd := C.b s1 us I1.kIn (by rw [List.append_nil]; exact hl)
  rw [List.append_nil] at bd
  refine wpAny_call (codeAny_mono (C.ok.go hr I1.env0 bd r q') fun r2 s2 h2 => ?_)
  match r2, h2 with
  | .error e, h2 => exact hx pins σ H1 s1 e s2 I1 h2
  | .ok (.ret u), h2 => exact I1.after h2
  | .ok .next, h2 => exact h2.elim
  | .ok .brk, h2 => exact h2.elim
  | .ok .cont, h2 => exact h2.elim
end
/-! ### the end: the law's def, called by the claim -/
section
variable {P : Program} {w : World} {K : PySem.W.Frag} {mg mb : Str → Option Value} {s₁ : Shared}
/-- the base under an abstract heap that tracks one list at most -/
theorem base_one {H : Hp} {a : Addr} {vs : List Value} (KX : K.In s₁.heap) (hns : s₁.heap.Ns mainGlobals mg) (hb : s₁.heap.Ns builtinsNs mb) (hbb : ∀ x : Str, x ≠ "__name__" → mb x = bootBuiltins x) (hlim : s₁.heap.NoLimit)
    (ha : s₁.heap.get? a = some { cls := .type "list", data := .seq vs.toArray }) (hA : ∀ b u, H b = some u → b = a) (hK : ∀ u, H a = some u → K.lookup a = none) :
    K.In (hidT s₁.heap H) ∧ Mod K mg (hidT s₁.heap H) := by
  have dictFree : ∀ {b : Addr} {o : Obj} {es : Array DictEntry} {n : Nat}, s₁.heap.get? b = some o → o.data = .dict es n → H b = none := by
    intro b o es n e d
    cases q : H b with
    | none => rfl
    | some u =>
      obtain rfl := hA b u q
      rw [ha] at e
      obtain rfl := Option.some.inj e
      exact nomatch d
  have ns : ∀ {b : Addr} {m : Str → Option Value}, s₁.heap.Ns b m → (hidT s₁.heap H).Ns b m := by
    rintro b m ⟨o, es, n, e, d, r⟩
    exact ⟨o, es, n, hidT_get e (dictFree e d), d, r⟩
  have kin : K.In (hidT s₁.heap H) := by
    intro b o e
    refine hidT_get (KX b o e) ?_
    cases q : H b with
    | none => rfl
    | some u =>
      obtain rfl := hA b u q
      rw [hK u q] at e
      exact nomatch e
  obtain ⟨mc, l1, l2⟩ := hlim
  exact ⟨kin, ⟨kin, ns hns, ⟨mb, ns hb, hbb⟩, ⟨mc, ns l1, l2⟩⟩⟩
theorem law_callG {k : Nat} {fa a : Addr} {fd : FuncData} {x : Str} {sp : Sp} {vs : List Value} {ns : List Int}
    (KX : K.In s₁.heap) (hns : s₁.heap.Ns mainGlobals mg) (hb : s₁.heap.Ns builtinsNs mb) (hbb : ∀ x : Str, x ≠ "__name__" → mb x = bootBuiltins x) (hlim : s₁.heap.NoLimit) (hg : s₁.gens = #[])
    (ha : s₁.heap.get? a = some { cls := .type "list", data := .seq vs.toArray }) (hi : IntsAre vs ns) (hl : ns.length ≤ sizeLine) (hr : Room k callerA)
    (F : ∀ base : Heap, K.In base → base.Ns mainGlobals mg → FnG P w K mg base k fa fd [x] sp) (hbind : ∀ (s : Shared) (u : Value), BindsTo s fd ⟨[u], []⟩ [(x, u)])
    (hsp : ∀ H : Hp, Only H → SqL K H a (ns.map V.int) → sp [.ref a] H (fun v _ => v = .bl true) fun _ _ _ => False) :
    codeAny (model P w) callerA (.call (.ref fa) ⟨[.ref a], []⟩) (fun r s' => r = .ok (.ret (.bool true)) ∧ OldK s₁.heap s'.heap ∧ s'.os = s₁.os ∧ AllBare s'.gens) s₁ := by
  have rv : Vals (ns.map V.int) vs := vals_ints hi
  have key : ∀ H : Hp, Only H → SqL K H a (ns.map V.int) → HOk P w H s₁.heap → (∀ b u, H b = some u → b = a) → (∀ u, H a = some u → K.lookup a = none) →
      codeAny (model P w) callerA (.call (.ref fa) ⟨[.ref a], []⟩) (fun r s' => r = .ok (.ret (.bool true)) ∧ OldK s₁.heap s'.heap ∧ s'.os = s₁.os ∧ AllBare s'.gens) s₁ := by
    intro H hO hS hok hA hK
    obtain ⟨kb, md⟩ := base_one KX hns hb hbb hlim ha hA hK
    have e0 : Env0 P w K mg (hidT s₁.heap H) callerA [] s₁ H := ⟨rfl, md, fun _ _ e => of_hidT e, Nat.le_of_eq (hidT_size s₁.heap H), trivial, fun _ z => (List.not_mem_nil z).elim, hok, .of_eq hg⟩
    have run := (F _ kb md.glob).go (Q := fun v _ => v = .bl true) (E := fun _ _ _ => False) ⟨hr, rfl⟩ e0 (vs := [.ref a]) (us := [.ref a]) (hbind s₁ (.ref a)) (Paired.cons (show RelV (.ref a) (.ref a) from rfl) .nil) (hsp H hO hS)
    refine codeAny_mono run fun r s2 h2 => ?_
    match r, h2 with
    | .error e, h2 => exact h2.elim
    | .ok .next, h2 => exact h2.elim
    | .ok .brk, h2 => exact h2.elim
    | .ok .cont, h2 => exact h2.elim
    | .ok (.ret u), ⟨v, H2, os, bare, un, ok2, r2, q2⟩ =>
      obtain rfl : v = .bl true := q2
      obtain rfl : u = Value.bool true := r2
      refine ⟨rfl, OldK.of_keep fun b o e => ?_, os, bare⟩
      cases q : H b with
      | none => exact un.keep b o e q (List.not_mem_nil) (List.not_mem_nil)
      | some u =>
        obtain ⟨ob, xs, z⟩ := (hO b).resolve_left (by rw [q]; exact fun y => nomatch y)
        have e1 : s₁.heap.get? b = some ob := (hok b _ z).1
        have e2 : s2.heap.get? b = some ob := (ok2 b _ (un.frzs b ob _ z)).1
        rw [e] at e1
        rw [Option.some.inj e1]; exact e2
  by_cases hk : K.lookup a = none
  · refine key (fun b => if b = a then some (.frz { cls := .type "list", data := .seq vs.toArray } (.lst (ns.map V.int))) else none) (fun b => ?_) (.inl (.inr ⟨_, if_pos rfl⟩)) (fun b u z => ?_) (fun b u z => ?_) fun _ _ => hk
    · by_cases e : b = a
      · exact .inr ⟨_, _, if_pos e⟩
      · exact .inl (if_neg e)
    · by_cases e : b = a
      · subst e
        obtain rfl := Option.some.inj ((if_pos rfl).symm.trans z)
        exact ⟨ha, (by rw [List.length_map]; exact hl), vs, _, rv, ha⟩
      · exact nomatch (if_neg e).symm.trans z
    · by_cases e : b = a
      · exact e
      · exact nomatch (if_neg e).symm.trans z
  · obtain ⟨o, ho⟩ := Option.ne_none_iff_exists'.mp hk
    have e := KX a o ho
    rw [ha] at e
    obtain rfl := Option.some.inj e
    have lv : vs.length = ns.length := hi.length
    refine key (fun _ => none) (fun _ => .inl rfl) (.inr ⟨_, vs.toArray, _, ho, rfl, rfl, rfl, (by rw [List.size_toArray, lv]; exact hl), (by simpa using rv)⟩) (fun _ _ z => nomatch z) (fun _ _ z => nomatch z) fun _ z => nomatch z
end
theorem walk_ofG {l : PySem.W.OpenLaw} {n k : Nat} {q : Program} {loose : List Str} {XP : (Str → Option Value) → Heap → Prop} {YP : World → Heap → Prop} {d : DefRec} {K : Params → PySem.W.Frag} {sp : World → Sp} {x : Str}
    (hn : l.most = some n) (hn2 : n ≤ sizeLine) (hdf : d.params.defaults = []) (hr : Room k callerA) (hY : ∀ (w : World) (h : Heap), YP w h → (K w.params).In h)
    (F : ∀ (w : World) (mg : Str → Option Value) (fa : Addr) (h : Heap), (K w.params).In h → h.Ns mainGlobals mg → mg d.name = some (.ref fa) →
      ∃ fd : FuncData, (∀ (s : Shared) (u : Value), BindsTo s fd ⟨[u], []⟩ [(x, u)]) ∧ ∀ base : Heap, (K w.params).In base → base.Ns mainGlobals mg → FnG l.prog w (K w.params) mg base k fa fd [x] (sp w))
    (hsp : ∀ (w : World) (H : Hp) (a : Addr) (ns : List Int), ns.length ≤ n → Only H → SqL (K w.params) H a (ns.map V.int) → sp w [.ref a] H (fun v _ => v = .bl true) fun _ _ _ => False) :
    PySem.W.WalkO q loose XP YP l.row.toRowW d [] (fun f vs => PySem.call f vs) := by
  refine Att.attach_call hn hdf fun w _ _ mg mb fa _ _ _ _ a vs ns G Y _ _ _ hmg hobj hints hlen hg => ?_
  obtain ⟨fd, hb, hF⟩ := F w mg fa _ (hY w _ Y) G.T.g hmg
  exact law_callG (hY w _ Y) G.T.g G.T.b G.T.builtins G.T.nolimit hg hobj hints (Nat.le_trans hlen hn2) hr hF hb (fun H hO hS => hsp w H a ns hlen hO hS)
end EL
/-! Data of any of the laws' kinds at a value: also empty dicts; repr of it; == with a text; isinstance. -/
namespace EL
open PySem PySem.Spec PyProof.Rows L2
mutual
/-- v stands for the data d -/
inductive Dq (K : PySem.W.Frag) (H : Hp) : V → PyData → Prop
  | non : Dq K H .non .none
  | bl (b : Bool) : Dq K H (.bl b) (.bool b)
  | int (i : Int) : Dq K H (.int i) (.int i)
  | str (x : Str) : Dq K H (.str x) (.str x)
  | lst {a : Addr} {xs : List V} {ds : List PyData} : SqL K H a xs → DqAll K H xs ds → Dq K H (.ref a) (.list ds)
  | tup {a : Addr} {xs : List V} {ds : List PyData} : SqT K H a xs → DqAll K H xs ds → Dq K H (.ref a) (.tuple ds)
  | dic {a : Addr} : H a = some (.dK []) → Dq K H (.ref a) (.dict [])
inductive DqAll (K : PySem.W.Frag) (H : Hp) : List V → List PyData → Prop
  | nil : DqAll K H [] []
  | cons {v : V} {vs : List V} {d : PyData} {ds : List PyData} : Dq K H v d → DqAll K H vs ds → DqAll K H (v :: vs) (d :: ds)
end
mutual
/-- no list within -/
def noL : PyData → Bool
  | .none | .bool _ | .int _ | .str _ | .dict _ => true
  | .list _ => false
  | .tuple xs => noLs xs
def noLs : List PyData → Bool
  | [] => true
  | x :: xs => noL x && noLs xs
end
section
variable {K : PySem.W.Frag} {H H' : Hp}
mutual
theorem Dq.mono (e : Same H H') : ∀ (d : PyData) (v : V), Dq K H v d → Dq K H' v d
  | .none, _, h => by cases h; exact .non
  | .bool b, _, h => by cases h; exact .bl b
  | .int i, _, h => by cases h; exact .int i
  | .str x, _, h => by cases h; exact .str x
  | .list ds, _, h => by
    cases h with
    | lst hs ha => exact .lst (ex_l' e hs) (DqAll.mono e ds _ ha)
  | .tuple ds, _, h => by
    cases h with
    | tup hs ha => exact .tup (ex_t' e hs) (DqAll.mono e ds _ ha)
  | .dict _, _, h => by
    cases h with
    | dic hd => exact .dic (e _ _ hd)
theorem DqAll.mono (e : Same H H') : ∀ (ds : List PyData) (vs : List V), DqAll K H vs ds → DqAll K H' vs ds
  | [], _, h => by cases h; exact .nil
  | d :: ds, _, h => by
    cases h with
    | cons h1 h2 => exact .cons (Dq.mono e d _ h1) (DqAll.mono e ds _ h2)
end
theorem Dq.up {d : PyData} {v : V} (h : Dq K H v d) (e : Same H H') : Dq K H' v d := Dq.mono e d v h
theorem DqAll.up {ds : List PyData} {vs : List V} (h : DqAll K H vs ds) (e : Same H H') : DqAll K H' vs ds := DqAll.mono e ds vs h
theorem DqAll.len {ds : List PyData} : ∀ {vs : List V}, DqAll K H vs ds → vs.length = ds.length := by
  induction ds with
  | nil => intro vs h; cases h; rfl
  | cons d ds ih =>
    intro vs h
    cases h with
    | cons _ h2 => rw [List.length_cons, List.length_cons, ih h2]
theorem DqAll.at : ∀ {ds : List PyData} {vs : List V} {i : Nat} {v : V}, DqAll K H vs ds → vs[i]? = some v → ∃ d, ds[i]? = some d ∧ Dq K H v d
  | [], _, i, v, h, e => by cases h; simp at e
  | d :: ds, _, 0, v, h, e => by
    cases h with
    | cons h1 h2 =>
      rw [List.getElem?_cons_zero] at e
      obtain rfl := Option.some.inj e
      exact ⟨d, rfl, h1⟩
  | d :: ds, _, i + 1, v, h, e => by
    cases h with
    | cons h1 h2 => exact DqAll.at (i := i) h2 (by simpa using e)
theorem DqAll.app : ∀ {ds es : List PyData} {vs us : List V}, DqAll K H vs ds → DqAll K H us es → DqAll K H (vs ++ us) (ds ++ es)
  | [], _, _, _, h, h' => by cases h; exact h'
  | d :: ds, _, _, _, h, h' => by
    cases h with
    | cons h1 h2 => exact .cons h1 (DqAll.app h2 h')
theorem DqAll.tk : ∀ {ds : List PyData} {vs : List V} (n : Nat), DqAll K H vs ds → DqAll K H (vs.take n) (ds.take n)
  | _, _, 0, _ => .nil
  | [], _, n + 1, h => by cases h; exact .nil
  | d :: ds, _, n + 1, h => by
    cases h with
    | cons h1 h2 => exact .cons h1 (DqAll.tk n h2)
theorem DqAll.dp : ∀ {ds : List PyData} {vs : List V} (n : Nat), DqAll K H vs ds → DqAll K H (vs.drop n) (ds.drop n)
  | _, _, 0, h => h
  | [], _, n + 1, h => by cases h; exact .nil
  | d :: ds, _, n + 1, h => by
    cases h with
    | cons h1 h2 => exact DqAll.dp n h2
theorem DqAll.rv {ds : List PyData} {vs : List V} (h : DqAll K H vs ds) : DqAll K H vs.reverse ds.reverse := by
  induction ds generalizing vs with
  | nil => cases h; exact .nil
  | cons d ds ih =>
    cases h with
    | cons h1 h2 =>
      rw [List.reverse_cons, List.reverse_cons]
      exact (ih h2).app (.cons h1 .nil)
end
section
variable {X : Cx} {pins : List (Addr × Obj)} {σ : L2.St} {H : Hp} {s : Shared}
theorem not_sys {a : Addr} (I : Inv X pins σ H s) (h : H a = some (.dK [])) : a ≠ sysModules ∧ ∃ o n, s.heap.get? a = some o ∧ o.cls = .type "dict" ∧ o.data = .dict #[] n := by
  obtain ⟨_, h2, vs, kv, o, es, n, ho, hx, hd, _, hes, _⟩ := I.hok a _ h
  cases kv
  refine ⟨ne_of_beq_false h2, o, n, ho, hx.1, ?_⟩
  have e : es.toList = [] := by
    generalize es.toList = l at hes
    cases hes; rfl
  rw [hd]
  congr
  exact Array.toList_eq_nil_iff.mp e
mutual
theorem Dq.reads (I : Inv X pins σ H s) : ∀ (d : PyData) (v : V) (u : Value), Dq X.K H v d → RelV v u → ∃ as, Reads s.heap u d as ∧ (noL d = true → sysModules ∉ as)
  | .none, _, _, h, r => by cases h; cases r; exact ⟨_, Reads.none, fun _ => List.not_mem_nil⟩
  | .bool b, _, _, h, r => by cases h; cases r; exact ⟨_, Reads.bool b, fun _ => List.not_mem_nil⟩
  | .int i, _, _, h, r => by cases h; obtain ⟨t, rfl⟩ := r; exact ⟨_, Reads.int i t, fun _ => List.not_mem_nil⟩
  | .str x, _, _, h, r => by cases h; obtain ⟨t, rfl⟩ := r; exact ⟨_, Reads.str x t, fun _ => List.not_mem_nil⟩
  | .list ds, _, _, h, r => by
    cases h with
    | lst hs ha =>
      cases r
      obtain ⟨its, rv, ⟨o, n, ho, hc, _, hd⟩, _⟩ := I.list hs
      obtain ⟨as, hr, _⟩ := DqAll.reads I ds _ its ha rv
      exact ⟨_, Reads.list ho hc hd hr, fun z => by simp [noL] at z⟩
  | .tuple ds, _, _, h, r => by
    cases h with
    | tup hs ha =>
      cases r
      obtain ⟨its, rv, ⟨o, ho, hc, n, hd⟩, _⟩ := I.tuple hs
      obtain ⟨as, hr, hn⟩ := DqAll.reads I ds _ its ha rv
      exact ⟨_, Reads.tuple ho hc hd hr, fun z => hn (by simpa [noL] using z)⟩
  | .dict _, _, _, h, r => by
    cases h with
    | dic hd =>
      cases r
      obtain ⟨hne, o, n, ho, hc, hdd⟩ := not_sys I hd
      exact ⟨_, Reads.dict (kvs := []) ho hc hdd .nil .nil, fun _ => by simp [Ne.symm hne]⟩
theorem DqAll.reads (I : Inv X pins σ H s) : ∀ (ds : List PyData) (vs : List V) (us : List Value), DqAll X.K H vs ds → Vals vs us → ∃ as, ReadsAll s.heap us ds as ∧ (noLs ds = true → sysModules ∉ as)
  | [], _, _, h, r => by cases h; cases r; exact ⟨_, ReadsAll.nil, fun _ => List.not_mem_nil⟩
  | d :: ds, _, _, h, r => by
    cases h with
    | cons h1 h2 =>
      cases r with
      | cons r1 r2 =>
        obtain ⟨as, q1, n1⟩ := Dq.reads I d _ _ h1 r1
        obtain ⟨bs, q2, n2⟩ := DqAll.reads I ds _ _ h2 r2
        refine ⟨_, ReadsAll.cons q1 q2, fun z => ?_⟩
        obtain ⟨z1, z2⟩ : noL d = true ∧ noLs ds = true := by simpa [noLs] using z
        exact fun m => (List.mem_append.mp m).elim (n1 z1) (n2 z2)
end
/-- repr(x) of data -/
def rRepr (K : PySem.W.Frag) : List V → Hp → VK → Prop := fun xs H Q => ∃ x d, xs = [x] ∧ Dq K H x d ∧ d.showable = true ∧ (d.hasDict = false ∨ noL d = true) ∧ d.depth ≤ 100 ∧ d.shown.length ≤ sizeLine ∧ Q (.str d.shown) H
theorem call_repr {k : Nat} (hr : RoomG k X.A) : CallR X (.builtin "repr") (rRepr X.K) := by
  intro pins s σ H xs us Q I rv h
  obtain ⟨x, d, rfl, hd, hs, hn, hdp, hz, q⟩ := h
  obtain ⟨u, rfl, ru⟩ := vals1 rv
  obtain ⟨as, rd, hsys⟩ := Dq.reads I d x u hd ru
  have hu : X.A.units + (d.depth + 1) < cLine := by have := hr.r.un; omega
  have sm : d.hasDict = true → sysModules ∉ as := fun z => hn.elim (fun y => by rw [y] at z; cases z) hsys
  have fin : ∀ h' u' tk, (∀ b o, s.heap.get? b = some o → h'.get? b = some o) → EP X pins σ Q (.str d.shown u') { s with heap := h', toks := tk } := fun h' u' tk k => ⟨.str d.shown, H, I.kept k, ⟨u', rfl⟩, q⟩
  cases hd with
  | non =>
    cases ru
    refine P.repr_of_none ?_
    simpa [PyData.shown] using fin s.heap s.toks (s.toks + 1) fun _ _ e => e
  | bl b =>
    cases ru
    refine P.repr_of_bool ?_
    simpa [PyData.shown] using fin s.heap s.toks (s.toks + 1) fun _ _ e => e
  | int i =>
    obtain ⟨t, rfl⟩ := ru
    refine P.repr_of_int (by simpa [PyData.showable] using hs) ?_
    simpa [PyData.shown] using fin s.heap s.toks (s.toks + 1) fun _ _ e => e
  | str z =>
    obtain ⟨t, rfl⟩ := ru
    refine P.repr_of_str ?_ (by simpa only [PyData.shown] using hz)
    simpa [PyData.shown] using fin s.heap s.toks (s.toks + 1) fun _ _ e => e
  | lst _ _ => cases ru; exact repr_of_reads' rd hs sm hr.g hu (fun _ _ e => e) fin hz
  | tup _ _ => cases ru; exact repr_of_reads' rd hs sm hr.g hu (fun _ _ e => e) fin hz
  | dic _ => cases ru; exact repr_of_reads' rd hs sm hr.g hu (fun _ _ e => e) fin hz
end
end EL
namespace EL
open PySem PySem.Spec PyProof.Rows L2
/-! ### the built-in class of data -/
def tyN : PyData → String
  | .none => "NoneType" | .bool _ => "bool" | .int _ => "int" | .str _ => "str" | .list _ => "list" | .tuple _ => "tuple" | .dict _ => "dict"
def tyNs : List String := ["NoneType", "bool", "int", "str", "list", "tuple", "dict"]
theorem tyN_mem (d : PyData) : tyN d ∈ tyNs := by cases d <;> simp [tyN, tyNs]
theorem tyx_of {K : PySem.W.Frag} {H : Hp} {x : V} {d : PyData} (h : Dq K H x d) : TyX K H x (.type (tyN d)) := by
  cases h with
  | non => exact .base .non
  | bl b => exact .base (.bl b)
  | int i => exact .base (.int i)
  | str z => exact .base (.str z)
  | lst hs _ =>
    rcases hs with (e | ⟨o, e⟩) | ⟨o, its, n, e, c, _⟩
    · exact .base (.lst e)
    · exact .base (.frz e)
    · exact .kList e c
  | tup hs _ =>
    rcases hs with (e | ⟨o, e⟩) | ⟨o, its, n, e, c, _⟩
    · exact .base (.tup e)
    · exact .fTuple e
    · exact .kTuple e c
  | dic e => exact .base (.dK e)
theorem kitL_str : ∀ n ∈ tyNs, kitB n "str" = some (decide (n = "str")) := by decide +kernel
theorem kit_str (d : PyData) : kitB (tyN d) "str" = some (decide (tyN d = "str")) := kitL_str _ (tyN_mem d)
theorem kitL_tuple : ∀ n ∈ tyNs, kitB n "tuple" = some (decide (n = "tuple")) := by decide +kernel
theorem kit_tuple (d : PyData) : kitB (tyN d) "tuple" = some (decide (tyN d = "tuple")) := kitL_tuple _ (tyN_mem d)
theorem kitL_list : ∀ n ∈ tyNs, kitB n "list" = some (decide (n = "list")) := by decide +kernel
theorem kit_list (d : PyData) : kitB (tyN d) "list" = some (decide (tyN d = "list")) := kitL_list _ (tyN_mem d)
def isStr (d : PyData) : Bool := decide (tyN d = "str")
def isTup (d : PyData) : Bool := decide (tyN d = "tuple")
/-- isinstance(x, str) and isinstance(x, tuple) of data -/
theorem isi_str {K : PySem.W.Frag} {H : Hp} {x : V} {d : PyData} {Q : VK} (h : Dq K H x d) (q : Q (.bl (isStr d)) H) : rIsi K [x, .ty "str"] H Q := ⟨x, .ty "str", _, _, _, rfl, .ty "str", tyx_of h, kit_ty (kit_str d), q⟩
theorem isi_tup {K : PySem.W.Frag} {H : Hp} {x : V} {d : PyData} {Q : VK} (h : Dq K H x d) (q : Q (.bl (isTup d)) H) : rIsi K [x, .ty "tuple"] H Q := ⟨x, .ty "tuple", _, _, _, rfl, .ty "tuple", tyx_of h, kit_ty (kit_tuple d), q⟩
/-! ### x == text, x of any kind -/
section
variable {A : Around} {s : Shared}
theorem dict_declines (l : Addr) (es : Array DictEntry) (n : Nat) (dd : Option Addr) (sl : Array (Option Value)) (b : Str) (u : Tok) :
    Meets (Builtin.«dict.__eq__» ⟨[.ref l, .str b u], []⟩) (fun _ R s => s.heap.get? l = some { cls := .type "dict", dict := dd, data := .dict es n, slots := sl } ∧ R (.ok (.ret .notImplemented)) s) :=
  .of_wp fun prog w A R s h => by
    obtain ⟨hl, h⟩ := h
    have ty : s.TypeIs (.ref l) "dict" := ⟨_, hl, rfl⟩
    show wpAny _ _ (Builtin.Dict.dictSlotArgs "__eq__" ⟨[.ref l, .str b u], []⟩ >>= _) _ _ s
    refine wpAny_bind ?_
    unfold Builtin.Dict.dictSlotArgs
    refine wpAny_bind (wpAny_notOrdered_dict ty ?_)
    show wpAny _ _ (pure (Value.ref l, Value.str b u)) _ _ s
    refine wpAny_pure ?_
    refine wpAny_bind (wpAny_isInstance (T := "str") (typeIs_str s b u) PySem.F.sub_str_dict ?_)
    simp only [Bool.not_false, if_true]
    exact wpAny_bind (wpAny_rule (wpAny_pure ⟨_, rfl, h⟩))
theorem str_declines (l : Addr) (es : Array DictEntry) (n : Nat) (dd : Option Addr) (sl : Array (Option Value)) (b : Str) (u : Tok) :
    Meets (Builtin.«str.__eq__» ⟨[.str b u, .ref l], []⟩) (fun _ R s => s.heap.get? l = some { cls := .type "dict", dict := dd, data := .dict es n, slots := sl } ∧ R (.ok (.ret .notImplemented)) s) :=
  .of_wp fun prog w A R s h => by
    obtain ⟨hp, g, d, tk, os⟩ := s
    obtain ⟨hl, h⟩ := h
    have look := hl
    wp_walk using wpAny_loadPart' hl, wpAny_load hl
    exact ⟨_, rfl, h⟩
theorem dict_rc {l : Addr} {es : Array DictEntry} {n : Nat} (b : Str) (u : Tok) (hl : ∃ o, s.heap.get? l = some o ∧ o.cls = .type "dict" ∧ o.data = .dict es n) (hu : A.units < cLine) : SeqAt.RcAt A s (.ref l) (.str b u) false := fun prog w E Q h => by
  obtain ⟨⟨cls, dd, data, sl⟩, ho, hc, hd⟩ := hl
  obtain rfl : cls = .type "dict" := hc
  obtain rfl : data = .dict es n := hd
  exact SeqAt.rc_eq_decline_or (k := false) ⟨_, ho, rfl⟩ (typeIs_str s b u) (by decide) PySem.F.sub_str_dict PySem.F.slot_dict_eq PySem.F.slot_str_eq_refl
    (fun _ hq => call_meets PySem.F.slot_dict_eq ⟨_, ho, rfl⟩ PySem.F.entry_dict_eq (PySem.F.args_dict_eq_2 _ _) (dict_declines l es n dd sl b u) ⟨ho, hq⟩)
    (fun _ hq => call_meets PySem.F.slot_str_eq_refl (typeIs_str s b u) PySem.F.entry_str_eq (PySem.F.args_str_eq_2 _ _) (str_declines l es n dd sl b u) ⟨ho, hq⟩)
    (fun _ hq => wpAny_of_eq (rfl : isSame (.ref l) (.str b u) = pure false) hq) (.inr hu) h
end
/-- x == y, y a text, x data of any kind -/
def rEqS (K : PySem.W.Frag) : R2 := fun x y H Q => (∃ d, Dq K H x d) ∧ (∃ z, y = .str z) ∧ Q (.bl (decide (x = y))) H
theorem op_eqS {X : Cx} (hu : X.A.units + 64 < cLine) : OpR X (compareOp .Eq) (rEqS X.K) := by
  intro pins s σ H x y v u Q I rx ry h
  obtain ⟨⟨d, hd⟩, ⟨z, rfl⟩, q⟩ := h
  have hu0 : X.A.units < cLine := by omega
  by_cases hs : scal x (.str z) = true
  · exact op_eq pins s σ H x _ v u Q I rx ry ⟨hs, q⟩
  · obtain ⟨t, rfl⟩ := ry
    have no : ∀ a : Addr, x = .ref a → Q (.bl false) H := fun a e => by
      subst e
      have ne : decide (V.ref a = V.str z) = false := decide_eq_false fun q => nomatch q
      rw [ne] at q; exact q
    cases hd with
    | non => exact absurd rfl hs
    | bl b => exact absurd rfl hs
    | int i => exact absurd rfl hs
    | str w => exact absurd rfl hs
    | lst hq _ =>
      cases rx
      obtain ⟨its, _, ⟨o, n, ho, hc, _, hdd⟩, _⟩ := I.list hq
      exact SeqAt.RcAt.list_str z t ⟨o, ho, hc, n, hdd⟩ hu0 _ _ _ _ ⟨.bl false, H, I, rfl, no _ rfl⟩
    | tup hq _ =>
      cases rx
      obtain ⟨its, _, ⟨o, ho, hc, n, hdd⟩, _⟩ := I.tuple hq
      exact SeqAt.RcAt.tuple_str z t ⟨o, ho, hc, n, hdd⟩ hu0 _ _ _ _ ⟨.bl false, H, I, rfl, no _ rfl⟩
    | dic hq =>
      cases rx
      obtain ⟨_, o, n, ho, hc, hdd⟩ := not_sys I hq
      exact dict_rc z t ⟨o, ho, hc, hdd⟩ hu0 _ _ _ _ ⟨.bl false, H, I, rfl, no _ rfl⟩
/-! ### s.ljust(n, sign) -/
theorem mt_ljust3 {X : Cx} : MtR X "str.ljust" (fun x xs H Q => ∃ (a : Str) (i : Int) (f : Str), x = .str a ∧ xs = [.int i, .str f] ∧ PadOk i = true ∧ f.length = 1 ∧ Q (.str (Txt.ljustF a i (f.cps.getD 0 0))) H) := by
  intro pins s σ H x xs v us Q I rx rs h
  obtain ⟨a, i, f, rfl, rfl, hp, hf, q⟩ := h
  obtain ⟨t, rfl⟩ := rx
  cases rs with
  | cons r1 rs =>
    cases rs with
    | cons r2 rs =>
      cases rs
      obtain ⟨u1, rfl⟩ := r1
      obtain ⟨u2, rfl⟩ := r2
      exact PyProof.Rows.ljust_fill hp hf fun t1 k => ⟨.str (Txt.ljustF a i (f.cps.getD 0 0)), H, I.tok k, ⟨t1, rfl⟩, q⟩
end EL
/-! tuple(zip(a, b)) of two texts of one length: each pair handed out stays in hand. -/
namespace EL
open PySem PySem.Spec PyProof.Rows L2
section
variable {prog : Program} {w : World} {A : Around} {E : Value → Shared → Prop} {s : Shared} {z TI TO T i1 i2 : Addr} {fp1 fp2 : List Addr} {n1 n2 i : Nat} {P1 P2 : Nat → Value → Prop} {St1 St2 : Nat → Heap → Prop} {f : Bool} {oT : Obj}
theorem held_item {Q : Value → Shared → Prop} (S : ZipSep2 z TI TO i1 i2 fp1 fp2) (D1 : Draws prog w A i1 fp1 n1 P1 St1) (D2 : Draws prog w A i2 fp2 n2 P2 St2)
    (hz : IsZipHeld s.heap z TI TO T f) (hT : s.heap.get? T = some oT) (hTI : IsTupOf2 s.heap TI (.ref i1) (.ref i2)) (st1 : St1 i s.heap) (st2 : St2 i s.heap) (lt1 : i < n1) (lt2 : i < n2)
    (hQ : ∀ x1 x2 h' tk, P1 i x1 → P2 i x2 → IsZipHeld h' z TI TO T true → St1 (i + 1) h' → St2 (i + 1) h' → IsTupOf2 h' s.heap.objs.size x1 x2 → h'.objs.size = s.heap.objs.size + 1 →
      (∀ c o, c ≠ z → c ≠ i1 → c ≠ i2 → s.heap.get? c = some o → h'.get? c = some o) → Q (.ref s.heap.objs.size) { s with heap := h', toks := tk }) :
    wpAny (model prog w) A (Builtin.«zip.__next__» ⟨[.ref z], []⟩) (fun fin s' => ∃ v, fin = .done (.ret v) ∧ Q v s') E s := by
  obtain ⟨hp, g, d, tk0, os⟩ := s
  show wpAny _ _ (field (.ref z) 2 >>= _) _ _ _
  refine wpAny_bind (wpAny_field hz rfl (x := .bool false) rfl ?_)
  show wpAny _ _ (field (.ref z) 3 >>= _) _ _ _
  refine wpAny_bind (wpAny_field hz rfl (x := .ref TI) rfl ?_)
  refine wpAny_bind (wpAny_seqItems hTI rfl ?_)
  show wpAny _ _ (Builtin.SmallTypes.ownedTupleIsFree (.ref z) >>= _) _ _ _
  refine wpAny_bind (wpAny_tupleHeld_zip hz hT fun g1 z1 e1 => ?_)
  replace e1 : Heap.SameBut z hp g1 := e1
  simp only [Bool.false_eq_true, if_false]
  refine wpAny_bind ?_
  rw [← Array.forIn_toList]
  simp only [List.forIn_cons, List.forIn_nil]
  refine wpAny_bind (wpAny_bind (wpAny_holding ?_))
  show wpAny _ _ (Builtin.SmallTypes.nextOf (.ref i1) >>= _) _ _ ⟨g1, g, d, tk0, os⟩
  refine wpAny_bind (D1.item i _ _ _ lt1 (D1.over st1 e1 S.zf1) fun x1 g2 tk1 p1 s1 e2 => wpAny_pure ?_)
  replace e2 : Heap.SameBut i1 g1 g2 := e2
  refine wpAny_pure ?_
  refine wpAny_bind (wpAny_bind (wpAny_holding ?_))
  show wpAny _ _ (Builtin.SmallTypes.nextOf (.ref i2) >>= _) _ _ ⟨g2, g, d, tk1, os⟩
  refine wpAny_bind (D2.item i _ _ _ lt2 (D2.over (D2.over st2 e1 S.zf2) e2 S.sep1_2) fun x2 g3 tk2 p2 s2 e3 => wpAny_pure ?_)
  replace e3 : Heap.SameBut i2 g2 g3 := e3
  refine wpAny_pure (wpAny_pure ?_)
  show wpAny _ _ (newTuple [x1, x2] >>= _) _ _ _
  refine wpAny_bind (wpAny_newTuple ?_)
  have sz : g3.objs.size = hp.objs.size := by rw [e3.1, e2.1, e1.1]
  have z3 : IsZipHeld g3 z TI TO T true := e3.extBut _ _ S.zi2 (e2.extBut _ _ S.zi1 z1)
  have kp : ∀ c o, c ≠ z → c ≠ i1 → c ≠ i2 → hp.get? c = some o → g3.get? c = some o := fun c o c0 c1 c2 e => e3.extBut _ _ c2 (e2.extBut _ _ c1 (e1.extBut _ _ c0 e))
  have t1 : St1 (i + 1) g3 := D1.over s1 e3 S.sep2_1
  refine wpAny_pure ⟨_, rfl, ?_⟩
  show Q (.ref g3.objs.size) ⟨g3.push { cls := .type "tuple", data := .seq #[x1, x2] }, g, d, tk2, os⟩
  have hp1 : IsTupOf2 (g3.push { cls := .type "tuple", data := .seq #[x1, x2] }) g3.objs.size x1 x2 := Heap.get?_push_size _ rfl
  have hp2 : (g3.push { cls := .type "tuple", data := .seq #[x1, x2] }).objs.size = g3.objs.size + 1 := Heap.size_push ..
  rw [sz] at hp1 hp2 ⊢
  exact hQ x1 x2 _ tk2 p1 p2 (Heap.get?_push_of_some _ z3) (D1.frame _ _ _ t1 fun b _ o e => Heap.get?_push_of_some _ e) (D2.frame _ _ _ s2 fun b _ o e => Heap.get?_push_of_some _ e) hp1 hp2 fun c o c0 c1 c2 e => Heap.get?_push_of_some _ (kp c o c0 c1 c2 e)
/-- both have come to their ends -/
theorem held_end {Q : Fin → Shared → Prop} (S : ZipSep2 z TI TO i1 i2 fp1 fp2) (D1 : Draws prog w A i1 fp1 n1 P1 St1)
    (hz : IsZipHeld s.heap z TI TO T f) (hT : s.heap.get? T = some oT) (hTI : IsTupOf2 s.heap TI (.ref i1) (.ref i2)) (st1 : St1 n1 s.heap)
    (hE : ∀ h' e, (∀ c o, c ≠ z → c ≠ i1 → c ≠ i2 → s.heap.get? c = some o → h'.get? c = some o) → (∃ o, h'.get? e = some o ∧ o.cls = .type "StopIteration") → E (.ref e) { s with heap := h' }) :
    wpAny (model prog w) A (Builtin.«zip.__next__» ⟨[.ref z], []⟩) Q E s := by
  obtain ⟨hp, g, d, tk0, os⟩ := s
  show wpAny _ _ (field (.ref z) 2 >>= _) _ _ _
  refine wpAny_bind (wpAny_field hz rfl (x := .bool false) rfl ?_)
  show wpAny _ _ (field (.ref z) 3 >>= _) _ _ _
  refine wpAny_bind (wpAny_field hz rfl (x := .ref TI) rfl ?_)
  refine wpAny_bind (wpAny_seqItems hTI rfl ?_)
  show wpAny _ _ (Builtin.SmallTypes.ownedTupleIsFree (.ref z) >>= _) _ _ _
  refine wpAny_bind (wpAny_tupleHeld_zip hz hT fun g1 z1 e1 => ?_)
  replace e1 : Heap.SameBut z hp g1 := e1
  simp only [Bool.false_eq_true, if_false]
  refine wpAny_bind ?_
  rw [← Array.forIn_toList]
  simp only [List.forIn_cons, List.forIn_nil]
  refine wpAny_bind (wpAny_bind (wpAny_holding ?_))
  show wpAny _ _ (Builtin.SmallTypes.nextOf (.ref i1) >>= _) _ _ ⟨g1, g, d, tk0, os⟩
  refine wpAny_bind (D1.done ⟨g1, g, d, tk0, os⟩ _ _ (D1.over st1 e1 S.zf1) fun g2 e e2 he => ?_)
  replace e2 : Heap.ExtBut i1 g1 g2 := e2
  exact hE g2 e (fun c o c0 c1 _ x => e2 _ _ c1 (e1.extBut _ _ c0 x)) he
end
section
variable {prog : Program} {w : World} {A : Around} {E : Value → Shared → Prop} {s : Shared} {z TI TO T i1 i2 : Addr} {fp1 fp2 : List Addr} {n1 n2 i : Nat} {P1 P2 : Nat → Value → Prop} {St1 St2 : Nat → Heap → Prop} {f : Bool} {oT : Obj}
theorem next_held {Q : Option Value → Shared → Prop} (S : ZipSep2 z TI TO i1 i2 fp1 fp2) (D1 : Draws prog w A.in1 i1 fp1 n1 P1 St1) (D2 : Draws prog w A.in1 i2 fp2 n2 P2 St2)
    (hz : IsZipHeld s.heap z TI TO T f) (hT : s.heap.get? T = some oT) (hTI : IsTupOf2 s.heap TI (.ref i1) (.ref i2)) (st1 : St1 i s.heap) (st2 : St2 i s.heap) (lt1 : i < n1) (lt2 : i < n2)
    (hQ : ∀ x1 x2 h' tk, P1 i x1 → P2 i x2 → IsZipHeld h' z TI TO T true → St1 (i + 1) h' → St2 (i + 1) h' → IsTupOf2 h' s.heap.objs.size x1 x2 → h'.objs.size = s.heap.objs.size + 1 →
      (∀ c o, c ≠ z → c ≠ i1 → c ≠ i2 → s.heap.get? c = some o → h'.get? c = some o) → Q (some (.ref s.heap.objs.size)) { s with heap := h', toks := tk }) :
    wpAny (model prog w) A (pyNext (.ref z)) Q E s := by
  have ty : s.TypeIs (.ref z) "zip" := ⟨_, hz, rfl⟩
  unfold pyNext
  exact wpAny_bind (wpAny_attempt (wpAny_callSpecial?_slot (name := Str.ofString "__next__") ty PySem.F.slot_zip_next
    (wpAny_call_entry PySem.F.slot_zip_next ty PySem.F.entry_zip_next
      (held_item S D1 D2 hz hT hTI st1 st2 lt1 lt2 fun x1 x2 h' tk a b c d e f g k => wpAny_pure (hQ x1 x2 h' tk a b c d e f g k)) (PySem.F.args_zip_next_1 _))))
theorem next_held_end {Q : Option Value → Shared → Prop} (S : ZipSep2 z TI TO i1 i2 fp1 fp2) (D1 : Draws prog w A.in1 i1 fp1 n1 P1 St1)
    (hz : IsZipHeld s.heap z TI TO T f) (hT : s.heap.get? T = some oT) (hTI : IsTupOf2 s.heap TI (.ref i1) (.ref i2)) (st1 : St1 n1 s.heap)
    (hQ : ∀ h', (∀ c o, c ≠ z → c ≠ i1 → c ≠ i2 → s.heap.get? c = some o → h'.get? c = some o) → Q none { s with heap := h' }) : wpAny (model prog w) A (pyNext (.ref z)) Q E s := by
  have ty : s.TypeIs (.ref z) "zip" := ⟨_, hz, rfl⟩
  unfold pyNext
  refine wpAny_bind (wpAny_attempt (wpAny_callSpecial?_slot (name := Str.ofString "__next__") ty PySem.F.slot_zip_next
    (wpAny_call_entry PySem.F.slot_zip_next ty PySem.F.entry_zip_next (held_end S D1 hz hT hTI st1 fun h' e hk he => ?_) (PySem.F.args_zip_next_1 _))))
  obtain ⟨o, ho, hc⟩ := he
  refine wpAny_bind (wpAny_isInstance (T := "StopIteration") (b := true) ⟨o, ho, hc⟩ isSubtype_stop ?_)
  exact wpAny_pure (hQ _ hk)
end
end EL
namespace EL
open PySem PySem.Spec PyProof.Rows L2
/-- the items so far: pairs of signs, each a tuple of its own -/
def PairsAt (a b : Str) (acc : Array Value) (no : List Addr) (lo : Nat) (h : Heap) : Prop :=
  ∀ (j : Nat) (v : Value), acc[j]? = some v → ∃ (T : Addr) (c1 c2 : Nat) (t1 t2 : Tok), v = Value.ref T ∧ T ∉ no ∧ lo ≤ T ∧ IsTupOf2 h T (.str ⟨#[c1]⟩ t1) (.str ⟨#[c2]⟩ t2) ∧ a.cps[j]? = some c1 ∧ b.cps[j]? = some c2
theorem PairsAt.keep {a b : Str} {acc : Array Value} {no : List Addr} {lo : Nat} {h h' : Heap} (x : PairsAt a b acc no lo h) (k : ∀ c o, c ∉ no → h.get? c = some o → h'.get? c = some o) : PairsAt a b acc no lo h' := fun j v e => by
  obtain ⟨T, c1, c2, t1, t2, e1, e2, e0, e3, e4⟩ := x j v e
  exact ⟨T, c1, c2, t1, t2, e1, e2, e0, k T _ e2 e3, e4⟩
/-- the zip, its cells, the list that is filled -/
structure ZS (z TI TO i1 i2 S : Addr) (a b : Str) (ta tb : Tok) (h0 : Heap) (i : Nat) (acc : Array Value) (h : Heap) : Prop where
  zip : (i = 0 ∧ IsZip h z TI TO .none) ∨ ∃ T f oT, IsZipHeld h z TI TO T f ∧ h.get? T = some oT ∧ T ∉ [z, TO, i1, i2, S]
  ti : IsTupOf2 h TI (.ref i1) (.ref i2)
  tot : ∃ a1 a2, IsTupOf2 h TO a1 a2
  s1 : h.IsStrIter i1 (strIterType a) a ta i
  s2 : h.IsStrIter i2 (strIterType b) b tb i
  lst : ∃ c, h.get? S = some { cls := .type "list", dict := none, data := .seq acc c, slots := #[] }
  size : acc.size = i
  its : PairsAt a b acc [z, TO, i1, i2, S] h0.objs.size h
  old : ∀ c o, h0.get? c = some o → h.get? c = some o
section
variable {prog : Program} {w : World} {A : Around} {z TI TO i1 i2 S : Addr} {a b : Str} {ta tb : Tok} {h0 : Heap}
theorem zs_step {i : Nat} {acc : Array Value} {h h' : Heap} {T T0 : Addr} {c1 c2 : Nat} {t1 t2 : Tok} {f : Bool} (Z : ZS z TI TO i1 i2 S a b ta tb h0 i acc h) (sep : ZipSep2 z TI TO i1 i2 [i1] [i2]) (hS : S ∉ [z, TI, TO, i1, i2]) (hn : ∀ c ∈ [z, TI, TO, i1, i2, S], h0.objs.size ≤ c) (hT : h.objs.size ≤ T)
    (hz : IsZipHeld h' z TI TO T0 f) (hT0 : T0 = T ∨ (∃ o, h.get? T0 = some o) ∧ T0 ∉ [z, TO, i1, i2, S]) (tot : ∃ a1 a2, IsTupOf2 h' TO a1 a2) (n1 : h'.IsStrIter i1 (strIterType a) a ta (i + 1)) (n2 : h'.IsStrIter i2 (strIterType b) b tb (i + 1)) (nt : IsTupOf2 h' T (.str ⟨#[c1]⟩ t1) (.str ⟨#[c2]⟩ t2))
    (e1 : a.cps[i]? = some c1) (e2 : b.cps[i]? = some c2) (k : ∀ c o, c ≠ z → c ≠ TO → c ≠ i1 → c ≠ i2 → h.get? c = some o → h'.get? c = some o) :
    (∃ c, h'.get? S = some { cls := .type "list", dict := none, data := .seq acc c, slots := #[] }) ∧ ∀ h'' : Heap, (∃ c, h''.get? S = some { cls := .type "list", dict := none, data := .seq (acc.push (.ref T)) c, slots := #[] }) →
      (∀ c o, c ≠ S → h'.get? c = some o → h''.get? c = some o) → ZS z TI TO i1 i2 S a b ta tb h0 (i + 1) (acc.push (.ref T)) h'' := by
  simp only [List.mem_cons, List.not_mem_nil, or_false, not_or] at hS
  obtain ⟨hS1, hS2, hS3, hS4, hS5⟩ := hS
  obtain ⟨cS, lS⟩ := Z.lst
  have lt : ∀ {c o}, h.get? c = some o → T ≠ c := fun e q => by subst q; exact absurd (Heap.lt_size e) (Nat.not_lt.mpr hT)
  obtain ⟨o1, ho1, _⟩ := Z.s1
  obtain ⟨o2, ho2, _⟩ := Z.s2
  obtain ⟨y1, y2, hto⟩ := Z.tot
  have zin : ∃ o, h.get? z = some o := by
    rcases Z.zip with ⟨_, q⟩ | ⟨_, _, _, q, _⟩ <;> exact ⟨_, q⟩
  obtain ⟨oz, hoz⟩ := zin
  have Tn : T ∉ [z, TO, i1, i2, S] := by
    simp only [List.mem_cons, List.not_mem_nil, or_false, not_or]
    exact ⟨lt hoz, lt hto, lt ho1, lt ho2, lt lS⟩
  have TS : T ≠ S := lt lS
  refine ⟨⟨cS, k S _ hS1 hS3 hS4 hS5 lS⟩, fun h'' l'' k'' => ?_⟩
  have kk : ∀ c o, c ∉ [z, TO, i1, i2, S] → h.get? c = some o → h''.get? c = some o := fun c o hc e => by
    simp only [List.mem_cons, List.not_mem_nil, or_false, not_or] at hc
    exact k'' c o hc.2.2.2.2 (k c o hc.1 hc.2.1 hc.2.2.1 hc.2.2.2.1 e)
  have held : ∃ T f oT, IsZipHeld h'' z TI TO T f ∧ h''.get? T = some oT ∧ T ∉ [z, TO, i1, i2, S] := by
    rcases hT0 with e | ⟨⟨o, e⟩, m⟩
    · subst e
      exact ⟨T0, f, _, k'' z _ (Ne.symm hS1) hz, k'' T0 _ TS nt, Tn⟩
    · exact ⟨T0, f, _, k'' z _ (Ne.symm hS1) hz, kk T0 o m e, m⟩
  refine ⟨.inr held, k'' TI _ (Ne.symm hS2) (k TI _ sep.TIz sep.TITO sep.TIi1 sep.TIi2 Z.ti), ?_, ?_, ?_, l'', ?_, ?_, fun c o e => ?_⟩
  · obtain ⟨a1, a2, q⟩ := tot
    exact ⟨a1, a2, k'' TO _ (Ne.symm hS3) q⟩
  · obtain ⟨o, q, r⟩ := n1
    exact ⟨o, k'' i1 _ (Ne.symm hS4) q, r⟩
  · obtain ⟨o, q, r⟩ := n2
    exact ⟨o, k'' i2 _ (Ne.symm hS5) q, r⟩
  · rw [Array.size_push, Z.size]
  · intro j v e
    rw [Array.getElem?_push] at e
    split at e
    · rename_i q
      rw [Z.size] at q
      obtain rfl := Option.some.inj e
      subst q
      exact ⟨T, c1, c2, t1, t2, rfl, Tn, Nat.le_trans (Nat.le_trans (hn z List.mem_cons_self) (Nat.le_of_lt (Heap.lt_size hoz))) hT, k'' T _ TS nt, e1, e2⟩
    · exact (Z.its.keep kk) j v e
  · refine kk c o (fun m => ?_) (Z.old c o e)
    have q := hn c (by simp only [List.mem_cons, List.not_mem_nil, or_false] at m ⊢; rcases m with m | m | m | m | m <;> simp [m])
    exact absurd (Heap.lt_size e) (Nat.not_lt.mpr q)
theorem zip_loop {R : Result → Shared → Prop} {n : Nat} {res : Value} (hh : A.handled = none) (ha : a.cps.size = n) (hb : b.cps.size = n) (hn : n < sizeLine) (sep : ZipSep2 z TI TO i1 i2 [i1] [i2]) (hS : S ∉ [z, TI, TO, i1, i2]) (hn0 : ∀ c ∈ [z, TI, TO, i1, i2, S], h0.objs.size ≤ c) :
    ∀ (k i : Nat) (s : Shared) (acc : Array Value), n - i = k → i ≤ n → ZS z TI TO i1 i2 S a b ta tb h0 i acc s.heap →
      (∀ acc' h' tk, acc'.size = n → PairsAt a b acc' [z, TO, i1, i2, S] h0.objs.size h' → (∃ c, h'.get? S = some { cls := .type "list", dict := none, data := .seq acc' c, slots := #[] }) → (∀ c o, h0.get? c = some o → h'.get? c = some o) → R (.ok (.ret res)) { s with heap := h', toks := tk }) →
      codeAny (model prog w) A (.builtin "list.extend.loop" ⟨[.ref S, .ref z, res], []⟩) R s := by
  have D1 : Draws prog w A.in1.in1 i1 [i1] a.cps.size _ _ := Draws.text (A := A.in1.in1) hh i1 a ta
  have D2 : Draws prog w A.in1.in1 i2 [i2] b.cps.size _ _ := Draws.text (A := A.in1.in1) hh i2 b tb
  rw [ha] at D1
  rw [hb] at D2
  have hS' := hS
  simp only [List.mem_cons, List.not_mem_nil, or_false, not_or] at hS'
  obtain ⟨hS1, hS2, hS3, hS4, hS5⟩ := hS'
  intro k
  induction k with
  | zero =>
    intro i s acc hk hi Z hR
    have hin : i = n := by omega
    subst hin
    refine codeAny_builtin PySem.F.entry_extend_loop ?_
    rw [Around.under_plainId PySem.F.plain_extend_loop _]
    show wpAny _ A.in1 (pyNext (.ref z) >>= _) _ _ s
    have fin : ∀ h' tk, (∀ c o, c ≠ z → c ≠ TO → c ≠ i1 → c ≠ i2 → s.heap.get? c = some o → h'.get? c = some o) → R (.ok (.ret res)) { s with heap := h', toks := tk } := fun h' tk kp => by
      have kk : ∀ c o, c ∉ [z, TO, i1, i2, S] → s.heap.get? c = some o → h'.get? c = some o := fun c o hc e => by
        simp only [List.mem_cons, List.not_mem_nil, or_false, not_or] at hc
        exact kp c o hc.1 hc.2.1 hc.2.2.1 hc.2.2.2.1 e
      obtain ⟨cS, lS⟩ := Z.lst
      refine hR acc h' tk Z.size (Z.its.keep kk) ⟨cS, kp S _ hS1 hS3 hS4 hS5 lS⟩ fun c o e => kk c o (fun m => ?_) (Z.old c o e)
      have q := hn0 c (by simp only [List.mem_cons, List.not_mem_nil, or_false] at m ⊢; rcases m with m | m | m | m | m <;> simp [m])
      exact absurd (Heap.lt_size e) (Nat.not_lt.mpr q)
    rcases Z.zip with ⟨_, hz⟩ | ⟨T, f, oT, hz, hT, hTn⟩
    · obtain ⟨y1, y2, hto⟩ := Z.tot
      exact wpAny_bind (wpAny_pyNext_zipD2_end sep D1 D2 hz Z.ti hto Z.s1 Z.s2 (Nat.le_refl _) (Nat.le_refl _) (.inl rfl) fun h' tk kp => wpAny_pure (fin h' tk kp))
    · exact wpAny_bind (next_held_end sep D1 hz hT Z.ti Z.s1 fun h' kp => wpAny_pure (fin h' s.toks fun c o c0 _ c1 c2 e => kp c o c0 c1 c2 e))
  | succ k ih =>
    intro i s acc hk hi Z hR
    have hlt : i < n := by omega
    refine codeAny_builtin PySem.F.entry_extend_loop ?_
    rw [Around.under_plainId PySem.F.plain_extend_loop _]
    show wpAny _ A.in1 (pyNext (.ref z) >>= _) _ _ s
    have step : ∀ x1 x2 h' tk f T0, (T0 = s.heap.objs.size ∨ (∃ o, s.heap.get? T0 = some o) ∧ T0 ∉ [z, TO, i1, i2, S]) → (∃ c u, a.cps[i]? = some c ∧ x1 = .str ⟨#[c]⟩ u) → (∃ c u, b.cps[i]? = some c ∧ x2 = .str ⟨#[c]⟩ u) → IsZipHeld h' z TI TO T0 f → (∃ a1 a2, IsTupOf2 h' TO a1 a2) →
        h'.IsStrIter i1 (strIterType a) a ta (i + 1) → h'.IsStrIter i2 (strIterType b) b tb (i + 1) → IsTupOf2 h' s.heap.objs.size x1 x2 → (∀ c o, c ≠ z → c ≠ TO → c ≠ i1 → c ≠ i2 → s.heap.get? c = some o → h'.get? c = some o) →
        wpAny (model prog w) A.in1 (updateSeq S (·.push (.ref s.heap.objs.size)) >>= fun _ => again (.builtin "list.extend.loop" ⟨[.ref S, .ref z, res], []⟩)) (fun fin s' => match fin with | .done f => R (.ok f) s' | .again c' => c'.quiet = true ∧ codeAny (model prog w) A c' R s') (fun e s' => R (.error e) s') { s with heap := h', toks := tk } := by
      rintro x1 x2 h' tk f T0 hT0 ⟨c1, t1, e1, rfl⟩ ⟨c2, t2, e2, rfl⟩ hz tot n1 n2 nt kp
      obtain ⟨⟨cS, lS⟩, next⟩ := zs_step Z sep hS hn0 (Nat.le_refl _) hz hT0 tot n1 n2 nt e1 e2 kp
      refine wpAny_bind (wpAny_updateSeq (s := { s with heap := h', toks := tk }) lS rfl (wpAny_pure ⟨plainId_quiet PySem.F.plain_extend_loop _, ?_⟩) (by rw [Z.size]; omega) (by show (acc.push _).size ≤ sizeLine + 1; rw [Array.size_push, Z.size]; omega))
      refine ih (i + 1) _ (acc.push (.ref s.heap.objs.size)) (by omega) hlt (next _ ⟨_, Heap.get?_update_self _ lS rfl⟩ fun c o hc e => (Heap.get?_update_other _ _ (Ne.symm hc)).trans e) fun acc' h2 tk2 y1 y2 y3 y4 => hR acc' h2 tk2 y1 y2 y3 y4
    rcases Z.zip with ⟨_, hz⟩ | ⟨T, f, oT, hz, hT, hTn⟩
    · obtain ⟨y1, y2, hto⟩ := Z.tot
      exact wpAny_bind (wpAny_pyNext_zipD2_item sep D1 D2 hz Z.ti hto Z.s1 Z.s2 hlt hlt fun x1 x2 h' tk p1 p2 q1 q2 q3 q4 q5 _ kp => step x1 x2 h' tk false _ (.inl rfl) p1 p2 q1 ⟨_, _, q2⟩ q3 q4 q5 kp)
    · obtain ⟨y1, y2, hto⟩ := Z.tot
      have zTO := sep.TOz
      exact wpAny_bind (next_held sep D1 D2 hz hT Z.ti Z.s1 Z.s2 hlt hlt fun x1 x2 h' tk p1 p2 q1 q3 q4 q5 _ kp => step x1 x2 h' tk true T (.inr ⟨⟨_, hT⟩, hTn⟩) p1 p2 q1 ⟨_, _, kp TO _ sep.TOz sep.Ti1 sep.Ti2 hto⟩ q3 q4 q5 fun c o c0 _ c1 c2 e => kp c o c0 c1 c2 e)
end
end EL
namespace EL
open PySem PySem.Spec PyProof.Rows L2
theorem zip_len_none : typeLookup (.type "zip") "__len__" = pure none := by rw [typeLookup_type, builtinLookup_eq_fast]; kernel_rfl
theorem zip_hint_none : typeLookup (.type "zip") "__length_hint__" = pure none := by rw [typeLookup_type, builtinLookup_eq_fast]; kernel_rfl
/-- a zip of two texts that was just made over h0 -/
structure ZNew (z TI TO i1 i2 : Addr) (a b : Str) (ta tb : Tok) (h0 h : Heap) : Prop where
  zip : IsZip h z TI TO .none
  ti : IsTupOf2 h TI (.ref i1) (.ref i2)
  tot : IsTupOf2 h TO .none .none
  s1 : h.IsStrIter i1 (strIterType a) a ta 0
  s2 : h.IsStrIter i2 (strIterType b) b tb 0
  old : ∀ c o, h0.get? c = some o → h.get? c = some o
  new : ∀ c ∈ [z, TI, TO, i1, i2], h0.objs.size ≤ c
  le : h0.objs.size ≤ h.objs.size
section
variable {prog : Program} {w : World} {A : Around} {E : Value → Shared → Prop} {s : Shared} {z TI TO i1 i2 : Addr} {a b : Str} {ta tb : Tok} {h0 : Heap} {n : Nat}
theorem collect_zip {Q : List Value → Shared → Prop} (hh : A.handled = none) (ha : a.cps.size = n) (hb : b.cps.size = n) (hn : n < sizeLine) (sep : ZipSep2 z TI TO i1 i2 [i1] [i2]) (Z : ZNew z TI TO i1 i2 a b ta tb h0 s.heap)
    (hQ : ∀ (h' : Heap) (tk : Nat) (acc : Array Value), acc.size = n → (∃ no, PairsAt a b acc no h0.objs.size h') → (∀ c o, h0.get? c = some o → h'.get? c = some o) → h0.objs.size ≤ h'.objs.size → Q acc.toList { s with heap := h', toks := tk }) :
    wpAny (model prog w) A (collect (.ref z)) Q E s := by
  obtain ⟨o1, ho1, r1⟩ := Z.s1
  obtain ⟨o2, ho2, r2⟩ := Z.s2
  have nS : ∀ {c o}, s.heap.get? c = some o → s.heap.objs.size ≠ c := fun e => Nat.ne_of_gt (Heap.lt_size e)
  have hSz := nS Z.zip
  have hSm : s.heap.objs.size ∉ [z, TI, TO, i1, i2] := by
    simp only [List.mem_cons, List.not_mem_nil, or_false, not_or]
    exact ⟨nS Z.zip, nS Z.ti, nS Z.tot, nS ho1, nS ho2⟩
  unfold collect
  refine wpAny_bind (wpAny_runValue (codeAny_builtin PySem.F.entry_proto_collect ?_))
  rw [Around.under_plainId PySem.F.plain_proto_collect _]
  show wpAny _ A.in1 (newList [] >>= fun l => again (.builtin "list.__iadd__" ⟨[l, .ref z], []⟩)) _ _ s
  refine wpAny_bind (wpAny_newObj_type ?_)
  refine wpAny_pure ⟨plainId_quiet PySem.F.plain_list_iadd _, codeAny_builtin PySem.F.entry_list_iadd ?_⟩
  rw [Around.under_plainId PySem.F.plain_list_iadd _]
  generalize hG : s.heap.push { cls := .type "list", data := .seq ([] : List Value).toArray } = G
  have up : ∀ c o, s.heap.get? c = some o → G.get? c = some o := fun c o e => by rw [← hG]; exact Heap.get?_push_of_some _ e
  have lS : G.get? s.heap.objs.size = some { cls := .type "list", data := .seq ([] : List Value).toArray } := by rw [← hG]; exact Heap.get?_push_size _ rfl
  have ty : ({ s with heap := G } : Shared).TypeIs (.ref z) "zip" := ⟨_, up _ _ Z.zip, rfl⟩
  show wpAny _ A.in1 (Builtin.List.listExtendWith (.ref s.heap.objs.size) (.ref z) (.ref s.heap.objs.size)) _ _ _
  unfold Builtin.List.listExtendWith
  refine wpAny_bind (wpAny_typeOf ty ?_)
  have c1 : Builtin.List.listSameRef (.ref s.heap.objs.size) (.ref z) = false := by simp [Builtin.List.listSameRef, hSz]
  have c2 : (Value.type "zip" == Value.type "list") = false := by decide
  have c3 : (Value.type "zip" == Value.type "tuple") = false := by decide
  simp only [c1, c2, c3, Bool.or_false, Bool.false_eq_true, if_false]
  refine wpAny_bind (wpAny_pyIter_zip (s := { s with heap := G }) (up _ _ Z.zip) ?_)
  refine wpAny_bind (wpAny_holding ?_)
  unfold Builtin.List.listLengthHint
  refine wpAny_bind (wpAny_specialOf ty zip_len_none ?_)
  show wpAny _ A.in1 (specialOf (Value.ref z) (Str.ofString "__length_hint__") >>= _) _ _ _
  refine wpAny_bind (wpAny_specialOf ty zip_hint_none ?_)
  refine wpAny_pure ?_
  show wpAny _ A.in1 (rule "list.extend.makes-room" >>= fun _ => Builtin.List.listTouch (.ref s.heap.objs.size) >>= fun _ =>
    again (.builtin "list.extend.loop" ⟨[.ref s.heap.objs.size, .ref z, .ref s.heap.objs.size], []⟩)) _ _ _
  refine wpAny_bind (wpAny_rule (wpAny_bind ?_))
  show wpAny _ A.in1 (updateSeq s.heap.objs.size (·.push .none) >>= fun _ => updateSeq s.heap.objs.size (·.pop)) _ _ _
  refine wpAny_bind (wpAny_updateSeq lS rfl ?_)
  have l2 := Heap.get?_update_self (Obj.mapSeq (·.push Value.none)) lS rfl
  refine wpAny_updateSeq l2 rfl ?_
  have l3 := Heap.get?_update_self (Obj.mapSeq (·.pop)) l2 rfl
  generalize hK : (G.update s.heap.objs.size (Obj.mapSeq (·.push Value.none))).update s.heap.objs.size (Obj.mapSeq (·.pop)) = L at l3
  have oth : ∀ c o, s.heap.get? c = some o → L.get? c = some o := fun c o e => by
    rw [← hK]
    exact (Heap.get?_update_other _ _ (nS e)).trans ((Heap.get?_update_other _ _ (nS e)).trans (up c o e))
  have zs : ZS z TI TO i1 i2 s.heap.objs.size a b ta tb h0 0 #[] L := ⟨.inl ⟨rfl, oth _ _ Z.zip⟩, oth _ _ Z.ti, ⟨_, _, oth _ _ Z.tot⟩, ⟨o1, oth _ _ ho1, r1⟩, ⟨o2, oth _ _ ho2, r2⟩, ⟨_, l3⟩, rfl, fun j v e => by simp at e, fun c o e => oth c o (Z.old c o e)⟩
  refine wpAny_pure ⟨plainId_quiet PySem.F.plain_extend_loop _, zip_loop hh ha hb hn sep hSm (fun c m => ?_) n 0 _ #[] rfl (Nat.zero_le _) zs fun acc h' tk y1 y2 y3 y4 => ?_⟩
  · simp only [List.mem_cons, List.not_mem_nil, or_false] at m
    rcases m with m | m | m | m | m | m
    · exact Z.new c (by simp [m])
    · exact Z.new c (by simp [m])
    · exact Z.new c (by simp [m])
    · exact Z.new c (by simp [m])
    · exact Z.new c (by simp [m])
    · rw [m]; exact Z.le
  · obtain ⟨cS, y3⟩ := y3
    show wpAny _ A (load s.heap.objs.size >>= _) _ _ _
    refine wpAny_bind (wpAny_load y3 ?_)
    exact wpAny_pure (hQ h' tk acc y1 ⟨_, y2⟩ y4 (Nat.le_trans Z.le (Nat.le_of_lt (Heap.lt_size y3))))
theorem tuple_new_zip {Q₁ : Value → Shared → Prop} (hh : A.handled = none) (ha : a.cps.size = n) (hb : b.cps.size = n) (hn : n < sizeLine) (sep : ZipSep2 z TI TO i1 i2 [i1] [i2]) (Z : ZNew z TI TO i1 i2 a b ta tb h0 s.heap)
    (h : ∀ (h' : Heap) (tk : Nat) (acc : Array Value), acc.size = n → (∃ no, PairsAt a b acc no h0.objs.size h') → (∀ c o, h0.get? c = some o → h'.get? c = some o) → h0.objs.size ≤ h'.objs.size →
      Q₁ (.ref h'.objs.size) { s with heap := h'.push { cls := .type "tuple", data := .seq acc }, toks := tk }) :
    codeAny (model prog w) A (.call (.builtin "tuple.__new__") ⟨[.type "tuple", .ref z], []⟩) (wants Q₁ E) s := by
  refine codeAny_of_tree ?_
  show wpAny _ A.in1 (do checkBuiltinCall "tuple.__new__" ⟨[.type "tuple", .ref z], []⟩; again (.builtin "tuple.__new__" ⟨[.type "tuple", .ref z], []⟩)) _ _ s
  refine wpAny_bind (wpAny_of_eq (PySem.F.newCall_tuple_1 _) (wpAny_pure ⟨plainId_quiet PySem.F.plain_tuple_new _, codeAny_builtin PySem.F.entry_tuple_new ?_⟩))
  rw [Around.under_plainId PySem.F.plain_tuple_new _]
  have f1 := sub_tuple_self
  have f2 := init_tuple_lookup
  have f3 := madeHere_tuple
  have ty : s.TypeIs (.ref z) "zip" := ⟨_, Z.zip, rfl⟩
  have hh1 : A.in1.handled = none := hh
  wp_walk using wpAny_typeOf ty, collect_zip (A := A.in1) hh1 ha hb hn sep Z
  intro h' tk acc y1 y2 y3 y4
  show wpAny _ _ (Builtin.Tuple.tupleExact acc.toList.toArray >>= fun v => ret v) _ _ _
  unfold Builtin.Tuple.tupleExact
  refine wpAny_bind (wpAny_newObj_type ?_ (by show acc.toList.toArray.size ≤ sizeLine; simp only [Array.toArray_toList]; rw [y1]; omega))
  refine wpAny_pure ?_
  have e : acc.toList.toArray = acc := by simp
  rw [e]
  exact h h' tk acc y1 y2 y3 y4
theorem call_tuple_zip {Q : Value → Shared → Prop} (hh : A.handled = none) (ha : a.cps.size = n) (hb : b.cps.size = n) (hn : n < sizeLine) (sep : ZipSep2 z TI TO i1 i2 [i1] [i2]) (Z : ZNew z TI TO i1 i2 a b ta tb h0 s.heap)
    (hQ : ∀ (h' : Heap) (tk : Nat) (acc : Array Value), acc.size = n → (∃ no, PairsAt a b acc no h0.objs.size h') → (∀ c o, h0.get? c = some o → h'.get? c = some o) → h0.objs.size ≤ h'.objs.size →
      Q (.ref h'.objs.size) { s with heap := h'.push { cls := .type "tuple", data := .seq acc }, toks := tk }) :
    wpAny (model prog w) A (call (.type "tuple") [.ref z]) Q E s := by
  refine callType_codes (Q₁ := fun obj s₁ => s₁.TypeIs obj "tuple" ∧ Q obj s₁) PySem.F.called_tuple (PySem.F.typeCall_tuple_1 _) PySem.F.entry_object_init
    (tuple_new_zip (A := A.in1) hh ha hb hn sep Z fun h' tk acc y1 y2 y3 y4 => ⟨⟨_, Heap.get?_push_size _ rfl, rfl⟩, hQ h' tk acc y1 y2 y3 y4⟩) fun obj s₁ h₁ => ?_
  exact ⟨h₁.1, PySem.F.args_object_init_2 obj _, object_init_meets PySem.F.called_tuple.init.lookup PySem.F.called_tuple.made (by decide) prog w A.in1 _ s₁ ⟨h₁.1, rfl, h₁.2⟩⟩
end

/-! ### the rule -/
open Classical in
/-- what is tracked of a new pair of signs -/
noncomputable def pairHO (h : Heap) (c : Addr) : Option HO :=
  if x : ∃ q : Nat × Nat × Tok × Tok, IsTupOf2 h c (.str ⟨#[q.1]⟩ q.2.2.1) (.str ⟨#[q.2.1]⟩ q.2.2.2) then some (.tup [.str ⟨#[(Classical.choose x).1]⟩, .str ⟨#[(Classical.choose x).2.1]⟩]) else none
theorem pairHO_at {h : Heap} {c : Addr} {c1 c2 : Nat} {t1 t2 : Tok} (e : IsTupOf2 h c (.str ⟨#[c1]⟩ t1) (.str ⟨#[c2]⟩ t2)) : pairHO h c = some (.tup [.str ⟨#[c1]⟩, .str ⟨#[c2]⟩]) := by
  have x : ∃ q : Nat × Nat × Tok × Tok, IsTupOf2 h c (.str ⟨#[q.1]⟩ q.2.2.1) (.str ⟨#[q.2.1]⟩ q.2.2.2) := ⟨(c1, c2, t1, t2), e⟩
  have sp := Classical.choose_spec x
  unfold pairHO
  rw [dif_pos x]
  generalize Classical.choose x = q at sp
  have e2 : some ({ cls := .type "tuple", data := .seq #[Value.str ⟨#[c1]⟩ t1, Value.str ⟨#[c2]⟩ t2] } : Obj) = some { cls := .type "tuple", data := .seq #[Value.str ⟨#[q.1]⟩ q.2.2.1, Value.str ⟨#[q.2.1]⟩ q.2.2.2] } := e.symm.trans sp
  simp only [Option.some.injEq, Obj.mk.injEq, Data.seq.injEq, Array.mk.injEq, List.cons.injEq, Value.str.injEq, Str.mk.injEq, and_true, true_and] at e2
  obtain ⟨⟨e3, _⟩, e4, _⟩ := e2
  rw [e3, e4]
theorem pairHO_ok {P : Program} {w : World} {H : Hp} {h : Heap} {c : Addr} {o : HO} (e : pairHO h c = some o) : ObjOk P w H h c o := by
  unfold pairHO at e
  split at e
  · rename_i x
    have sp := Classical.choose_spec x
    generalize Classical.choose x = q at sp e
    obtain rfl := Option.some.inj e
    exact ⟨len_sz (by show 2 ≤ 1000000; decide), [.str ⟨#[q.1]⟩ q.2.2.1, .str ⟨#[q.2.1]⟩ q.2.2.2], .cons ⟨_, rfl⟩ (.cons ⟨_, rfl⟩ .nil), ⟨_, sp, rfl, _, rfl⟩⟩
  · cases e
/-- the pairs of two texts, sign beside sign -/
def pairsD : List Nat → List Nat → List PyData
  | c :: r, d :: q => .tuple [.str ⟨#[c]⟩, .str ⟨#[d]⟩] :: pairsD r q
  | _, _ => []
theorem pairsD_get : ∀ (xs ys : List Nat) (i : Nat) (c d : Nat), xs[i]? = some c → ys[i]? = some d → (pairsD xs ys)[i]? = some (.tuple [.str ⟨#[c]⟩, .str ⟨#[d]⟩])
  | [], _, _, _, _, h, _ => by simp at h
  | _ :: _, [], _, _, _, _, h => by simp at h
  | x :: xs, y :: ys, 0, c, d, h1, h2 => by
    simp at h1 h2; subst h1 h2; rfl
  | x :: xs, y :: ys, i + 1, c, d, h1, h2 => pairsD_get xs ys i c d (by simpa using h1) (by simpa using h2)
theorem pairsD_len : ∀ xs ys : List Nat, xs.length = ys.length → (pairsD xs ys).length = xs.length
  | [], [], _ => rfl
  | [], _ :: _, h => by simp at h
  | _ :: _, [], h => by simp at h
  | x :: xs, y :: ys, h => by
    show (pairsD xs ys).length + 1 = xs.length + 1
    rw [pairsD_len xs ys (by simpa using h)]
theorem dqAll_of {K : PySem.W.Frag} {H : Hp} : ∀ {vs : List V} {ds : List PyData}, vs.length = ds.length → (∀ (i : Nat) (v : V) (d : PyData), vs[i]? = some v → ds[i]? = some d → Dq K H v d) → DqAll K H vs ds
  | [], [], _, _ => .nil
  | [], _ :: _, h, _ => by simp at h
  | _ :: _, [], h, _ => by simp at h
  | v :: vs, d :: ds, h, f => .cons (f 0 v d rfl rfl) (dqAll_of (by simpa using h) fun i v' d' h1 h2 => f (i + 1) v' d' (by simpa using h1) (by simpa using h2))
def tTZ (K : PySem.W.Frag) (ta tb : TE) : TE := fun σ H Q => ta σ H fun x H1 => tb σ H1 fun y H2 => ∃ a b : Str, x = .str a ∧ y = .str b ∧ a.cps.size = b.cps.size ∧ a.cps.size ≤ 1000000 ∧
  ∀ p H3, Same H2 H3 → Dq K H3 (.ref p) (.tuple (pairsD a.cps.toList b.cps.toList)) → Q (.ref p) H3
section
variable {X : Cx} {pins : List (Addr × Obj)} {σ : L2.St} {H : Hp} {s : Shared}
theorem track_pairs {a b : Str} {no : List Addr} {acc : Array Value} {h' : Heap} {tk : Nat} (I : Inv X pins σ H s) (hab : a.cps.size = b.cps.size) (hl : a.cps.size ≤ 1000000) (hacc : acc.size = a.cps.size) (pa : PairsAt a b acc no s.heap.objs.size h')
    (old : ∀ c o, s.heap.get? c = some o → h'.get? c = some o) (le : s.heap.objs.size ≤ h'.objs.size) :
    ∃ H3, Same H H3 ∧ Dq X.K H3 (.ref h'.objs.size) (.tuple (pairsD a.cps.toList b.cps.toList)) ∧ Inv X pins σ H3 { s with heap := h'.push { cls := .type "tuple", data := .seq acc }, toks := tk } := by
  generalize hG : h'.push { cls := .type "tuple", data := .seq acc } = G
  have up : ∀ c o, h'.get? c = some o → G.get? c = some o := fun c o e => by rw [← hG]; exact Heap.get?_push_of_some _ e
  have gp : G.get? h'.objs.size = some { cls := .type "tuple", data := .seq acc } := by rw [← hG]; exact Heap.get?_push_size _ rfl
  have old2 : ∀ c o, s.heap.get? c = some o → G.get? c = some o := fun c o e => up c o (old c o e)
  have lenA : acc.size = (pairsD a.cps.toList b.cps.toList).length := by
    rw [pairsD_len _ _ (by rw [Array.length_toList, Array.length_toList]; exact hab), Array.length_toList]; exact hacc
  obtain ⟨vs, hv⟩ : ∃ vs : List V, Vals vs acc.toList := by
    have key : ∀ l : List Value, (∀ v ∈ l, ∃ T, v = Value.ref T) → ∃ vs : List V, Vals vs l := by
      intro l
      induction l with
      | nil => exact fun _ => ⟨[], .nil⟩
      | cons v l ih =>
        intro f
        obtain ⟨T, e⟩ := f v List.mem_cons_self
        obtain ⟨vs, q⟩ := ih fun v hv => f v (List.mem_cons_of_mem _ hv)
        exact ⟨.ref T :: vs, .cons e q⟩
    refine key _ fun v hm => ?_
    obtain ⟨j, hj⟩ := List.mem_iff_getElem?.mp hm
    obtain ⟨T, _, _, _, _, e, _⟩ := pa j v (by rw [← Array.getElem?_toList]; exact hj)
    exact ⟨T, e⟩
  have lenV : vs.length = acc.size := by rw [hv.length, Array.length_toList]
  let H3 : Hp := fun c => if c < s.heap.objs.size then H c else if c = h'.objs.size then some (.tup vs) else pairHO h' c
  have lo : ∀ c, c < s.heap.objs.size → H3 c = H c := fun c q => if_pos q
  have hp : H3 h'.objs.size = some (.tup vs) := by
    show (if _ then _ else _) = _
    rw [if_neg (Nat.not_lt.mpr le), if_pos rfl]
  have hpair : ∀ T c1 c2 t1 t2, s.heap.objs.size ≤ T → IsTupOf2 h' T (.str ⟨#[c1]⟩ t1) (.str ⟨#[c2]⟩ t2) → H3 T = some (.tup [.str ⟨#[c1]⟩, .str ⟨#[c2]⟩]) := fun T c1 c2 t1 t2 q e => by
    show (if _ then _ else _) = _
    rw [if_neg (Nat.not_lt.mpr q), if_neg (Nat.ne_of_lt (Heap.lt_size e))]
    exact pairHO_at e
  have sm : Same H H3 := fun c o e => by rw [lo c (I.hok.lt e)]; exact e
  have ok : HOk X.prog X.w H3 G := by
    intro c o e
    by_cases q : c < s.heap.objs.size
    · rw [lo c q] at e
      exact (I.hok c o e).stay (fun d u _ hd => old2 d u hd) (fun d hd => sm _ _ hd) fun d xs hd => sm _ _ hd
    · by_cases q2 : c = h'.objs.size
      · subst q2
        rw [hp] at e
        obtain rfl := Option.some.inj e
        exact ⟨len_sz (by rw [lenV, hacc]; exact hl), acc.toList, hv, ⟨_, gp, rfl, _, by simp; rfl⟩⟩
      · have e' : pairHO h' c = some o := by
          have z : H3 c = pairHO h' c := by
            show (if _ then _ else _) = _
            rw [if_neg q, if_neg q2]
          rw [← z]; exact e
        exact (pairHO_ok (P := X.prog) (w := X.w) (H := fun _ => none) e').stay (fun d u hd z => up d u z) (fun d hd => nomatch hd) fun d xs hd => nomatch hd
  refine ⟨H3, sm, .tup (stOf hp) (dqAll_of (by rw [lenV]; exact lenA) fun i v d hvi hdi => ?_), I.un ?_ ok⟩
  · obtain ⟨u, hu, ru⟩ := hv.get hvi
    obtain ⟨T, c1, c2, t1, t2, e, _, q, e3, e4, e5⟩ := pa i u (by rw [← Array.getElem?_toList]; exact hu)
    subst e
    have ev : v = .ref T := by
      cases v <;> simp [L2.RelV] at ru
      rw [ru]
    subst ev
    have hd : d = .tuple [.str ⟨#[c1]⟩, .str ⟨#[c2]⟩] := by
      have z := pairsD_get a.cps.toList b.cps.toList i c1 c2 (by rw [Array.getElem?_toList]; exact e4) (by rw [Array.getElem?_toList]; exact e5)
      rw [hdi] at z; exact Option.some.inj z
    subst hd
    exact .tup (stOf (hpair T c1 c2 t1 t2 q e3)) (.cons (.str _) (.cons (.str _) .nil))
  · have lt : ∀ {c o}, s.heap.get? c = some o → c < s.heap.objs.size := fun e => Heap.lt_size e
    exact ⟨fun c o e _ _ _ => old2 c o e, fun c o e _ _ _ => ⟨o.slots, old2 c o e⟩, fun c o e n _ => by rw [lo c (lt e)]; exact n, fun c o e _ => ⟨o, old2 c o e⟩, fun c xs e => sm _ _ e, fun c o u e => sm _ _ e, fun c ps e => ⟨#[], by rw [sm _ _ e]; simp⟩⟩
end
/-- what tuple(zip(..)) asks of its two values -/
def tzQ (K : PySem.W.Frag) (Q : VK) : List V → Hp → Prop := fun vs H2 => match vs with
  | [x, y] => ∃ a b : Str, x = .str a ∧ y = .str b ∧ a.cps.size = b.cps.size ∧ a.cps.size ≤ 1000000 ∧ ∀ p H3, Same H2 H3 → Dq K H3 (.ref p) (.tuple (pairsD a.cps.toList b.cps.toList)) → Q (.ref p) H3
  | _ => False
theorem tzQ_of {K : PySem.W.Frag} {Q : VK} {vs : List V} {H2 : Hp} (h : tzQ K Q vs H2) : ∃ a b : Str, vs = [.str a, .str b] ∧ a.cps.size = b.cps.size ∧ a.cps.size ≤ 1000000 ∧ ∀ p H3, Same H2 H3 → Dq K H3 (.ref p) (.tuple (pairsD a.cps.toList b.cps.toList)) → Q (.ref p) H3 := by
  unfold tzQ at h
  split at h
  · obtain ⟨a, b, rfl, rfl, r⟩ := h
    exact ⟨a, b, rfl, r⟩
  · exact h.elim
section
variable {X : Cx} {e1 e2 : Expr} {ta tb : TE} {p1 p2 pos1 pos2 : Pos}
/-- tuple(zip(e1, e2)) of two texts of one length -/
theorem pe_tupzip (hc : X.calm = true) (nt : X.mg "tuple" = none) (nz : X.mg "zip" = none) (h1 : PE X e1 ta) (h2 : PE X e2 tb) (gt : Gl X "tuple" := by rfl) (gz : Gl X "zip" := by rfl)
    (he : starEach [e1, e2] X.env = (false, eval e1 X.env) :: starEach [e2] X.env := by rfl) (he2 : starEach [e2] X.env = (false, eval e2 X.env) :: starEach [] X.env := by rfl) (hpl : (backTo pos2 (starEach [e2] X.env)).any (·.1) = false := by rfl)
    (ho : starEach [(Expr.Call (.Name "zip" p2) [e1, e2] [] pos2)] X.env = (false, eval (.Call (.Name "zip" p2) [e1, e2] [] pos2) X.env) :: starEach [] X.env := by rfl) (hpo : (backTo pos1 (starEach [] X.env)).any (·.1) = false := by rfl) :
    PE X (.Call (.Name "tuple" p1) [.Call (.Name "zip" p2) [e1, e2] [] pos2] [] pos1) (tTZ X.K ta tb) := by
  refine ⟨fun pins s σ H Q I h => ?_⟩
  refine wpAny_Call_Name_kw (ld_blt I gt nt PyProof.Rows.boot_tuple ?_)
  refine PyProof.Rows.callWith_type1 ?_ ho hpo
  rw [ho]
  show wpAny _ _ (spliced ((false, _) :: backTo pos1 (starEach [] X.env))) _ _ s
  refine Calls.spliced_cons ?_
  refine wpAny_Call_Name_kw (ld_blt I gz nz PyProof.Rows.boot_zip ?_)
  refine PyProof.Rows.callWith_type1 (thn ((pa_cons h1 (pa_cons h2 pa_nil he2) he).run pos2 pins s σ H (tzQ X.K Q) I h) fun us s1 hh => ?_) he hpl
  obtain ⟨vs, H1, I1, r1, q1⟩ := hh
  obtain ⟨a, b, rfl, hab, hl, q⟩ := tzQ_of q1
  obtain ⟨ta1, tb1, rfl⟩ : ∃ t u, us = [.str a t, .str b u] := by
    cases r1 with
    | cons x1 r =>
      cases r with
      | cons x2 r =>
        cases r
        obtain ⟨t, rfl⟩ := x1
        obtain ⟨u, rfl⟩ := x2
        exact ⟨t, u, rfl⟩
  obtain ⟨hp, g, d, tk0, os⟩ := s1
  refine zip_begins2 (begins_text a ta1) (begins_text b tb1) trivial trivial fun h' z1 z2 z3 z4 z5 z6 z7 => ?_
  have sep : ZipSep2 (hp.objs.size + 4) (hp.objs.size + 2) (hp.objs.size + 3) hp.objs.size (hp.objs.size + 1) [hp.objs.size] [hp.objs.size + 1] := zip_sep2 (fun _ m => (List.not_mem_nil m).elim) fun _ m => (List.not_mem_nil m).elim
  have Z : ZNew (hp.objs.size + 4) (hp.objs.size + 2) (hp.objs.size + 3) hp.objs.size (hp.objs.size + 1) a b ta1 tb1 hp h' := ⟨z1, z2, z3, ⟨_, z4, rfl, rfl⟩, ⟨_, z5, rfl, rfl⟩, z7, fun c m => (by
    simp only [List.mem_cons, List.not_mem_nil, or_false] at m
    rcases m with m | m | m | m | m <;> rw [m] <;> first | exact Nat.le_refl _ | exact Nat.le_add_right _ _), (by rw [z6]; exact Nat.le_add_right _ _)⟩
  show wpAny _ _ (spliced (backTo pos1 (starEach [] X.env))) _ _ _
  refine Calls.spliced_nil ?_
  have hh : X.A.handled = none := I1.ok.hd hc
  refine call_tuple_zip (s := ⟨h', g, d, tk0, os⟩) (n := a.cps.size) hh rfl hab.symm (lt_sz hl) sep Z fun h2 tk acc y1 y2 y3 y4 => ?_
  obtain ⟨no, pa⟩ := y2
  obtain ⟨H3, sm, dq, J⟩ := track_pairs (tk := tk) I1 hab hl y1 pa y3 y4
  exact ⟨.ref h2.objs.size, H3, J, rfl, q _ H3 sm dq⟩
end
end EL
namespace EL
open PySem PySem.Spec PyProof.Rows L2
/-! ### f(k = v, ..): keywords alone -/
section
variable {X : Cx} {k : Nat} {x : Str} {ps ks : List Str} {sp : Sp} {E : XK} {kws : List Keyword} {tk : TA} {p pos : Pos} {g : List Value → List Value → List Value} {gV : List V → List V → List V}
theorem pe_calK0 (C : Cal X.prog X.w X.K X.mg X.base k x ps sp) (hr : Room k X.A) (hg : Gl X x) (kb : KBinds X.K C.fd ps ks g gV) (hx : Passes CX0 X E) (hkw : PK X kws tk)
    (hall : (backToKw pos (keywordEach kws X.env)).all (·.1.isSome) = true := by rfl) (hks : (backToKw pos (keywordEach kws X.env)).filterMap (·.1) = ks := by rfl) (hdb : (x == ("__debug__" : Str)) = false := by decide)
    (hpl : ((backTo pos (starEach [] X.env)).any (·.1) || (backToKw pos (keywordEach kws X.env)).any (·.1.isNone)) = false := by rfl) :
    PE X (.Call (.Name x p) [] kws pos) (fun σ H Q => tk σ H fun zs H2 => sp (gV [] zs) H2 Q E) := by
  refine ⟨fun pins s σ H Q I h => wpAny_Call_Name_kw (ld_glob I hg C.g ?_ hdb)⟩
  refine PySem.W.callWith_KW0 (h₀ := X.base) I.ok.mod.kin C.kp hall (thn (hkw.run pos pins s σ H _ I h) fun ws s1 hh => ?_) hpl
  obtain ⟨zs, H1, I1, rz, q⟩ := hh
  refine ⟨I1.kIn, ?_⟩
  rw [hks]
  exact run_fnk C.ok hr kb hx I1 Paired.nil rz q
end
/-! ### comprehensions: what the list holds, by the turns -/
/-- behind i turns: the list at D holds what turns gave (none: left out) -/
def LcP (D : Addr) (P : Nat → Hp → Prop) (R : Nat → Option V → Prop) (i : Nat) (H : Hp) : Prop :=
  ∃ ys : List (Option V), ys.length = i ∧ (∀ (j : Nat) (v : Option V), ys[j]? = some v → R j v) ∧ H D = some (.lst (ys.filterMap id)) ∧ P i H
theorem LcP.start {D : Addr} {P : Nat → Hp → Prop} {R : Nat → Option V → Prop} {H : Hp} (p : P 0 (upd H D (.lst []))) : LcP D P R 0 (upd H D (.lst [])) := ⟨[], rfl, fun j v e => by simp at e, upd_same, p⟩
theorem rows_snoc {R : Nat → Option V → Prop} {ys : List (Option V)} {v : Option V} (h : ∀ (j : Nat) (v : Option V), ys[j]? = some v → R j v) (r : R ys.length v) : ∀ (j : Nat) (u : Option V), (ys ++ [v])[j]? = some u → R j u := fun j u e => by
  rw [List.getElem?_append] at e
  split at e
  · exact h j u e
  · rename_i q
    have : j - ys.length = 0 := by
      cases z : j - ys.length with
      | zero => rfl
      | succ m => rw [z] at e; simp at e
    rw [this] at e
    have ej : j = ys.length := by omega
    subst ej
    simp at e
    exact e ▸ r
theorem lcp_some {D : Addr} {P : Nat → Hp → Prop} {R : Nat → Option V → Prop} {i : Nat} {ys : List (Option V)} {H : Hp} {y : V} (hl : ys.length = i) (h : ∀ (j : Nat) (v : Option V), ys[j]? = some v → R j v) (hD : H D = some (.lst (ys.filterMap id))) (hi : i < 1000000) (r : R i (some y))
    (p : P (i + 1) (upd H D (.lst (ys.filterMap id ++ [y])))) : ∃ acc, H D = some (.lst acc) ∧ acc.length < sizeLine ∧ LcP D P R (i + 1) (upd H D (.lst (acc ++ [y]))) := by
  subst hl
  refine ⟨_, hD, lt_sz (Nat.le_trans (List.length_filterMap_le _ _) (Nat.le_of_lt hi)), ys ++ [some y], by simp, rows_snoc h r, ?_, p⟩
  rw [upd_same, List.filterMap_append]; rfl
theorem lcp_none {D : Addr} {P : Nat → Hp → Prop} {R : Nat → Option V → Prop} {i : Nat} {ys : List (Option V)} {H : Hp} (hl : ys.length = i) (h : ∀ (j : Nat) (v : Option V), ys[j]? = some v → R j v) (hD : H D = some (.lst (ys.filterMap id))) (r : R i none) (p : P (i + 1) H) : LcP D P R (i + 1) H := by
  subst hl
  refine ⟨ys ++ [none], by simp, rows_snoc h r, ?_, p⟩
  rw [hD, List.filterMap_append]; simp
/-- the list of what is given by a function -/
theorem rows_fn {f : Nat → Option V} {n : Nat} : ∀ {ys : List (Option V)}, ys.length = n → (∀ (j : Nat) (v : Option V), ys[j]? = some v → v = f j) → ys = (List.range n).map f := by
  intro ys hl h
  refine List.ext_getElem? fun j => ?_
  rw [List.getElem?_map]
  by_cases q : j < n
  · obtain ⟨v, e⟩ : ∃ v, ys[j]? = some v := ⟨_, List.getElem?_eq_getElem (by omega)⟩
    rw [List.getElem?_range q, e, h j v e]; rfl
  · rw [List.getElem?_eq_none (by omega), List.getElem?_eq_none (by rw [List.length_range]; omega)]; rfl
/-- .. of an array's items by a function of theirs -/
theorem rows_map {α : Type} {f : α → Option V} {l : List α} {ys : List (Option V)} (hl : ys.length = l.length) (h : ∀ (j : Nat) (v : Option V), ys[j]? = some v → ∃ a, l[j]? = some a ∧ v = f a) : ys = l.map f := by
  refine List.ext_getElem? fun j => ?_
  rw [List.getElem?_map]
  by_cases q : j < ys.length
  · obtain ⟨v, e⟩ : ∃ v, ys[j]? = some v := ⟨_, List.getElem?_eq_getElem q⟩
    obtain ⟨a, e1, e2⟩ := h j v e
    rw [e, e1, e2]; rfl
  · rw [List.getElem?_eq_none (by omega), List.getElem?_eq_none (by omega)]; rfl
/-! ### signs and texts -/
def isLow (c : Nat) : Bool := decide (c ∈ (Str.ofString "abcdefghijklmnopqrstuvwxyz").cps.toList)
def isTextD : PyData → Bool
  | .str x => x.cps.toList.all isLow
  | _ => false
/-- sizes of data that may be looked at -/
def Sz (d : PyData) : Prop := d.bulk ≤ 500000
theorem str_len (x : Str) : x.length = x.cps.toList.length := by rw [Array.length_toList]; rfl
theorem str_ext {x y : Str} (h : x.cps.toList = y.cps.toList) : x = y := by
  obtain ⟨a⟩ := x
  obtain ⟨b⟩ := y
  have : a = b := by
    apply Array.ext'
    exact h
  rw [this]
theorem str_inj {x y : Str} : x = y ↔ x.cps.toList = y.cps.toList := ⟨fun e => by rw [e], str_ext⟩
/-- a built-in's name is as it was -/
abbrev StrAt (mg : Str → Option Value) (x y : Str) : Prop := ∃ t, mg x = some (.str y t)
section
variable {X : Cx} {x : Str} {pos : Pos}
theorem pe_tyN {n : String} (hm : X.mg x = none) (hv : bootBuiltins x = some (.type n)) (hg : Gl X x := by rfl) (hn : x ≠ "__name__" := by decide) (hd : (x == ("__debug__" : Str)) = false := by decide) : PE X (.Name x pos) (tC (.ty n)) :=
  pe_bltn (v := .ty n) hg hm hv (show Value.type n = Value.type n from rfl) hn hd
theorem pe_gstr {y : Str} (hm : StrAt X.mg x y) (hg : Gl X x := by rfl) (hd : (x == ("__debug__" : Str)) = false := by decide) : PE X (.Name x pos) (tC (.str y)) := by
  obtain ⟨t, e⟩ := hm
  exact pe_glob (v := .str y) hg e ⟨t, rfl⟩ hd
end
end EL
namespace KK
open PySem PySem.Spec PyProof.Rows L2 EL
open Evl (pss_cut)
def topS (i : Nat) : Stmt := PySem.Challenge.pw_evenlead_k02_texts_and_rows.main.body.getD i (.Pass ⟨0, 0, 0, 0⟩)
abbrev sIsText : Stmt := topS 3
theorem scIsText : FnScope ["thing", "letter"] ["thing"] (defScope sIsText) := ⟨rfl, rfl, rfl, by decide +kernel, rfl, by decide +kernel, by decide +kernel⟩
/-- a look at data: True or False by a function of it -/
def spLook (K : PySem.W.Frag) (f : PyData → Bool) : Sp := fun vs H Q _ => ∃ (v : V) (d : PyData), vs = [v] ∧ Dq K H v d ∧ Sz d ∧ ∀ H', Same H H' → Q (.bl (f d)) H'
section
variable {P : Program} {w : World} {K : PySem.W.Frag} {mg : Str → Option Value} {base : Heap}
theorem ok_IsText {f : Addr} {fd : FuncData} {k : Nat} (F : Fun K "is_text" "is_text" sIsText f fd) (nall : mg "all" = none) (nisinstance : mg "isinstance" = none) (nstr : mg "str" = none) (m_LETTERS : StrAt mg "LETTERS" "abcdefghijklmnopqrstuvwxyz") : FnOk P w K mg base CX0 (k + 1) f fd ["thing"] (spLook K isTextD) := by
  refine F.ok scIsText (fun vs H Q E h => ?_) (fun cdv A outer s H vs Q E hr h => ?_)
  · obtain ⟨v, d, rfl, _⟩ := h; rfl
  · obtain ⟨v, d, rfl, hd, hz, q⟩ := h
    have hu := hr.units
    refine ⟨_, (pss_one (ps_ret (pe_and (pe_callB call_isi (by rfl) nisinstance boot_isinstance (pa_cons (pv 0) (pa_cons (pe_tyN nstr boot_str) pa_nil))) (pe_one (pe_callB (cr_all rfl) (by rfl) nall (by decide +kernel) (pa_cons (pe_lc (own := [("letter", 1)]) (g := gName 1) (by rfl) scIsText.nd (pi_str (pv 0)) (blkOk_by (own := [("letter", 1)]) (N := ["thing", "letter"]) (sc := defScope sIsText) (by decide +kernel)) (fun _ _ _ _ _ => (pg_name (i := 1) scIsText.nd rfl (by first | exact Or.inl rfl | exact Or.inr rfl))) (fun _ _ _ _ _ => pts_nil) (fun _ _ _ _ _ => (pe_cmpR op_in_sign (pv 1) (pe_gstr m_LETTERS) (by rfl)))) pa_nil)))))), ?_⟩
    refine ⟨v, rfl, v, .ty "str", _, _, _, rfl, .ty "str", tyx_of hd, kit_ty (kit_str d), _, rfl, ?_⟩
    cases d with
    | str x =>
      cases hd
      refine iteT ⟨.str x, rfl, x, rfl, fun D nD => ?_⟩
      have hlen : x.cps.size ≤ 500000 := hz
      refine lc_it walk_str (LcP D (fun _ H' => ∀ b o, b ≠ D → H b = some o → H' b = some o) (fun j v => ∃ c, x.cps.toList[j]? = some c ∧ v = some (.bl (isLow c)))) (LcP.start fun b o hb e => by rw [upd_ne hb]; exact e) (fun _ _ _ _ => trivial) ?_ ?_
      · rintro i y H1 H2 hi ⟨ys, hl, hR, hD, hP⟩ ⟨rfl, c, hc, rfl⟩
        refine ⟨rfl, ?_⟩
        dsimp only [tYes]
        refine iteT ?_
        refine ⟨_, rfl, c, _, rfl, rfl, ?_⟩
        exact lcp_some hl hR hD (by omega) ⟨c, by rw [Array.getElem?_toList]; exact hc, rfl⟩ fun b o hb e => by rw [upd_ne hb]; exact hP b o hb e
      · rintro H2 ⟨ys, hl, hR, hD, hP⟩
        have e := rows_map (f := fun c => some (V.bl (isLow c))) (l := x.cps.toList) (by rw [hl, Array.length_toList]) hR
        refine ⟨D, x.cps.toList.map isLow, rfl, sqOf (by rw [hD, e]; simp [List.filterMap_map, Function.comp_def]), ?_⟩
        have e2 : (x.cps.toList.map isLow).all id = isTextD (.str x) := by simp [isTextD, List.all_map, Function.comp_def]
        rw [e2]
        exact q H2 fun b o e => hP b o (ne_of_none e nD) e
    | _ => exact iteF (q H (Same.refl H))
end
end KK
namespace KK
open PySem PySem.Spec PyProof.Rows L2 EL
/-! ### the mathematics: signs, rows -/
abbrev dash : Str := "-"
def isSignD : PyData → Bool
  | .str x => decide (V.str x = V.str dash) || (isTextD (.str x) && decide (V.int (x.length : Nat) = V.int 1))
  | _ => false
def isPairD : PyData → Bool
  | .tuple ds => match ds with
    | [d, e] => isSignD d && isSignD e
    | _ => false
  | _ => false
/-- a pair of signs by their codes -/
abbrev pr (p : Nat × Nat) : PyData := .tuple [.str ⟨#[p.1]⟩, .str ⟨#[p.2]⟩]
theorem dash_cps : dash = ⟨#[45]⟩ := by decide
/-- what stands for a sign -/
def okS (c : Nat) : Bool := decide (c = 45) || isLow c
theorem low_45 : isLow 45 = false := by decide
theorem sign_iff (x : Str) : isSignD (.str x) = true ↔ ∃ c, x = ⟨#[c]⟩ ∧ okS c = true := by
  constructor
  · intro h
    simp only [isSignD, Bool.or_eq_true, Bool.and_eq_true, decide_eq_true_eq, V.str.injEq, V.int.injEq] at h
    rcases h with h | ⟨h1, h2⟩
    · exact ⟨45, h.trans dash_cps, by simp [okS]⟩
    · obtain ⟨a⟩ := x
      have hs : a.size = 1 := by exact_mod_cast h2
      obtain ⟨c, rfl⟩ : ∃ c, a = #[c] := by
        refine ⟨a[0], ?_⟩
        apply Array.ext
        · simp [hs]
        · intro i h1 h2
          have : i = 0 := by simp at h2; exact h2
          subst this; simp
      refine ⟨c, rfl, ?_⟩
      simp [isTextD] at h1
      simp [okS, h1]
  · rintro ⟨c, rfl, h⟩
    simp only [okS, Bool.or_eq_true, decide_eq_true_eq] at h
    simp only [isSignD, Bool.or_eq_true, Bool.and_eq_true, decide_eq_true_eq, V.str.injEq, V.int.injEq]
    rcases h with rfl | h
    · exact .inl dash_cps.symm
    · exact .inr ⟨by simp [isTextD, h], rfl⟩
/-- filled up by dashes -/
def padL (xs : List Nat) (n : Nat) : List Nat := xs ++ List.replicate (n - xs.length) 45
theorem padL_len {xs : List Nat} {n : Nat} (h : xs.length ≤ n) : (padL xs n).length = n := by
  unfold padL; rw [List.length_append, List.length_replicate]; omega
/-- the row of a pair, by codes -/
def rowN (xs ys : List Nat) : List (Nat × Nat) := (padL xs (max xs.length ys.length)).zip (padL ys (max xs.length ys.length))
theorem pairsD_zip : ∀ xs ys : List Nat, pairsD xs ys = (xs.zip ys).map pr
  | [], _ => by cases ‹List Nat› <;> rfl
  | _ :: _, [] => rfl
  | x :: xs, y :: ys => by
    show _ :: pairsD xs ys = _ :: (xs.zip ys).map pr
    rw [pairsD_zip xs ys]
/-- the left and right texts -/
def leftN (ps : List (Nat × Nat)) : List Nat := (ps.map (·.1)).filter (fun c => decide (c ≠ 45))
def rightN (ps : List (Nat × Nat)) : List Nat := (ps.map (·.2)).filter (fun c => decide (c ≠ 45))
/-- data that is made of pairs of single signs -/
def dec : List PyData → Option (List (Nat × Nat))
  | [] => some []
  | .tuple [.str a, .str b] :: r => match a.cps.toList, b.cps.toList, dec r with
    | [c], [d], some q => some ((c, d) :: q)
    | _, _, _ => none
  | _ :: _ => none
end KK
namespace KK
open PySem PySem.Spec PyProof.Rows L2 EL
open Evl (pss_cut)
abbrev sIsLetter : Stmt := topS 4
theorem scIsLetter : FnScope ["thing"] ["thing"] (defScope sIsLetter) := ⟨rfl, rfl, rfl, by decide +kernel, rfl, by decide +kernel, by decide +kernel⟩
def isLetterD : PyData → Bool
  | .str x => isTextD (.str x) && decide (V.int (x.length : Nat) = V.int 1)
  | _ => false
abbrev sIsSign : Stmt := topS 5
theorem scIsSign : FnScope ["thing"] ["thing"] (defScope sIsSign) := ⟨rfl, rfl, rfl, by decide +kernel, rfl, by decide +kernel, by decide +kernel⟩
abbrev sIsPairOfSigns : Stmt := topS 6
theorem scIsPairOfSigns : FnScope ["thing"] ["thing"] (defScope sIsPairOfSigns) := ⟨rfl, rfl, rfl, by decide +kernel, rfl, by decide +kernel, by decide +kernel⟩
abbrev sRowOf : Stmt := topS 7
theorem scRowOf : FnScope ["left", "right", "longer"] ["left", "right"] (defScope sRowOf) := ⟨rfl, rfl, rfl, by decide +kernel, rfl, by decide +kernel, by decide +kernel⟩
theorem sz_mem {ds : List PyData} (h : PyData.bulkAll ds ≤ 500000) : ∀ d ∈ ds, Sz d := by
  induction ds with
  | nil => exact fun _ m => (List.not_mem_nil m).elim
  | cons x r ih =>
    simp only [PyData.bulkAll] at h
    intro d m
    rcases List.mem_cons.mp m with rfl | m
    · unfold Sz; omega
    · exact ih (by omega) d m
theorem bulk_len : ∀ ds : List PyData, ds.length ≤ PyData.bulkAll ds
  | [] => Nat.le_refl _
  | x :: r => by
    simp only [PyData.bulkAll, List.length_cons]
    have := bulk_len r
    omega
/-- the row of two texts -/
def spRow (K : PySem.W.Frag) : Sp := fun vs H Q _ => ∃ a b : Str, vs = [.str a, .str b] ∧ a.length ≤ 1000000 ∧ b.length ≤ 1000000 ∧ ∀ p H', Same H H' → Dq K H' (.ref p) (.tuple ((rowN a.cps.toList b.cps.toList).map pr)) → Q (.ref p) H'
section
variable {P : Program} {w : World} {K : PySem.W.Frag} {mg : Str → Option Value} {base : Heap}
theorem ok_IsLetter {f : Addr} {fd : FuncData} {k : Nat} (F : Fun K "is_letter" "is_letter" sIsLetter f fd) (nlen : mg "len" = none) (CIsText : Cal P w K mg base k "is_text" ["thing"] (spLook K isTextD)) : FnOk P w K mg base CX0 (k + 1) f fd ["thing"] (spLook K isLetterD) := by
  refine F.ok scIsLetter (fun vs H Q E h => ?_) (fun cdv A outer s H vs Q E hr h => ?_)
  · obtain ⟨v, d, rfl, _⟩ := h; rfl
  · obtain ⟨v, d, rfl, hd, hz, q⟩ := h
    have hu := hr.units
    refine ⟨_, (pss_one (ps_ret (pe_and (pe_cal CIsText hr (by rfl) pass0 (pa_cons (pv 0) pa_nil)) (pe_one (pe_cmpR op_eq (pe_callB call_len (by rfl) nlen boot_len (pa_cons (pv 0) pa_nil)) pe_int (nomark _)))))), ?_⟩
    refine ⟨v, rfl, v, d, rfl, hd, hz, fun H1 sm => ⟨_, rfl, ?_⟩⟩
    cases d with
    | str x =>
      cases hd
      cases ht : isTextD (.str x) with
      | false =>
        refine iteF ?_
        have e2 : isLetterD (.str x) = false := by simp [isLetterD, ht]
        rw [← e2]; exact q H1 sm
      | true =>
        have hl : x.length ≤ 1000000 := Nat.le_trans (show x.cps.size ≤ 500000 from hz) (by decide)
        refine iteT ?_
        refine ⟨.str x, rfl, .str x, (x.length : Nat), rfl, ⟨len_sz hl, rfl⟩, rfl, ?_⟩
        have e2 : decide (V.int (x.length : Nat) = V.int 1) = isLetterD (.str x) := by simp [isLetterD, ht]
        rw [e2]; exact q H1 sm
    | _ => exact iteF (q H1 sm)
theorem ok_IsSign {f : Addr} {fd : FuncData} {k : Nat} (F : Fun K "is_sign" "is_sign" sIsSign f fd) (m_NO_LETTER : StrAt mg "NO_LETTER" dash) (CIsLetter : Cal P w K mg base k "is_letter" ["thing"] (spLook K isLetterD)) : FnOk P w K mg base CX0 (k + 1) f fd ["thing"] (spLook K isSignD) := by
  refine F.ok scIsSign (fun vs H Q E h => ?_) (fun cdv A outer s H vs Q E hr h => ?_)
  · obtain ⟨v, d, rfl, _⟩ := h; rfl
  · obtain ⟨v, d, rfl, hd, hz, q⟩ := h
    have hu := hr.units
    refine ⟨_, (pss_one (ps_ret (pe_or (pe_cmpR (op_eqS hu) (pv 0) (pe_gstr m_NO_LETTER) (nomark _)) (pe_one (pe_cal CIsLetter hr (by rfl) pass0 (pa_cons (pv 0) pa_nil)))))), ?_⟩
    refine ⟨v, rfl, ⟨d, hd⟩, ⟨_, rfl⟩, _, rfl, ?_⟩
    by_cases e : v = .str dash
    · rw [decide_eq_true e]
      refine iteT ?_
      subst e
      have e2 : isSignD d = true := by
        cases hd
        simp [isSignD]
      have := q H (Same.refl H)
      rw [e2] at this; exact this
    · rw [decide_eq_false e]
      refine iteF ?_
      refine ⟨v, rfl, v, d, rfl, hd, hz, fun H1 sm => ?_⟩
      have e2 : isLetterD d = isSignD d := by
        cases d with
        | str x => cases hd; simp [isSignD, isLetterD, e]
        | _ => rfl
      rw [e2]; exact q H1 sm
theorem ok_IsPairOfSigns {f : Addr} {fd : FuncData} {k : Nat} (F : Fun K "is_pair_of_signs" "is_pair_of_signs" sIsPairOfSigns f fd) (nisinstance : mg "isinstance" = none) (nlen : mg "len" = none) (ntuple : mg "tuple" = none) (CIsSign : Cal P w K mg base k "is_sign" ["thing"] (spLook K isSignD)) : FnOk P w K mg base CX0 (k + 1) f fd ["thing"] (spLook K isPairD) := by
  refine F.ok scIsPairOfSigns (fun vs H Q E h => ?_) (fun cdv A outer s H vs Q E hr h => ?_)
  · obtain ⟨v, d, rfl, _⟩ := h; rfl
  · obtain ⟨v, d, rfl, hd, hz, q⟩ := h
    have hu := hr.units
    refine ⟨_, (pss_one (ps_ret (pe_and (pe_callB call_isi (by rfl) nisinstance boot_isinstance (pa_cons (pv 0) (pa_cons (pe_tyN ntuple boot_tuple) pa_nil))) (pe_and (pe_cmpR op_eq (pe_callB call_len (by rfl) nlen boot_len (pa_cons (pv 0) pa_nil)) pe_int (nomark _)) (pe_and (pe_cal CIsSign hr (by rfl) pass0 (pa_cons (pe_ix ix_seq (pv 0) pe_int (fun _ _ => rfl)) pa_nil)) (pe_one (pe_cal CIsSign hr (by rfl) pass0 (pa_cons (pe_ix ix_seq (pv 0) pe_int (fun _ _ => rfl)) pa_nil)))))))), ?_⟩
    refine ⟨v, rfl, v, .ty "tuple", _, _, _, rfl, .ty "tuple", tyx_of hd, kit_ty (kit_tuple d), _, rfl, ?_⟩
    cases d with
    | tuple ds =>
      cases hd with
      | tup hs ha =>
      rename_i a xs
      refine iteT ?_
      refine ⟨.ref a, rfl, .ref a, (xs.length : Nat), rfl, .inr ⟨xs, hs, rfl⟩, rfl, _, rfl, ?_⟩
      have hzz : PyData.bulkAll ds ≤ 500000 := hz
      by_cases e : V.int (xs.length : Nat) = V.int 2
      · rw [decide_eq_true e]
        refine iteT ?_
        have e2 : xs.length = 2 := by
          have := V.int.inj e
          exact_mod_cast this
        match ds, ha, hzz, q with
        | [d0, d1], ha, hzz, q =>
          cases ha with
          | cons h0 ha =>
            cases ha with
            | cons h1 ha =>
              cases ha
              rename_i x0 x1
              refine ⟨.ref a, rfl, .inr (.inl ⟨a, [x0, x1], 0, x0, rfl, rfl, hs, rfl, x0, d0, rfl, h0, sz_mem hzz d0 (by simp), fun H1 sm => ⟨_, rfl, ?_⟩⟩)⟩
              cases b0 : isSignD d0 with
              | false =>
                refine iteF ?_
                have := q H1 sm
                rw [show isPairD (.tuple [d0, d1]) = false by simp [isPairD, b0]] at this
                exact this
              | true =>
                refine iteT ?_
                refine ⟨.ref a, rfl, .inr (.inl ⟨a, [x0, x1], 1, x1, rfl, rfl, ex_t' sm hs, rfl, x1, d1, rfl, h1.up sm, sz_mem hzz d1 (by simp), fun H2 sm2 => ?_⟩)⟩
                have := q H2 (sm.trans sm2)
                rw [show isPairD (.tuple [d0, d1]) = isSignD d1 by simp [isPairD, b0]] at this
                exact this
        | [], ha, _, _ => rw [ha.len] at e2; simp at e2
        | [_], ha, _, _ => rw [ha.len] at e2; simp at e2
        | _ :: _ :: _ :: _, ha, _, _ => rw [ha.len] at e2; simp at e2
      · rw [decide_eq_false e]
        refine iteF ?_
        have e3 : isPairD (.tuple ds) = false := by
          match ds, ha with
          | [], _ => rfl
          | [_], _ => rfl
          | _ :: _ :: _ :: _, _ => rfl
          | [_, _], ha => exact absurd (by rw [ha.len]; rfl) e
        rw [← e3]
        exact q H (Same.refl H)
    | _ => exact iteF (q H (Same.refl H))
theorem pad_ok {n : Nat} (h : n ≤ 1000000) : PadOk (n : Int) = true := by
  unfold PadOk
  have h1 : fitsSsize (n : Int) = true := by
    unfold fitsSsize
    simp only [Bool.and_eq_true, decide_eq_true_eq, Bool.not_eq_true', Bool.or_eq_false_iff, decide_eq_false_iff_not]
    omega
  rw [h1]
  unfold Builtin.Str.tooLong
  simp only [Int.toNat_natCast, Bool.true_and, Bool.not_eq_true', decide_eq_false_iff_not]
  rw [sizeLine_eq]
  omega
theorem ok_RowOf {f : Addr} {fd : FuncData} {k : Nat} (F : Fun K "row_of" "row_of" sRowOf f fd) (nlen : mg "len" = none) (nmax : mg "max" = none) (ntuple : mg "tuple" = none) (nzip : mg "zip" = none) (m_NO_LETTER : StrAt mg "NO_LETTER" dash) : FnOk P w K mg base CX0 (k + 1) f fd ["left", "right"] (spRow K) := by
  refine F.ok scRowOf (fun vs H Q E h => ?_) (fun cdv A outer s H vs Q E hr h => ?_)
  · obtain ⟨a, b, rfl, _⟩ := h; rfl
  · obtain ⟨a, b, rfl, ha, hb, q⟩ := h
    have hu := hr.units
    refine ⟨_, (pss_cons (ps_set (i := 2) scRowOf.nd rfl (by first | exact Or.inl rfl | exact Or.inr rfl) (pe_callB (call_max2 rfl) (by rfl) nmax (by decide +kernel) (pa_cons (pe_callB call_len (by rfl) nlen boot_len (pa_cons (pv 0) pa_nil)) (pa_cons (pe_callB call_len (by rfl) nlen boot_len (pa_cons (pv 1) pa_nil)) pa_nil))))
      (pss_one (ps_ret (pe_tupzip rfl ntuple nzip (pe_bm PySem.F.plainAttrs_str PySem.F.slot_str_ljust PySem.F.type_str_ljust mt_ljust3 (pv 0) (pa_cons (pv 2) (pa_cons (pe_gstr m_NO_LETTER) pa_nil))) (pe_bm PySem.F.plainAttrs_str PySem.F.slot_str_ljust PySem.F.type_str_ljust mt_ljust3 (pv 1) (pa_cons (pv 2) (pa_cons (pe_gstr m_NO_LETTER) pa_nil))))))), ?_⟩
    refine ⟨.str a, rfl, .str a, (a.length : Nat), rfl, ⟨len_sz ha, rfl⟩, .str b, rfl, .str b, (b.length : Nat), rfl, ⟨len_sz hb, rfl⟩, _, _, rfl, ?_⟩
    have em : (if (b.length : Int) > (a.length : Int) then (b.length : Int) else (a.length : Int)) = ((max a.length b.length : Nat) : Int) := by
      split <;> omega
    rw [em]
    generalize hm : max a.length b.length = m
    have hm1 : m ≤ 1000000 := by omega
    refine ⟨.str a, rfl, rfl, _, rfl, a, _, dash, rfl, rfl, pad_ok hm1, rfl, .str b, rfl, rfl, _, rfl, b, _, dash, rfl, rfl, pad_ok hm1, rfl, _, _, rfl, rfl, ?_, ?_, fun p H3 sm dq => ?_⟩
    · rw [← Array.length_toList, ← Array.length_toList, PyProof.Rows.ljustF_list, PyProof.Rows.ljustF_list, List.length_append, List.length_append, List.length_replicate, List.length_replicate, str_len a, str_len b]
      rw [str_len a, str_len b] at hm
      omega
    · rw [← Array.length_toList, PyProof.Rows.ljustF_list, List.length_append, List.length_replicate, str_len a]
      rw [str_len a, str_len b] at hm
      omega
    · refine q p H3 sm ?_
      rw [PyProof.Rows.ljustF_list, PyProof.Rows.ljustF_list, pairsD_zip] at dq
      have e1 : rowN a.cps.toList b.cps.toList = (a.cps.toList ++ List.replicate ((m : Int).toNat - a.length) (dash.cps.getD 0 0)).zip (b.cps.toList ++ List.replicate ((m : Int).toNat - b.length) (dash.cps.getD 0 0)) := by
        unfold rowN padL
        rw [← str_len a, ← str_len b, hm, Int.toNat_natCast]
        rfl
      rw [e1]; exact dq
end
end KK
namespace KK
open PySem PySem.Spec PyProof.Rows L2 EL
open Evl (pss_cut)
abbrev sPairOf : Stmt := topS 9
theorem scPairOf : FnScope ["row", "left", "right", "sign", "_"] ["row"] (defScope sPairOf) := ⟨rfl, rfl, rfl, by decide +kernel, rfl, by decide +kernel, by decide +kernel⟩
/-- the pair of a row -/
def spPairOf (K : PySem.W.Frag) : Sp := fun vs H Q _ => ∃ (v : V) (ps : List (Nat × Nat)), vs = [v] ∧ Dq K H v (.tuple (ps.map pr)) ∧ ps.length ≤ 500000 ∧
  ∀ p H', Same H H' → H p = none → H' p = some (.tup [.str ⟨(leftN ps).toArray⟩, .str ⟨(rightN ps).toArray⟩]) → Q (.ref p) H'
theorem dq_pr {K : PySem.W.Frag} {H : Hp} {x : V} {p : Nat × Nat} (h : Dq K H x (pr p)) : ∃ a, x = .ref a ∧ SqT K H a [.str ⟨#[p.1]⟩, .str ⟨#[p.2]⟩] := by
  cases h with
  | tup hs ha =>
    cases ha with
    | cons h1 ha =>
      cases ha with
      | cons h2 ha =>
        cases ha; cases h1; cases h2
        exact ⟨_, rfl, hs⟩
theorem join_cps : ∀ cs : List Nat, (Str.join (Str.ofString "") (cs.map fun c => (⟨#[c]⟩ : Str))).cps.toList = cs
  | [] => rfl
  | [c] => rfl
  | c :: d :: r => by
    have ih := join_cps (d :: r)
    show ((⟨#[c]⟩ : Str) ++ Str.ofString "" ++ Str.join (Str.ofString "") ((d :: r).map fun c => (⟨#[c]⟩ : Str))).cps.toList = c :: d :: r
    rw [show ((⟨#[c]⟩ : Str) ++ Str.ofString "" ++ Str.join (Str.ofString "") ((d :: r).map fun c => (⟨#[c]⟩ : Str))).cps = #[c] ++ #[] ++ (Str.join (Str.ofString "") ((d :: r).map fun c => (⟨#[c]⟩ : Str))).cps from rfl, Array.toList_append, ih]
    rfl
theorem join_signs (cs : List Nat) : Txt.join (Str.ofString "") (cs.map fun c => (⟨#[c]⟩ : Str)) = ⟨cs.toArray⟩ := by
  refine str_ext ?_
  unfold Txt.join
  rw [StrLaws.glued_eq_join, join_cps]
/-- of a pair, one sign, unless it stands for none -/
def keepS (c : Nat) : Option V := if c = 45 then none else some (.str ⟨#[c]⟩)
theorem keep_map (cs : List Nat) : (cs.map keepS).filterMap id = ((cs.filter fun c => decide (c ≠ 45)).map fun c => (⟨#[c]⟩ : Str)).map V.str := by
  induction cs with
  | nil => rfl
  | cons c r ih =>
    by_cases h : c = 45
    · subst h; simpa [keepS] using ih
    · simp only [List.map_cons, keepS, if_neg h, List.filterMap_cons, id_eq]
      rw [List.filter_cons_of_pos (by simpa using h), List.map_cons, List.map_cons, ih]
theorem keep_no (c : Nat) : (!decide (V.str ⟨#[c]⟩ = V.str dash)) = decide (keepS c = some (.str ⟨#[c]⟩)) := by
  by_cases h : c = 45
  · subst h; decide
  · have e1 : V.str ⟨#[c]⟩ ≠ V.str dash := fun e => h (by
      have := V.str.inj e
      rw [dash_cps] at this
      simpa using this)
    simp [keepS, h, e1]
theorem ones (cs : List Nat) : ((cs.map fun c => (⟨#[c]⟩ : Str)).map (·.length)).sum = cs.length := by
  induction cs with
  | nil => rfl
  | cons c r ih => rw [List.map_cons, List.map_cons, List.sum_cons, ih, List.length_cons, show (⟨#[c]⟩ : Str).length = 1 from rfl]; omega
section
variable {P : Program} {w : World} {K : PySem.W.Frag} {mg : Str → Option Value} {base : Heap}
theorem ok_PairOf {f : Addr} {fd : FuncData} {k : Nat} (F : Fun K "pair_of" "pair_of" sPairOf f fd) (m_NO_LETTER : StrAt mg "NO_LETTER" dash) : FnOk P w K mg base CX0 (k + 1) f fd ["row"] (spPairOf K) := by
  refine F.ok scPairOf (fun vs H Q E h => ?_) (fun cdv A outer s H vs Q E hr h => ?_)
  · obtain ⟨v, d, rfl, _⟩ := h; rfl
  · obtain ⟨v, ps, rfl, hd, hz, q⟩ := h
    have hu := hr.units
    refine ⟨_, (pss_cons (ps_setLc (i := 1) (own := [("sign", 3), ("_", 4)]) (g := gTup K 2 (gCons (gName 3) (gCons (gName 4) gNil))) (by rfl) scPairOf.nd rfl rfl (sw_true rfl rfl rfl (by decide +kernel)) (pi_tup (pv 0)) (blkOk_by (own := [("sign", 3), ("_", 4)]) (N := ["row", "left", "right", "sign", "_"]) (sc := defScope sPairOf) (by decide +kernel)) (fun _ _ _ _ _ => (pg_tup (by rfl) (pgs_cons (pg_name (i := 3) scPairOf.nd rfl (by first | exact Or.inl rfl | exact Or.inr rfl)) (pgs_cons (pg_name (i := 4) scPairOf.nd rfl (by first | exact Or.inl rfl | exact Or.inr rfl)) pgs_nil)))) (fun _ _ _ _ _ => (pts_one (pt_cmpR op_ne (pv 3) (pe_gstr m_NO_LETTER) (nomark _)))) (fun _ _ _ _ _ => (pv 3)))
      (pss_cons (ps_setLc (i := 2) (own := [("_", 4), ("sign", 3)]) (g := gTup K 2 (gCons (gName 4) (gCons (gName 3) gNil))) (by rfl) scPairOf.nd rfl rfl (sw_true rfl rfl rfl (by decide +kernel)) (pi_tup (pv 0)) (blkOk_by (own := [("_", 4), ("sign", 3)]) (N := ["row", "left", "right", "sign", "_"]) (sc := defScope sPairOf) (by decide +kernel)) (fun _ _ _ _ _ => (pg_tup (by rfl) (pgs_cons (pg_name (i := 4) scPairOf.nd rfl (by first | exact Or.inl rfl | exact Or.inr rfl)) (pgs_cons (pg_name (i := 3) scPairOf.nd rfl (by first | exact Or.inl rfl | exact Or.inr rfl)) pgs_nil)))) (fun _ _ _ _ _ => (pts_one (pt_cmpR op_ne (pv 3) (pe_gstr m_NO_LETTER) (nomark _)))) (fun _ _ _ _ _ => (pv 3)))
      (pss_one (ps_ret (pe_tup (pa_cons (pe_join pe_str (pv 1)) (pa_cons (pe_join pe_str (pv 2)) pa_nil))))))), ?_⟩
    cases hd with
    | tup hs ha =>
    rename_i a xs
    have hlx : xs.length = ps.length := by rw [ha.len, List.length_map]
    have item : ∀ (i : Nat) (x : V), xs[i]? = some x → ∃ (p : Nat × Nat) (b : Addr), ps[i]? = some p ∧ x = V.ref b ∧ SqT K H b [.str ⟨#[p.1]⟩, .str ⟨#[p.2]⟩] := fun i x e => by
      obtain ⟨d, e2, hx⟩ := ha.at e
      rw [List.getElem?_map] at e2
      cases ep : ps[i]? with
      | none => rw [ep] at e2; cases e2
      | some p =>
        rw [ep] at e2
        obtain rfl := Option.some.inj e2
        obtain ⟨b, e3, e4⟩ := dq_pr hx
        exact ⟨p, b, rfl, e3, e4⟩
    refine ⟨.ref a, rfl, a, rfl, ⟨xs, hs⟩, fun D nD => ?_⟩
    refine lc_it walk_tup (LcP D (fun _ H' => Same H H') (fun j v => ∃ c, (ps.map (·.1))[j]? = some c ∧ v = keepS c)) (LcP.start (same_upd nD)) (fun i H' _ p => by obtain ⟨_, _, _, _, sm⟩ := p; exact ex_t' sm hs) ?_ ?_
    · rintro i y H1 H2 hi ⟨ys, hl, hR, hD, sm⟩ ⟨rfl, hy⟩
      obtain ⟨p, b, ep, rfl, hb⟩ := item i y hy
      refine ⟨b, _, rfl, ex_t' sm hb, rfl, _, _, rfl, _, _, rfl, rfl, rfl, _, rfl, rfl, _, rfl, ?_⟩
      rw [keep_no]
      have er : (ps.map (·.1))[i]? = some p.1 := by rw [List.getElem?_map, ep]; rfl
      by_cases e : keepS p.1 = some (.str ⟨#[p.1]⟩)
      · rw [decide_eq_true e]
        refine iteT ⟨_, rfl, ?_⟩
        exact lcp_some hl hR hD (by omega) ⟨p.1, er, e.symm⟩ fun b o q => by rw [upd_ne (ne_of_none q nD)]; exact sm b o q
      · rw [decide_eq_false e]
        refine iteF (lcp_none hl hR hD ⟨p.1, er, ?_⟩ sm)
        unfold keepS at e ⊢
        by_cases h : p.1 = 45
        · rw [if_pos h]
        · rw [if_neg h] at e; exact absurd rfl e
    rintro H1 ⟨ys, hl, hR, hD, sm⟩
    have e1 := rows_map (f := keepS) (l := ps.map (·.1)) (by rw [hl, List.length_map, hlx]) hR
    rw [e1, keep_map] at hD
    refine ⟨.ref a, rfl, a, rfl, ⟨xs, ex_t' sm hs⟩, fun D2 nD2 => ?_⟩
    refine lc_it walk_tup (LcP D2 (fun _ H' => Same H1 H') (fun j v => ∃ c, (ps.map (·.2))[j]? = some c ∧ v = keepS c)) (LcP.start (same_upd nD2)) (fun i H' _ p => by obtain ⟨_, _, _, _, sm2⟩ := p; exact ex_t' sm2 (ex_t' sm hs)) ?_ ?_
    · rintro i y H2 H3 hi ⟨ys, hl, hR, hD, sm2⟩ ⟨rfl, hy⟩
      obtain ⟨p, b, ep, rfl, hb⟩ := item i y hy
      refine ⟨b, _, rfl, ex_t' sm2 (ex_t' sm hb), rfl, _, _, rfl, _, _, rfl, rfl, rfl, _, rfl, rfl, _, rfl, ?_⟩
      rw [keep_no]
      have er : (ps.map (·.2))[i]? = some p.2 := by rw [List.getElem?_map, ep]; rfl
      by_cases e : keepS p.2 = some (.str ⟨#[p.2]⟩)
      · rw [decide_eq_true e]
        refine iteT ⟨_, rfl, ?_⟩
        exact lcp_some hl hR hD (by omega) ⟨p.2, er, e.symm⟩ fun b o q => by rw [upd_ne (ne_of_none q nD2)]; exact sm2 b o q
      · rw [decide_eq_false e]
        refine iteF (lcp_none hl hR hD ⟨p.2, er, ?_⟩ sm2)
        unfold keepS at e ⊢
        by_cases h : p.2 = 45
        · rw [if_pos h]
        · rw [if_neg h] at e; exact absurd rfl e
    rintro H2 ⟨ys2, hl2, hR2, hD2, sm2⟩
    have e2 := rows_map (f := keepS) (l := ps.map (·.2)) (by rw [hl2, List.length_map, hlx]) hR2
    rw [e2, keep_map] at hD2
    have b1 : (leftN ps).length ≤ ps.length := Nat.le_trans (List.length_filter_le _ _) (by rw [List.length_map]; exact Nat.le_refl _)
    have b2 : (rightN ps).length ≤ ps.length := Nat.le_trans (List.length_filter_le _ _) (by rw [List.length_map]; exact Nat.le_refl _)
    refine ⟨⟨_, rfl⟩, .ref D, rfl, _, D, (leftN ps).map (fun c => (⟨#[c]⟩ : Str)), rfl, rfl, .inl (sqOf (sm2 _ _ hD)), ?_, ⟨_, rfl⟩, .ref D2, rfl, _, D2, (rightN ps).map (fun c => (⟨#[c]⟩ : Str)), rfl, rfl, .inl (sqOf hD2), ?_, len_sz (by show 2 ≤ 1000000; decide), fun p np => ?_⟩
    · rw [ones, List.length_map]
      show _ + _ * 0 ≤ _
      omega
    · rw [ones, List.length_map]
      show _ + _ * 0 ≤ _
      omega
    · rw [join_signs, join_signs]
      exact q p _ (sm.trans (sm2.trans (same_upd np))) (sm.free (sm2.free np)) upd_same
end
end KK
namespace KK
open PySem PySem.Spec PyProof.Rows L2 EL
open Evl (pss_cut)
abbrev sIsRow : Stmt := topS 8
theorem scIsRow : FnScope ["thing", "left", "right", "part"] ["thing"] (defScope sIsRow) := ⟨rfl, rfl, rfl, by decide +kernel, rfl, by decide +kernel, by decide +kernel⟩
theorem dec_pr : ∀ ps : List (Nat × Nat), dec (ps.map pr) = some ps
  | [] => rfl
  | p :: r => by simp [dec, dec_pr r]
theorem one_code {a : Str} {c : Nat} (h : a.cps.toList = [c]) : a = ⟨#[c]⟩ := str_ext h
theorem dec_some : ∀ (ds : List PyData) (ps : List (Nat × Nat)), dec ds = some ps → ds = ps.map pr
  | [], ps, h => by
    simp only [dec, Option.some.injEq] at h; subst h; rfl
  | d :: r, ps, h => by
    unfold dec at h
    split at h
    · rename_i heq; cases heq
    · rename_i a b r' heq
      injection heq with e1 e2
      subst e1 e2
      split at h
      · rename_i c d' q h1 h2 h3
        obtain rfl := Option.some.inj h
        rw [one_code h1, one_code h2, dec_some r q h3]; rfl
      · cases h
    · cases h
/-- a look at a row -/
def isRowD : PyData → Bool
  | .tuple ds => match dec ds with
    | some ps => (ps.all fun p => okS p.1 && okS p.2) && decide (rowN (leftN ps) (rightN ps) = ps)
    | none => false
  | _ => false
theorem pairD_iff (d : PyData) : isPairD d = true ↔ ∃ p : Nat × Nat, d = pr p ∧ (okS p.1 && okS p.2) = true := by
  constructor
  · intro h
    unfold isPairD at h
    split at h
    · rename_i ds
      split at h
      · rename_i d e
        obtain ⟨h1, h2⟩ := Bool.and_eq_true_iff.mp h
        have strOf : ∀ x, isSignD x = true → ∃ y, x = .str y := fun x hx => by
          unfold isSignD at hx
          split at hx
          · exact ⟨_, rfl⟩
          · cases hx
        obtain ⟨y1, rfl⟩ := strOf d h1
        obtain ⟨y2, rfl⟩ := strOf e h2
        obtain ⟨c1, rfl, o1⟩ := (sign_iff y1).mp h1
        obtain ⟨c2, rfl, o2⟩ := (sign_iff y2).mp h2
        exact ⟨(c1, c2), rfl, by rw [o1, o2]; rfl⟩
      · cases h
    · cases h
  · rintro ⟨p, rfl, h⟩
    obtain ⟨h1, h2⟩ := Bool.and_eq_true_iff.mp h
    show (isSignD _ && isSignD _) = true
    rw [(sign_iff _).mpr ⟨p.1, rfl, h1⟩, (sign_iff _).mpr ⟨p.2, rfl, h2⟩]; rfl
theorem all_pairs : ∀ ds : List PyData, ds.all isPairD = true ↔ ∃ ps : List (Nat × Nat), ds = ps.map pr ∧ (ps.all fun p => okS p.1 && okS p.2) = true
  | [] => ⟨fun _ => ⟨[], rfl, rfl⟩, fun _ => rfl⟩
  | d :: r => by
    rw [List.all_cons, Bool.and_eq_true_iff, pairD_iff, all_pairs r]
    constructor
    · rintro ⟨⟨p, rfl, h⟩, ps, rfl, h2⟩
      exact ⟨p :: ps, rfl, by rw [List.all_cons, h, h2]; rfl⟩
    · rintro ⟨ps, h1, h2⟩
      cases ps with
      | nil => cases h1
      | cons p ps =>
        rw [List.map_cons] at h1
        injection h1 with e1 e2
        rw [List.all_cons, Bool.and_eq_true_iff] at h2
        exact ⟨⟨p, e1, h2.1⟩, ps, e2, h2.2⟩
theorem row_all {ds : List PyData} (h : ds.all isPairD = false) : isRowD (.tuple ds) = false := by
  cases e : dec ds with
  | none => simp only [isRowD, e]
  | some ps =>
    have e2 := dec_some ds ps e
    cases h3 : (ps.all fun p => okS p.1 && okS p.2) with
    | false => simp only [isRowD, e, h3, Bool.false_and]
    | true => rw [(all_pairs ds).mpr ⟨ps, e2, h3⟩] at h; cases h
theorem low_lt {c : Nat} (h : isLow c = true) : c < 128 := by
  have h2 : c ∈ (Str.ofString "abcdefghijklmnopqrstuvwxyz").cps.toList := of_decide_eq_true h
  have key : ∀ x ∈ (Str.ofString "abcdefghijklmnopqrstuvwxyz").cps.toList, x < 128 := by decide +kernel
  exact key c h2
theorem ok_lt {c : Nat} (h : okS c = true) : c < 128 := by
  simp only [okS, Bool.or_eq_true, decide_eq_true_eq] at h
  rcases h with rfl | h
  · decide
  · exact low_lt h
theorem strOk_one {c : Nat} (h : c < 128) : PyData.strOk ⟨#[c]⟩ = true := by
  simp [PyData.strOk]; omega
theorem canLay_pr {ps : List (Nat × Nat)} (h : ∀ p ∈ ps, p.1 < 128 ∧ p.2 < 128) : PyData.canLayAll0 (ps.map pr) = true := by
  induction ps with
  | nil => simp [PyData.canLayAll0]
  | cons p r ih =>
    obtain ⟨h1, h2⟩ := h p List.mem_cons_self
    have := ih fun q m => h q (List.mem_cons_of_mem _ m)
    simp [PyData.canLayAll0, PyData.canLay0, strOk_one h1, strOk_one h2, this]
theorem depth_pr (ps : List (Nat × Nat)) : PyData.depthAll (ps.map pr) ≤ 1 := by
  induction ps with
  | nil => simp [PyData.depthAll]
  | cons p r ih => simp only [List.map_cons, PyData.depthAll, PyData.depth]; omega
theorem shaped_pr {ps : List (Nat × Nat)} (h : ∀ p ∈ ps, p.1 < 128 ∧ p.2 < 128) : SeqAt.shaped (.tuple (ps.map pr)) = true := by
  have := depth_pr ps
  simp only [SeqAt.shaped, PyData.canLay0, canLay_pr h, Bool.true_and]
  refine decide_eq_true ?_
  simp only [PyData.depth]
  omega
theorem str_beq (c d : Nat) : ((⟨#[c]⟩ : Str) == ⟨#[d]⟩) = decide (c = d) := by
  by_cases h : c = d
  · subst h; simp
  · have : (⟨#[c]⟩ : Str) ≠ ⟨#[d]⟩ := fun e => h (by simpa using e)
    rw [decide_eq_false h]
    exact beq_eq_false_iff_ne.mpr this
theorem eqv_pr : ∀ ps qs : List (Nat × Nat), PyData.eqvAll (ps.map pr) (qs.map pr) = decide (ps = qs)
  | [], [] => by simp [PyData.eqvAll]
  | [], _ :: _ => by simp [PyData.eqvAll]
  | _ :: _, [] => by simp [PyData.eqvAll]
  | (a, b) :: r, (c, d) :: q => by
    have ih := eqv_pr r q
    simp only [List.map_cons, PyData.eqvAll, PyData.eqv, str_beq, ih, Bool.and_true]
    by_cases h1 : a = c <;> by_cases h2 : b = d <;> by_cases h3 : r = q <;> simp [h1, h2, h3]
mutual
theorem dp_of {K : PySem.W.Frag} {H : Hp} : ∀ (d : PyData) (v : V), Dq K H v d → d.hasDict = false → Dp K H v d
  | .none, _, h, _ => by cases h; exact .non
  | .bool b, _, h, _ => by cases h; exact .bl b
  | .int i, _, h, _ => by cases h; exact .int i
  | .str x, _, h, _ => by cases h; exact .str x
  | .list ds, _, h, n => by
    cases h with
    | lst hs ha => exact .lst hs (dpAll_of ds _ ha (by simpa [PyData.hasDict] using n))
  | .tuple ds, _, h, n => by
    cases h with
    | tup hs ha => exact .tup hs (dpAll_of ds _ ha (by simpa [PyData.hasDict] using n))
  | .dict _, _, h, n => by simp [PyData.hasDict] at n
theorem dpAll_of {K : PySem.W.Frag} {H : Hp} : ∀ (ds : List PyData) (vs : List V), DqAll K H vs ds → PyData.hasDictAll ds = false → DpAll K H vs ds
  | [], _, h, _ => by cases h; exact .nil
  | d :: ds, _, h, n => by
    cases h with
    | cons h1 h2 =>
      obtain ⟨n1, n2⟩ : d.hasDict = false ∧ PyData.hasDictAll ds = false := by simpa [PyData.hasDictAll] using n
      exact .cons (dp_of d _ h1 n1) (dpAll_of ds _ h2 n2)
end
theorem noDict_pr (ps : List (Nat × Nat)) : PyData.hasDictAll (ps.map pr) = false := by
  induction ps with
  | nil => simp [PyData.hasDictAll]
  | cons p r ih => simp [PyData.hasDictAll, PyData.hasDict]; exact ih
theorem mem_pad {xs : List Nat} {n c : Nat} (h : c ∈ padL xs n) : c ∈ xs ∨ c = 45 := by
  unfold padL at h
  rcases List.mem_append.mp h with h | h
  · exact .inl h
  · exact .inr (List.eq_of_mem_replicate h)
theorem row_lt {xs ys : List Nat} (h1 : ∀ c ∈ xs, c < 128) (h2 : ∀ c ∈ ys, c < 128) : ∀ p ∈ rowN xs ys, p.1 < 128 ∧ p.2 < 128 := fun p hp => by
  obtain ⟨a, b⟩ := p
  have z := List.of_mem_zip hp
  refine ⟨?_, ?_⟩
  · rcases mem_pad z.1 with q | q
    · exact h1 _ q
    · show a < 128; omega
  · rcases mem_pad z.2 with q | q
    · exact h2 _ q
    · show b < 128; omega
section
variable {P : Program} {w : World} {K : PySem.W.Frag} {mg : Str → Option Value} {base : Heap}
theorem ok_IsRow {f : Addr} {fd : FuncData} {k : Nat} (F : Fun K "is_row" "is_row" sIsRow f fd) (nall : mg "all" = none) (nisinstance : mg "isinstance" = none) (ntuple : mg "tuple" = none) (CIsPairOfSigns : Cal P w K mg base k "is_pair_of_signs" ["thing"] (spLook K isPairD)) (CPairOf : Cal P w K mg base k "pair_of" ["row"] (spPairOf K)) (CRowOf : Cal P w K mg base k "row_of" ["left", "right"] (spRow K)) : FnOk P w K mg base CX0 (k + 1) f fd ["thing"] (spLook K isRowD) := by
  refine F.ok scIsRow (fun vs H Q E h => ?_) (fun cdv A outer s H vs Q E hr h => ?_)
  · obtain ⟨v, d, rfl, _⟩ := h; rfl
  · obtain ⟨v, d, rfl, hd, hz, q⟩ := h
    have hu := hr.units
    refine ⟨_, (pss_cons (ps_if (PW.pt (pw_or (pt_not (pt_val (pe_callB call_isi (by rfl) nisinstance boot_isinstance (pa_cons (pv 0) (pa_cons (pe_tyN ntuple boot_tuple) pa_nil))))) (pw_or1 (pt_not (pt_val (pe_callB (cr_all rfl) (by rfl) nall (by decide +kernel) (pa_cons (pe_lc (own := [("part", 3)]) (g := gName 3) (by rfl) scIsRow.nd (pi_tup (pv 0)) (blkOk_by (own := [("part", 3)]) (N := ["thing", "left", "right", "part"]) (sc := defScope sIsRow) (by decide +kernel)) (fun _ _ _ _ _ => (pg_name (i := 3) scIsRow.nd rfl (by first | exact Or.inl rfl | exact Or.inr rfl))) (fun _ _ _ _ _ => pts_nil) (fun _ _ _ _ _ => (pe_cal CIsPairOfSigns hr (by rfl) pass0 (pa_cons (pv 3) pa_nil)))) pa_nil))))))) (pss_one (ps_ret pe_bl)) pss_nil)
      (pss_cons (ps_asg (pe_cal CPairOf hr (by rfl) pass0 (pa_cons (pv 0) pa_nil)) (pg_tup (by rfl) (pgs_cons (pg_name (i := 1) scIsRow.nd rfl (by first | exact Or.inl rfl | exact Or.inr rfl)) (pgs_cons (pg_name (i := 2) scIsRow.nd rfl (by first | exact Or.inl rfl | exact Or.inr rfl)) pgs_nil))))
      (pss_one (ps_ret (pe_cmpR (op_eqD hu) (pe_cal CRowOf hr (by rfl) pass0 (pa_cons (pv 1) (pa_cons (pv 2) pa_nil))) (pv 0) (nomark _)))))), ?_⟩
    refine ⟨v, rfl, v, .ty "tuple", _, _, _, rfl, .ty "tuple", tyx_of hd, kit_ty (kit_tuple d), _, rfl, ?_⟩
    cases d with
    | tuple ds =>
      cases hd with
      | tup hs ha =>
      rename_i a xs
      have hzz : PyData.bulkAll ds ≤ 500000 := hz
      have hlen : xs.length ≤ 500000 := by rw [ha.len]; exact Nat.le_trans (bulk_len ds) hzz
      refine iteF ?_
      refine ⟨.ref a, rfl, a, rfl, ⟨xs, hs⟩, fun D nD => ?_⟩
      refine lc_it walk_tup (LcP D (fun _ H' => Same H H') (fun j v => ∃ e, ds[j]? = some e ∧ v = some (.bl (isPairD e)))) (LcP.start (same_upd nD)) (fun i H' _ p => by obtain ⟨_, _, _, _, sm⟩ := p; exact ex_t' sm hs) ?_ ?_
      · rintro i y H1 H2 hi ⟨ys, hl, hR, hD, sm⟩ ⟨rfl, hy⟩
        obtain ⟨e, ee, he⟩ := ha.at hy
        refine ⟨rfl, ?_⟩
        dsimp only [tYes]
        refine iteT ?_
        refine ⟨y, rfl, y, e, rfl, he.up sm, sz_mem hzz e (List.mem_of_getElem? ee), fun H3 sm3 => ?_⟩
        exact lcp_some hl hR (sm3 _ _ hD) (by omega) ⟨e, ee, rfl⟩ fun b o q => by rw [upd_ne (ne_of_none q nD)]; exact sm3 _ _ (sm b o q)
      rintro H1 ⟨ys, hl, hR, hD, sm⟩
      have e1 := rows_map (f := fun e => some (V.bl (isPairD e))) (l := ds) (by rw [hl, ha.len]) hR
      refine ⟨D, ds.map isPairD, rfl, sqOf (by rw [hD, e1]; simp [List.filterMap_map, Function.comp_def]), _, rfl, ?_⟩
      have e2 : (ds.map isPairD).all id = ds.all isPairD := by simp [List.all_map, Function.comp_def]
      rw [e2]
      cases hall : ds.all isPairD with
      | false =>
        refine iteT ?_
        have := q H1 sm
        rw [row_all hall] at this
        exact this
      | true =>
        refine iteF ?_
        obtain ⟨ps, rfl, hok⟩ := (all_pairs ds).mp hall
        have hpl : ps.length ≤ 500000 := by rw [ha.len, List.length_map] at hlen; exact hlen
        have hlt : ∀ p ∈ ps, p.1 < 128 ∧ p.2 < 128 := fun p hp => by
          have z := List.all_eq_true.mp hok p hp
          obtain ⟨z1, z2⟩ := Bool.and_eq_true_iff.mp z
          exact ⟨ok_lt z1, ok_lt z2⟩
        have dqv : Dq K H (.ref a) (.tuple (ps.map pr)) := .tup hs ha
        refine ⟨.ref a, rfl, .ref a, ps, rfl, dqv.up sm, hpl, fun p H2 sm2 np hp => ?_⟩
        refine ⟨p, _, rfl, stOf hp, rfl, _, _, rfl, _, _, rfl, rfl, ?_⟩
        have l1 : (leftN ps).length ≤ ps.length := Nat.le_trans (List.length_filter_le _ _) (by rw [List.length_map]; exact Nat.le_refl _)
        have l2 : (rightN ps).length ≤ ps.length := Nat.le_trans (List.length_filter_le _ _) (by rw [List.length_map]; exact Nat.le_refl _)
        refine ⟨_, rfl, _, rfl, _, _, rfl, (by rw [str_len]; show (leftN ps).length ≤ _; omega), (by rw [str_len]; show (rightN ps).length ≤ _; omega), fun r H3 sm3 hr3 => ?_⟩
        have dq3 := dqv.up (sm.trans (sm2.trans sm3))
        have c1 : ∀ c ∈ leftN ps, c < 128 := fun c hc => by
          obtain ⟨p, hp, rfl⟩ := List.mem_map.mp (List.mem_filter.mp hc).1
          exact (hlt p hp).1
        have c2 : ∀ c ∈ rightN ps, c < 128 := fun c hc => by
          obtain ⟨p, hp, rfl⟩ := List.mem_map.mp (List.mem_filter.mp hc).1
          exact (hlt p hp).2
        refine ⟨.ref a, rfl, _, _, dp_of _ _ hr3 (by simp only [PyData.hasDict]; exact noDict_pr _), dp_of _ _ dq3 (by simp only [PyData.hasDict]; exact noDict_pr _), shaped_pr (row_lt c1 c2), shaped_pr hlt, ?_⟩
        have e3 : PyData.eqv (.tuple ((rowN (leftN ps) (rightN ps)).map pr)) (.tuple (ps.map pr)) = isRowD (.tuple (ps.map pr)) := by
          simp only [PyData.eqv, isRowD, dec_pr, hok, Bool.true_and]
          exact eqv_pr _ _
        have := q H3 (sm.trans (sm2.trans sm3))
        rw [← e3] at this
        exact this
    | _ => exact iteT (q H (Same.refl H))
end
end KK
/-! x[::-1] of texts and of tuples. -/
namespace EL
open PySem PySem.Spec PyProof.Rows L2
section
variable {prog : Program} {w : World} {A : Around} {E : Value → Shared → Prop} {s : Shared}
theorem adjust_rev (n : Nat) : Builtin.Slice.sliceAdjust none none (-1) (n : Int) = ((n : Int) - 1, -1) := by
  simp [Builtin.Slice.sliceAdjust]
theorem places_rev (n : Nat) : Builtin.Slice.slicePlaces ((n : Int) - 1) (-1) (-1) = n := by
  unfold Builtin.Slice.slicePlaces
  rw [if_neg (by decide)]
  by_cases h : n = 0
  · subst h; rfl
  · rw [if_pos (by omega)]
    have e : ((n : Int) - 1 - -1 - 1) / (- -1) + 1 = n := by
      have : (- -1 : Int) = 1 := by decide
      rw [this, Int.ediv_one]; omega
    rw [e, Int.toNat_natCast]
theorem pick_rev (xs : Array Value) : ((List.range xs.size).filterMap fun (k : Nat) => xs[(((xs.size : Nat) : Int) - 1 + (k : Int) * (-1)).toNat]?).toArray = xs.toList.reverse.toArray := by
  have e := PySem.W.krv_all xs
  congr 1
  have e2 : (List.range xs.size).filterMap (fun (k : Nat) => xs[(((xs.size : Nat) : Int) - 1 + (k : Int) * (-1)).toNat]?) = ((List.range xs.size).map fun k => xs.size - 1 - k).filterMap (xs[·]?) := by
    rw [List.filterMap_map]
    have cg : ∀ (l : List Nat) (f g : Nat → Option Value), (∀ k ∈ l, f k = g k) → l.filterMap f = l.filterMap g := by
      intro l f g
      induction l with
      | nil => exact fun _ => rfl
      | cons a r ih =>
        intro h
        rw [List.filterMap_cons, List.filterMap_cons, h a List.mem_cons_self, ih fun k hk => h k (List.mem_cons_of_mem _ hk)]
    refine cg _ _ _ fun k hk => ?_
    have hk' := List.mem_range.mp hk
    show xs[(((xs.size : Nat) : Int) - 1 + (k : Int) * (-1)).toNat]? = xs[xs.size - 1 - k]?
    congr 1
    omega
  rw [e2, PySem.W.krv_range, List.filterMap_reverse, e]
theorem applied_rev {sl : Addr} {u : Tok} {n : Nat} {Q : Int × Int × Nat → Shared → Prop} (hs : s.heap.IsSliceOf sl .none .none (.int (-1) u)) (h : Q ((n : Int) - 1, -1, n) s) : wpAny (model prog w) A (Builtin.Slice.sliceApplied (.ref sl) (pure (n : Int))) Q E s := by
  obtain ⟨o, ho, hc, hd⟩ := id hs
  unfold Builtin.Slice.sliceApplied Builtin.Slice.sliceFields
  refine wpAny_bind (wpAny_bind (wpAny_field ho hd (x := .none) rfl (wpAny_bind (wpAny_field ho hd (x := .none) rfl (wpAny_bind (wpAny_field ho hd (x := .int (-1) u) rfl (wpAny_pure ?_)))))))
  refine wpAny_bind (HT.slicePart_ (IsPart.int (-1) u) ?_)
  show wpAny _ _ (if ((-1 : Int) == 0) = true then _ else _) _ _ s
  rw [if_neg (by decide)]
  refine wpAny_bind (HT.slicePart_ IsPart.none (wpAny_bind (HT.slicePart_ IsPart.none (wpAny_bind (wpAny_pure ?_)))))
  show wpAny _ _ (match Builtin.Slice.sliceAdjust none none (-1) (n : Int) with | (lo, hi) => pure (lo, (-1 : Int), Builtin.Slice.slicePlaces lo hi (-1))) _ _ s
  rw [adjust_rev]
  show wpAny _ _ (pure ((n : Int) - 1, (-1 : Int), Builtin.Slice.slicePlaces ((n : Int) - 1) (-1) (-1))) _ _ s
  rw [places_rev]
  exact wpAny_pure h
theorem item_tuple_rev {t sl : Addr} {items : Array Value} {u : Tok} {Q : Value → Shared → Prop} (ht : IsTup s.heap t items) (hs : s.heap.IsSliceOf sl .none .none (.int (-1) u)) (hz : items.size ≤ sizeLine)
    (h : Q (.ref s.heap.objs.size) { s with heap := s.heap.push { cls := .type "tuple", data := .seq items.toList.reverse.toArray } }) : wpAny (model prog w) A (getItem (.ref t) (.ref sl)) Q E s := by
  obtain ⟨o, ho, hc, hd⟩ := id hs
  have ty : s.TypeIs (.ref sl) "slice" := ⟨o, ho, hc⟩
  unfold getItem
  try with_reducible refine wpAny_holding ?_
  first | refine wpAny_bind (wpAny_pure ?_) | skip
  refine wpAny_bind (wpAny_sequenceKey ht.typeIs (by decide) ?_)
  refine wpAny_bind (wpAny_callSpecial?_slot (name := Str.ofString "__getitem__") ht.typeIs PyProof.Rows.slot_tuple_getitem
    (wpAny_call_entry PyProof.Rows.slot_tuple_getitem ht.typeIs PyProof.Rows.entry_tuple_getitem ?_ (PyProof.Rows.args_tuple_getitem _ _)))
  show wpAny _ _ (Builtin.Tuple.tupleItemsOf (.ref t) >>= _) _ _ s
  refine wpAny_bind (tupleItemsOf_ ht ?_)
  refine wpAny_bind (wpAny_typeOf ty ?_)
  rw [if_pos (by decide)]
  refine wpAny_bind (applied_rev hs ?_)
  show wpAny _ _ (if ((((items.size : Nat) : Int) - 1 == 0) && ((-1 : Int) == 1) && (items.size == items.size)) = true then _ else _) _ _ s
  rw [if_neg (by simp)]
  rw [pick_rev]
  refine wpAny_bind ?_
  unfold Builtin.Tuple.tupleExact
  refine wpAny_newObj_type ?_ (by show items.toList.reverse.toArray.size ≤ sizeLine; simpa using hz)
  first
    | exact wpAny_pure ⟨_, rfl, wpAny_pure h⟩
    | exact wpAny_pure ⟨_, rfl, h⟩
    | exact wpAny_bind (wpAny_pure (wpAny_pure ⟨_, rfl, wpAny_pure h⟩))
end
section
variable {X : Cx} {e : Expr} {te : TE} {k : Nat} {p1 p2 p3 pos : Pos}
def tRevT (K : PySem.W.Frag) (te : TE) : TE := fun σ H Q => te σ H fun x H1 => ∃ a xs, x = .ref a ∧ SqT K H1 a xs ∧ ∀ p, H1 p = none → Q (.ref p) (upd H1 p (.tup xs.reverse))
theorem pe_revT (he : PE X e te) : PE X (.Subscript e (.Slice none none (some (.UnaryOp .USub (.Constant (.int 1) k p1) p2)) p3) pos) (tRevT X.K te) := by
  refine ⟨fun pins s σ H Q I h => ?_⟩
  refine Subscript_ (thn (he.run pins s σ H _ I h) fun v s1 hh => ?_)
  obtain ⟨x, H1, I1, r1, a, xs, rfl, hx, q⟩ := hh
  cases r1
  refine wpAny_Slice (wpAny_pure (wpAny_pure ?_))
  have neg : PE X (.UnaryOp .USub (.Constant (.int 1) k p1) p2) (tUn (rU fun i => .int (-i)) (tC (.int 1))) := pe_un un_neg pe_int
  refine thn (neg.run pins s1 σ H1 (fun v H2 => v = .int (-1) ∧ H2 = H1) I1 ⟨1, rfl, rfl, rfl⟩) fun vs s2 hh => ?_
  obtain ⟨v2, H2, I2, r2, rfl, rfl⟩ := hh
  obtain ⟨u, rfl⟩ := r2
  have I5 : Inv X pins σ H2 { s2 with heap := s2.heap.push { cls := .type "slice", data := .fields #[.none, .none, .int (-1) u] } } := I2.kept (t' := s2.toks) fun b ob q => Heap.get?_push_of_some _ q
  obtain ⟨its, r, ht, hz⟩ := I5.tuple hx
  have hlen := r.length
  show wpAny (model X.prog X.w) X.A (subscriptTail e (.Slice none none (some (.UnaryOp .USub (.Constant (.int 1) k p1) p2)) p3) (.ref a) (.ref s2.heap.objs.size)) (EP X pins σ Q) X.xe { s2 with heap := s2.heap.push { cls := .type "slice", data := .fields #[.none, .none, .int (-1) u] } }
  refine tail_any (ops := [.ref a, .ref s2.heap.objs.size]) ht.typeIs PyProof.Rows.slot_tuple_getitem.lookup ?_ (by with_unfolding_all rfl)
  refine item_tuple_rev ht (Heap.IsSliceOf.new _ _ _ _) (by rw [List.size_toArray]; omega) ?_
  refine ⟨.ref _, _, I5.laid (t' := s2.toks) (o := .tup xs.reverse) (fun b ob q => Heap.get?_push_of_some _ q) (Nat.le_refl _) ?_, rfl, q _ (I5.hok.fresh (Nat.le_refl _))⟩
  exact ⟨by rw [List.length_reverse]; exact hz, _, r.reverse, IsTup.new _ _⟩
/-- a text read from behind -/
def revS (x : Str) : Str := ⟨x.cps.toList.reverse.toArray⟩
def tRevS (te : TE) : TE := fun σ H Q => te σ H fun x H1 => ∃ z : Str, x = .str z ∧ z.length ≤ 1000000 ∧ Q (.str (revS z)) H1
theorem pick_revS (x : Str) : (⟨((Builtin.Str.strSliceIndices none none (-1) x.length).filterMap (x.cps[·]?)).toArray⟩ : Str) = revS x := by
  have e : Builtin.Str.strSliceIndices none none (-1) x.length = sliceRange ((x.length : Int) - 1) (-1) (-1) := by
    simp [Builtin.Str.strSliceIndices]
  unfold revS
  rw [e, PySem.W.krv_sliceRange, PySem.W.krv_range, List.filterMap_reverse]
  have e2 : (List.range x.length).filterMap (x.cps[·]?) = x.cps.toList := by
    have key : ∀ (xs : Array Nat), (List.range xs.size).filterMap (xs[·]?) = xs.toList := fun xs => PySem.W.krv_all xs
    exact key x.cps
  rw [e2]
theorem pe_revS (he : PE X e te) : PE X (.Subscript e (.Slice none none (some (.UnaryOp .USub (.Constant (.int 1) k p1) p2)) p3) pos) (tRevS te) := by
  refine ⟨fun pins s σ H Q I h => ?_⟩
  refine Subscript_ (thn (he.run pins s σ H _ I h) fun v s1 hh => ?_)
  obtain ⟨x, H1, I1, r1, z, rfl, hz, q⟩ := hh
  obtain ⟨t, rfl⟩ := r1
  refine wpAny_Slice (wpAny_pure (wpAny_pure ?_))
  have neg : PE X (.UnaryOp .USub (.Constant (.int 1) k p1) p2) (tUn (rU fun i => .int (-i)) (tC (.int 1))) := pe_un un_neg pe_int
  refine thn (neg.run pins s1 σ H1 (fun v H2 => v = .int (-1) ∧ H2 = H1) I1 ⟨1, rfl, rfl, rfl⟩) fun vs s2 hh => ?_
  obtain ⟨v2, H2, I2, r2, rfl, rfl⟩ := hh
  obtain ⟨u, rfl⟩ := r2
  have I5 : Inv X pins σ H2 { s2 with heap := s2.heap.push { cls := .type "slice", data := .fields #[.none, .none, .int (-1) u] } } := I2.kept (t' := s2.toks) fun b ob q => Heap.get?_push_of_some _ q
  show wpAny (model X.prog X.w) X.A (subscriptTail e (.Slice none none (some (.UnaryOp .USub (.Constant (.int 1) k p1) p2)) p3) (.str z t) (.ref s2.heap.objs.size)) (EP X pins σ Q) X.xe { s2 with heap := s2.heap.push { cls := .type "slice", data := .fields #[.none, .none, .int (-1) u] } }
  refine tail_any (ops := [.ref s2.heap.objs.size, .str z t]) (typeIs_str _ _ _) PySem.F.slot_str_getitem.lookup ?_ (by with_unfolding_all rfl)
  refine wpAny_getItem_str_slice (l := none) (u := none) (st := some (-1, u)) ⟨_, Heap.get?_push_size _ rfl, rfl, rfl⟩ rfl ?_
  have em : sliceMade z t none none (some (-1, u)) = Made.str (revS z) := by
    rw [← pick_revS]; rfl
  rw [em]
  exact ⟨by show z.cps.toList.reverse.toArray.size ≤ sizeLine; rw [List.size_toArray, List.length_reverse]; exact Nat.le_trans hz (by decide), .str (revS z), H2, I5.tok _, ⟨_, rfl⟩, q⟩
end
/-! ### a list == [], a list != [] -/
section
variable {X : Cx}
def rEqN (K : PySem.W.Frag) : R2 := fun x y H Q => ∃ a b xs, x = .ref a ∧ y = .ref b ∧ SqL K H a xs ∧ SqL K H b [] ∧ Q (.bl (decide (xs = []))) H
def rNeN (K : PySem.W.Frag) : R2 := fun x y H Q => ∃ a b xs, x = .ref a ∧ y = .ref b ∧ SqL K H a xs ∧ SqL K H b [] ∧ Q (.bl (!decide (xs = []))) H
theorem op_eqN (hu : X.A.units < cLine) : OpR X (compareOp .Eq) (rEqN X.K) := by
  intro pins s σ H x y v u Q I rx ry h
  obtain ⟨a, b, xs, rfl, rfl, ha, hb, q⟩ := h
  cases rx
  cases ry
  obtain ⟨its, r1, ⟨o, n, ho, hc, _, hd⟩, _⟩ := I.list ha
  obtain ⟨its2, r2, ⟨o2, n2, ho2, hc2, _, hd2⟩, _⟩ := I.list hb
  cases r2
  cases r1 with
  | nil => exact SeqAt.RcAt.lists (e := fun _ => true) ⟨o, ho, hc, n, hd⟩ ⟨o2, ho2, hc2, n2, hd2⟩ rfl hu (fun j h1 _ => absurd h1 (by simp)) _ _ _ _ ⟨.bl _, H, I, rfl, q⟩
  | cons r rr => exact SeqAt.RcAt.lists_lengths ⟨o, ho, hc, n, hd⟩ ⟨o2, ho2, hc2, n2, hd2⟩ (by simp) hu _ _ _ _ ⟨.bl _, H, I, rfl, q⟩
theorem op_neN (hu : X.A.units < cLine) : OpR X (compareOp .NotEq) (rNeN X.K) := by
  intro pins s σ H x y v u Q I rx ry h
  obtain ⟨a, b, xs, rfl, rfl, ha, hb, q⟩ := h
  cases rx
  cases ry
  obtain ⟨its, r1, ⟨o, n, ho, hc, _, hd⟩, _⟩ := I.list ha
  obtain ⟨its2, r2, ⟨o2, n2, ho2, hc2, _, hd2⟩, _⟩ := I.list hb
  cases r2
  cases r1 with
  | nil => exact SeqAt.RcNeAt.lists (e := fun _ => true) ⟨o, ho, hc, n, hd⟩ ⟨o2, ho2, hc2, n2, hd2⟩ rfl hu (fun j h1 _ => absurd h1 (by simp)) _ _ _ _ ⟨.bl _, H, I, rfl, q⟩
  | cons r rr => exact SeqAt.RcNeAt.lists_lengths ⟨o, ho, hc, n, hd⟩ ⟨o2, ho2, hc2, n2, hd2⟩ (by simp) hu _ _ _ _ ⟨.bl _, H, I, rfl, q⟩
end
end EL
namespace KK
open PySem PySem.Spec PyProof.Rows L2 EL
open Evl (pss_cut)
abbrev sDeck : Stmt := topS 11
abbrev sDraw : Stmt := topS 12
abbrev sPick : Stmt := topS 13
theorem scDeck : FnScope ["_law_script", "_law_queue", "_law_blend", "_law_cell"] ["_law_script"] (defScope sDeck) := ⟨rfl, rfl, rfl, by decide +kernel, rfl, by decide +kernel, by decide +kernel⟩
theorem scDraw : FnScope ["_law_deck_here", "_law_below", "_law_blend", "_law_cell"] ["_law_deck_here", "_law_below"] (defScope sDraw) := ⟨rfl, rfl, rfl, by decide +kernel, rfl, by decide +kernel, by decide +kernel⟩
theorem scPick : FnScope ["_law_deck_here", "_law_some"] ["_law_deck_here", "_law_some"] (defScope sPick) := ⟨rfl, rfl, rfl, by decide +kernel, rfl, by decide +kernel, by decide +kernel⟩
section
variable {P : Program} {w : World} {K : PySem.W.Frag} {mg : Str → Option Value} {base : Heap}
theorem ok_deck {f : Addr} {fd : FuncData} {k : Nat} (F : Fun K "_law_deck" "_law_deck" sDeck f fd) (nlist : mg "list" = none) (nint : mg "int" = none) : FnOk P w K mg base CX0 (k + 1) f fd ["_law_script"] (spDeck K) := by
  refine F.ok scDeck (fun vs H Q E h => ?_) (fun cdv A outer s H vs Q E hr h => ?_)
  · obtain ⟨a, ns, rfl, _⟩ := h; rfl
  · obtain ⟨a, ns, rfl, hS, hl, q⟩ := h
    refine ⟨_, pss_cons (ps_par (i := 1) (j := 2) (by rfl) scDeck.nd rfl rfl (by decide) rfl rfl (pa_cons (pe_revL (pe_callTy call_list_of (by rfl) nlist boot_list (pa_cons (pe_slice sl_list (pv 0) po_none (po_some pe_int)) pa_nil))) (pa_cons pe_int pa_nil)) (by rfl))
      (pss_cons (ps_for PassesOwn.never rfl (pi_list (pv 1)) (pg_name (i := 3) scDeck.nd rfl (.inl rfl))
        (pss_one (ps_set (i := 2) scDeck.nd rfl (.inl rfl) (pe_op op_mod (pe_callTy call_int1 (by rfl) nint boot_int (pa_cons (pe_op op_add (pe_op op_add (pe_op op_mul (pv 2) pe_int) (pe_op op_mod (pe_callTy call_int1 (by rfl) nint boot_int (pa_cons (pv 3) pa_nil)) pe_int)) pe_int) pa_nil)) pe_int))))
      (pss_one (ps_ret (pe_lst (pa_cons (pv 1) (pa_cons (pv 2) (pa_cons pe_int pa_nil))))))), ?_⟩
    refine ⟨.ref a, rfl, 63, rfl, a, ns.map V.int, rfl, hS, fun p np => ?_⟩
    have s1 : Same H (upd H p (.lst (cutV (ns.map V.int) none (some 63)))) := same_upd np
    refine ⟨p, cutV (ns.map V.int) none (some 63), rfl, .inl (.inl (.inl upd_same)), fun l nl => ?_⟩
    have s2 := s1.trans (same_upd (o := .lst (cutV (ns.map V.int) none (some 63))) nl)
    refine ⟨l, _, rfl, .inl (.inl upd_same), fun r nr => ?_⟩
    have s3 := s2.trans (same_upd (o := .lst (cutV (ns.map V.int) none (some 63)).reverse) nr)
    obtain ⟨ms, e1, e2⟩ : ∃ ms : List Int, (cutV (ns.map V.int) none (some 63)).reverse = ms.map V.int ∧ ms.length ≤ 63 := by
      refine ⟨(cutI ns 63).reverse, ?_, ?_⟩
      · rw [cutI_map, List.map_reverse]
      · rw [List.length_reverse]; exact cutI_len _ _ hl
    generalize hG : upd (upd (upd H p (.lst (cutV (ns.map V.int) none (some 63)))) l (.lst (cutV (ns.map V.int) none (some 63)))) r (.lst (cutV (ns.map V.int) none (some 63)).reverse) = G at s3 ⊢
    have hr0 : H r = none := (Same.free (s1.trans (same_upd nl)) nr)
    have hGr : G r = some (.lst (ms.map V.int)) := by rw [← hG, upd_same, e1]
    refine ⟨.ref r, .int 95123, rfl, .ref r, rfl, r, rfl, ⟨_, .inl (.inl hGr)⟩, for_list (K := K) (a := r) (xs := ms.map V.int) (fun i σ H' => ∃ (b : Int) (y : Option V), σ = [some (.ref a), some (.ref r), some (.int b), y] ∧ 0 ≤ b ∧ b < 2147483648 ∧ H' = G)
      ⟨_, none, rfl, by decide, by decide, rfl⟩ (fun i σ H' _ ⟨_, _, _, _, _, e⟩ => by rw [e]; exact .inl (.inl hGr)) ?_ ?_⟩
    · rintro i x σ H' hi ⟨b, y, rfl, h0, h1, rfl⟩
      obtain ⟨z, hz, rfl⟩ := get_map_int hi
      refine ⟨_, rfl, b, 40692, rfl, rfl, .inl ⟨by omega, by omega⟩, _, rfl, .inl ⟨_, rfl, _, _, rfl, rfl, (by show (0:Int) < _; decide), ?_⟩⟩
      refine ⟨_, _, rfl, rfl, _, _, rfl, rfl, .inl ⟨_, rfl, _, _, rfl, rfl, (by show (0:Int) < _; decide), ?_⟩⟩
      exact ⟨_, _, rfl, Int.emod_nonneg _ (by decide), Int.lt_trans (Int.emod_lt_of_pos _ (by decide)) (by decide), rfl⟩
    · rintro σ H' ⟨b, y, rfl, h0, h1, rfl⟩
      refine ⟨_, rfl, _, rfl, (by show 3 ≤ sizeLine; decide), fun t nt => ?_⟩
      have s4 := s3.trans (same_upd (o := .lst [.ref r, .int b, .int 0]) nt)
      have tr : r ≠ t := ne_of_none hGr nt
      refine q t r _ s4 ⟨0, Nat.le_refl _, tr.symm, ⟨b, h0, h1, upd_same⟩, ⟨ms, e2, by rw [upd_ne tr]; exact hGr⟩⟩ (s3.free nt) hr0
theorem ok_draw {f : Addr} {fd : FuncData} {k : Nat} (F : Fun K "_law_draw" "_law_draw" sDraw f fd) (nint : mg "int" = none) : FnOk P w K mg base CX0 (k + 1) f fd ["_law_deck_here", "_law_below"] spDraw := by
  refine F.ok scDraw (fun vs H Q E h => ?_) (fun cdv A outer s H vs Q E hr h => ?_)
  · obtain ⟨a, q, m, n, rfl, _⟩ := h; rfl
  · obtain ⟨a, q, m, n, rfl, ⟨c, hc, D⟩, hm, hn0, hn1, kQ⟩ := h
    have hu : _ := hr.units
    refine ⟨_, pss_cons (ps_asg (pe_op op_add (pe_ix ix_list (pv 0) pe_int (fun _ _ => rfl)) pe_int) (pg_sub (pv 0) pe_int set_list))
      (pss_cons (ps_set (i := 2) scDraw.nd rfl (.inl rfl) (pe_op op_add (pe_ix ix_list (pv 0) pe_int (fun _ _ => rfl)) (pe_op op_mul (pe_op op_mul pe_int (pe_ix ix_list (pv 0) pe_int (fun _ _ => rfl))) (pe_ix ix_list (pv 0) pe_int (fun _ _ => rfl)))))
      (pss_cut (ps_if (pt_cmpR (op_neD hu) (pe_ix ix_list (pv 0) pe_int (fun _ _ => rfl)) (pe_lst pa_nil) (nomark _))
        (pss_cons (ps_set (i := 3) scDraw.nd rfl (.inl rfl) (pe_bm0 PySem.F.plainAttrs_list PySem.F.slot_list_pop PySem.F.type_list_pop mt_pop (pe_ix ix_list (pv 0) pe_int (fun _ _ => rfl))))
        (pss_cons (ps_if (pt_cmpR op_ge (pv 3) (pe_op op_pow pe_int pe_int) (nomark _))
          (pss_cons (ps_expr (pe_bm PySem.F.plainAttrs_list PySem.F.slot_list_append PySem.F.type_list_append mt_append (pe_ix ix_list (pv 0) pe_int (fun _ _ => rfl)) (pa_cons (pe_op op_fdiv (pv 3) (pv 1)) pa_nil)))
          (pss_one (ps_ret (pe_op op_mod (pe_callTy call_int1 (by rfl) nint boot_int (pa_cons (pv 3) pa_nil)) (pv 1))))) pss_nil)
        (pss_one (ps_set (i := 2) scDraw.nd rfl (.inl rfl) (pe_op op_add (pv 2) (pv 3)))))) pss_nil)
      (pss_cons (ps_set (i := 2) scDraw.nd rfl (.inl rfl) (pe_op op_mod (pe_op op_mul (pe_op op_mod (pe_callTy call_int1 (by rfl) nint boot_int (pa_cons (pv 2) pa_nil)) pe_int) pe_int) pe_int))
      (pss_cons (ps_set (i := 2) scDraw.nd rfl (.inl rfl) (pe_op op_mod (pe_callTy call_int1 (by rfl) nint boot_int (pa_cons (pe_op op_add (pe_op op_add (pe_op op_mul (pv 2) (pv 2)) (pe_op op_mul pe_int (pe_ix ix_list (pv 0) pe_int (fun _ _ => rfl)))) pe_int) pa_nil)) pe_int))
      (pss_one (ps_ret (pe_op op_mod (pe_op op_fdiv (pe_op op_mod (pe_callTy call_int1 (by rfl) nint boot_int (pa_cons (pe_op op_mul (pv 2) pe_int) pa_nil)) pe_int) pe_int) (pv 1)))))))), ?_⟩
    obtain ⟨b, hb0, hb1, hA⟩ := D.top
    obtain ⟨ns, hns, hQ⟩ := D.que
    have hc2 : c < 1000000000 := by omega
    -- the count goes up
    refine ⟨.ref a, rfl, a, _, 2, .int c, rfl, rfl, sqOf hA, rfl, c, 1, rfl, rfl, .ref a, rfl, a, _, 2, 2, rfl, rfl, hA, rfl, ?_⟩
    generalize hG : L2.upd H a (.lst (([.ref q, .int b, .int (c : Int)] : List V).set 2 (.int ((c : Int) + 1)))) = G
    have hGa : G a = some (.lst [.ref q, .int b, .int ((c : Int) + 1)]) := by rw [← hG]; exact upd_same
    have hGq : G q = some (.lst (ns.map V.int)) := by rw [← hG, upd_ne D.ne.symm]; exact hQ
    have oG : EL.Off a q H G := fun x o h1 h2 h => by rw [← hG, upd_ne h1]; exact h
    have dkG : Dk a q (c + 1) G := ⟨D.ne, ⟨b, hb0, hb1, by rw [hGa]; rfl⟩, ⟨ns, hns, hGq⟩⟩
    -- blend
    refine ⟨.ref a, rfl, a, _, 1, .int b, rfl, rfl, sqOf hGa, rfl, .ref a, rfl, a, _, 2, .int ((c : Int) + 1), rfl, rfl, sqOf hGa, rfl, _, _, rfl, rfl, .inr ⟨by omega, by omega⟩,
      .ref a, rfl, a, _, 2, .int ((c : Int) + 1), rfl, rfl, sqOf hGa, rfl, _, _, rfl, rfl, .inr ⟨by omega, by omega⟩, _, _, rfl, rfl, ?_⟩
    generalize hbl : b + 72013 * ((c : Int) + 1) * ((c : Int) + 1) = bl
    refine ⟨fun σ H' => ∃ (z : Int) (y : Option V), σ = [some (.ref a), some (.int n), some (.int z), y] ∧ EL.Off a q H H' ∧ Dk a q (c + 1) H', ?_, ?_⟩
    · refine ⟨.ref a, rfl, a, _, 0, .ref q, rfl, rfl, sqOf hGa, rfl, Nat.zero_le _, fun l nl => ?_⟩
      have hlq : q ≠ l := ne_of_none hGq nl
      have hla : a ≠ l := ne_of_none hGa nl
      generalize hG2 : L2.upd G l (.lst []) = G2
      have s2 : Same G G2 := by rw [← hG2]; exact same_upd nl
      have dk2 := dkG.same s2
      have o2 : EL.Off a q H G2 := oG.trans (.of_same s2)
      have hl2 : G2 l = some (.lst []) := by rw [← hG2]; exact upd_same
      have hq2 := s2 _ _ hGq
      have ha2 := s2 _ _ hGa
      refine ⟨.list (ns.map PyData.int), .list [], .lst (sqOf hq2) (dpInts ns), .lst (sqOf hl2) .nil, shaped_ints ns, rfl, _, rfl, ?_⟩
      rw [eqv_nil]
      by_cases hz : ns = []
      · rw [decide_eq_true hz]
        exact iteF ⟨_, none, rfl, o2, dk2⟩
      · rw [decide_eq_false hz]
        refine iteT ?_
        obtain ⟨y, hy⟩ := last_int hz
        refine ⟨.ref a, rfl, a, _, 0, .ref q, rfl, rfl, sqOf ha2, rfl, .inl ⟨rfl, _, sqOf hq2⟩, q, _, .int y, rfl, rfl, hq2, hy, ?_⟩
        generalize hG3 : L2.upd G2 q (.lst (ns.map V.int).dropLast) = G3
        have o3 : EL.Off a q H G3 := o2.trans fun x o h1 h2 h => by rw [← hG3, upd_ne h2]; exact h
        have ha3 : G3 a = some (.lst [.ref q, .int b, .int ((c : Int) + 1)]) := by rw [← hG3, upd_ne D.ne]; exact ha2
        have hq3 : G3 q = some (.lst (ns.dropLast.map V.int)) := by rw [← hG3, upd_same, List.map_dropLast]
        have hl3 : ns.dropLast.length ≤ 62 := by rw [List.length_dropLast]; omega
        have dk3 : Dk a q (c + 1) G3 := ⟨D.ne, ⟨b, hb0, hb1, by rw [ha3]; rfl⟩, ⟨_, by omega, hq3⟩⟩
        refine ⟨_, rfl, 10, 18, rfl, rfl, ⟨by decide, by decide, by decide⟩, y, _, rfl, rfl, _, rfl, ite2 (fun _ => ?_) (fun _ => ?_)⟩
        · refine ⟨.ref a, rfl, a, _, 0, .ref q, rfl, rfl, sqOf ha3, rfl, .inl ⟨rfl, _, sqOf hq3⟩, _, rfl, _, rfl, y, n, rfl, rfl, ⟨by omega, by omega⟩, q, _, _, rfl, rfl, hq3, (by rw [List.length_map]; exact lt_sz (by omega)), ?_⟩
          generalize hG4 : L2.upd G3 q (.lst (ns.dropLast.map V.int ++ [V.int (y / n)])) = G4
          have o4 : EL.Off a q H G4 := o3.trans fun x o h1 h2 h => by rw [← hG4, upd_ne h2]; exact h
          have ha4 : G4 a = some (.lst [.ref q, .int b, .int ((c : Int) + 1)]) := by rw [← hG4, upd_ne D.ne]; exact ha3
          have hq4 : G4 q = some (.lst ((ns.dropLast ++ [y / n]).map V.int)) := by rw [← hG4, upd_same, List.map_append]; rfl
          have dk4 : Dk a q (c + 1) G4 := ⟨D.ne, ⟨b, hb0, hb1, by rw [ha4]; rfl⟩, ⟨_, by rw [List.length_append]; show _ + 1 ≤ 63; omega, hq4⟩⟩
          refine ⟨_, rfl, .inl ⟨_, rfl, _, rfl, _, _, rfl, rfl, hn0, ?_⟩⟩
          exact kQ _ _ (Int.emod_nonneg _ (by omega)) (Int.emod_lt_of_pos _ hn0) o4 ⟨c + 1, by omega, dk4⟩
        · exact ⟨_, rfl, _, rfl, _, _, rfl, rfl, _, some (.int y), rfl, o3, dk3⟩
    · rintro σ H' ⟨z, y, rfl, o5, D5⟩
      obtain ⟨b5, hb0', hb1', hA5⟩ := D5.top
      refine ⟨_, rfl, .inl ⟨_, rfl, _, _, rfl, rfl, (by show (0:Int) < _; decide), _, _, rfl, rfl, .inr ⟨by omega, by omega⟩, _, _, rfl, rfl, (by show (0:Int) < _; decide), ?_⟩⟩
      refine ⟨_, rfl, _, rfl, _, _, rfl, rfl, .inl ⟨by omega, by omega⟩, .ref a, rfl, a, _, 2, .int ((c + 1 : Nat) : Int), rfl, rfl, sqOf hA5, rfl, _, _, rfl, rfl, .inl ⟨by omega, by omega⟩, _, _, rfl, rfl, _, _, rfl, rfl, .inl ⟨_, rfl, _, _, rfl, rfl, (by show (0:Int) < _; decide), ?_⟩⟩
      refine ⟨_, rfl, _, _, rfl, rfl, .inr ⟨by omega, by omega⟩, .inl ⟨_, rfl, _, _, rfl, rfl, (by show (0:Int) < _; decide), _, _, rfl, rfl, ⟨by omega, by omega⟩, _, rfl, _, _, rfl, rfl, hn0, ?_⟩⟩
      exact kQ _ _ (Int.emod_nonneg _ (by omega)) (Int.emod_lt_of_pos _ hn0) o5 ⟨c + 1, by omega, D5⟩
theorem ok_pick {f : Addr} {fd : FuncData} {k : Nat} (F : Fun K "_law_pick" "_law_pick" sPick f fd) (nlen : mg "len" = none) (C : Cal P w K mg base (k + 1) "_law_draw" ["_law_deck_here", "_law_below"] spDraw) :
    FnOk P w K mg base CX0 (k + 2) f fd ["_law_deck_here", "_law_some"] (spPick K) := by
  refine F.ok scPick (fun vs H Q E h => ?_) (fun cdv A outer s H vs Q E hr h => ?_)
  · obtain ⟨a, q, m, y, rfl, _⟩ := h; rfl
  · obtain ⟨a, q, m, y, rfl, hD, hm, h⟩ := h
    refine ⟨_, pss_one (ps_ret (pe_ix ix_seq (pv 1) (pe_cal C hr (by rfl) pass0 (pa_cons (pv 0) (pa_cons (pe_callB call_len (by rfl) nlen boot_len (pa_cons (pv 1) pa_nil)) pa_nil))) (fun _ _ => rfl))), ?_⟩
    refine ⟨y, rfl, .ref a, rfl, y, rfl, ?_⟩
    rcases h with ⟨l, xs, rfl, hS, hne, hlen, kQ⟩ | ⟨z, rfl, hne, hlen, kQ⟩
    · have hS' : SqL K H l xs := ex_l' hid_sub hS
      have hp : 0 < xs.length := List.length_pos_iff.mpr hne
      refine ⟨_, _, rfl, .inl ⟨_, hS', rfl⟩, a, q, m, _, rfl, hD, hm, by omega, by omega, fun j H' h0 h1 o D' => ?_⟩
      obtain ⟨i, rfl⟩ := Int.eq_ofNat_of_zero_le h0
      have hi : i < xs.length := by omega
      refine .inl ⟨l, xs, (i : Int), xs[i], rfl, rfl, ex_l' hid_sub (ex_l' o.hid hS), atI_nat (List.getElem?_eq_getElem hi), ?_⟩
      exact kQ i _ H' (List.getElem?_eq_getElem hi) o D'
    · refine ⟨_, _, rfl, ⟨len_sz hlen, rfl⟩, a, q, m, _, rfl, hD, hm, by omega, by omega, fun j H' h0 h1 o D' => ?_⟩
      obtain ⟨i, rfl⟩ := Int.eq_ofNat_of_zero_le h0
      have hi : i < z.cps.toList.length := by
        have e : z.cps.toList.length = z.length := by rw [Array.length_toList]; rfl
        omega
      refine .inr (.inr ⟨z, (i : Int), z.cps.toList[i], rfl, rfl, len_sz hlen, atI_nat (List.getElem?_eq_getElem hi), ?_⟩)
      exact kQ i _ H' (List.getElem?_eq_getElem hi) o D'
end
end KK
namespace KK
open PySem PySem.Spec PyProof.Rows L2 EL
mutual
/-- signs below 128, the number 0 alone, dicts that are empty -/
def asc : PyData → Bool
  | .none | .bool _ => true
  | .int i => decide (i = 0)
  | .str x => x.cps.toList.all fun c => decide (c < 128)
  | .list xs | .tuple xs => ascs xs
  | .dict kvs => kvs.isEmpty
def ascs : List PyData → Bool
  | [] => true
  | x :: xs => asc x && ascs xs
end
theorem ascs_all : ∀ ds : List PyData, ascs ds = ds.all asc
  | [] => by simp [ascs]
  | d :: r => by simp [ascs, ascs_all r]
mutual
theorem asc_showable : ∀ d : PyData, asc d = true → d.showable = true
  | .none, _ => by simp [PyData.showable]
  | .bool _, _ => by simp [PyData.showable]
  | .int i, h => by
    have : i = 0 := by simpa [asc] using h
    subst this; simp [PyData.showable]
  | .str _, _ => by simp [PyData.showable]
  | .list xs, h => by
    have := ascs_showable xs (by simpa [asc] using h)
    simpa [PyData.showable] using this
  | .tuple xs, h => by
    have := ascs_showable xs (by simpa [asc] using h)
    simpa [PyData.showable] using this
  | .dict kvs, h => by
    have : kvs = [] := by simpa [asc] using h
    subst this; simp [PyData.showable, PyData.showableKv]
theorem ascs_showable : ∀ ds : List PyData, ascs ds = true → PyData.showableAll ds = true
  | [], _ => by simp [PyData.showableAll]
  | d :: r, h => by
    obtain ⟨h1, h2⟩ : asc d = true ∧ ascs r = true := by simpa [ascs] using h
    simp [PyData.showableAll, asc_showable d h1, ascs_showable r h2]
end
mutual
theorem asc_short : ∀ d : PyData, asc d = true → d.leavesShort 13 = true
  | .none, _ => by simp [PyData.leavesShort]
  | .bool _, _ => by simp [PyData.leavesShort]
  | .int i, h => by
    have : i = 0 := by simpa [asc] using h
    subst this
    simp only [PyData.leavesShort]; decide +kernel
  | .str x, h => by
    simp only [PyData.leavesShort, List.all_eq_true, decide_eq_true_eq]
    simp only [asc, List.all_eq_true, decide_eq_true_eq] at h
    intro c hc
    have := h c hc
    omega
  | .list xs, h => by
    have := ascs_short xs (by simpa [asc] using h)
    simpa [PyData.leavesShort] using this
  | .tuple xs, h => by
    have := ascs_short xs (by simpa [asc] using h)
    simpa [PyData.leavesShort] using this
  | .dict kvs, h => by
    have : kvs = [] := by simpa [asc] using h
    subst this; simp [PyData.leavesShort, PyData.leavesShortKv]
theorem ascs_short : ∀ ds : List PyData, ascs ds = true → PyData.leavesShortAll 13 ds = true
  | [], _ => by simp [PyData.leavesShortAll]
  | d :: r, h => by
    obtain ⟨h1, h2⟩ : asc d = true ∧ ascs r = true := by simpa [ascs] using h
    simp [PyData.leavesShortAll, asc_short d h1, ascs_short r h2]
end
theorem strOk_asc {x : Str} (h : (x.cps.toList.all fun c => decide (c < 128)) = true) : PyData.strOk x = true := by
  simp only [List.all_eq_true, decide_eq_true_eq] at h
  unfold PyData.strOk
  rw [Array.all_eq_true_iff_forall_mem]
  intro c hc
  have := h c (Array.mem_def.mp hc)
  exact decide_eq_true (by omega)
mutual
theorem asc_lay : ∀ d : PyData, asc d = true → d.hasDict = false → d.canLay0 = true
  | .none, _, _ => by simp [PyData.canLay0]
  | .bool _, _, _ => by simp [PyData.canLay0]
  | .int i, _, _ => by simp [PyData.canLay0]
  | .str x, h, _ => by
    simp only [PyData.canLay0]
    exact strOk_asc (by simpa only [asc] using h)
  | .list xs, h, n => by
    have := ascs_lay xs (by simpa [asc] using h) (by simpa [PyData.hasDict] using n)
    simpa [PyData.canLay0] using this
  | .tuple xs, h, n => by
    have := ascs_lay xs (by simpa [asc] using h) (by simpa [PyData.hasDict] using n)
    simpa [PyData.canLay0] using this
  | .dict kvs, _, n => by simp [PyData.hasDict] at n
theorem ascs_lay : ∀ ds : List PyData, ascs ds = true → PyData.hasDictAll ds = false → PyData.canLayAll0 ds = true
  | [], _, _ => by simp [PyData.canLayAll0]
  | d :: r, h, n => by
    obtain ⟨h1, h2⟩ : asc d = true ∧ ascs r = true := by simpa [ascs] using h
    obtain ⟨n1, n2⟩ : d.hasDict = false ∧ PyData.hasDictAll r = false := by simpa [PyData.hasDictAll] using n
    simp [PyData.canLayAll0, asc_lay d h1 n1, ascs_lay r h2 n2]
end
theorem shaped_asc {d : PyData} (h : asc d = true) (n : d.hasDict = false) (hd : d.depth ≤ 64) : SeqAt.shaped d = true := by
  have := asc_lay d h n
  simp only [SeqAt.shaped, this, Bool.true_and]
  exact decide_eq_true hd
/-- a list of single signs -/
abbrev sgs (cs : List Nat) : PyData := .list (cs.map fun c => PyData.str ⟨#[c]⟩)
theorem dpSgs {K : PySem.W.Frag} {H : Hp} : ∀ cs : List Nat, DpAll K H ((cs.map fun c => (⟨#[c]⟩ : Str)).map V.str) (cs.map fun c => PyData.str ⟨#[c]⟩)
  | [] => .nil
  | c :: r => .cons (.str _) (dpSgs r)
theorem asc_sgs : ∀ {cs : List Nat}, (∀ c ∈ cs, c < 128) → ascs (cs.map fun c => PyData.str ⟨#[c]⟩) = true
  | [], _ => by simp [ascs]
  | c :: r, h => by
    have := asc_sgs (cs := r) fun d m => h d (List.mem_cons_of_mem _ m)
    have h1 := h c List.mem_cons_self
    simp [ascs, asc, this, h1]
theorem noDict_sgs : ∀ cs : List Nat, PyData.hasDictAll (cs.map fun c => PyData.str ⟨#[c]⟩) = false
  | [] => by simp [PyData.hasDictAll]
  | c :: r => by simp only [List.map_cons, PyData.hasDictAll, PyData.hasDict, noDict_sgs r, Bool.or_self]
theorem depth_sgs : ∀ cs : List Nat, PyData.depthAll (cs.map fun c => PyData.str ⟨#[c]⟩) = 0
  | [] => by simp [PyData.depthAll]
  | c :: r => by simp [PyData.depthAll, PyData.depth, depth_sgs r]
theorem shaped_sgs {cs : List Nat} (h : ∀ c ∈ cs, c < 128) : SeqAt.shaped (sgs cs) = true :=
  shaped_asc (by simpa [asc] using asc_sgs h) (by simpa only [PyData.hasDict] using noDict_sgs cs) (by simp only [PyData.depth, depth_sgs]; omega)
theorem eqv_sgs (cs : List Nat) : PyData.eqv (sgs cs) (.list []) = decide (cs = []) := by
  cases cs <;> simp [sgs, PyData.eqv, PyData.eqvAll]
/-- a look at data of ascii -/
def spLookA (K : PySem.W.Frag) (f : PyData → Bool) : Sp := fun vs H Q _ => ∃ (v : V) (d : PyData), vs = [v] ∧ Dq K H v d ∧ Sz d ∧ asc d = true ∧ d.depth ≤ 60 ∧ ∀ H', Same H H' → Q (.bl (f d)) H'
/-- the letters left out -/
def keepL (c : Nat) : Option V := if isLow c = true then none else some (.str ⟨#[c]⟩)
theorem keepL_map (cs : List Nat) : (cs.map keepL).filterMap id = ((cs.filter fun c => !isLow c).map fun c => (⟨#[c]⟩ : Str)).map V.str := by
  induction cs with
  | nil => rfl
  | cons c r ih =>
    by_cases h : isLow c = true
    · simp only [List.map_cons, keepL, if_pos h, List.filterMap_cons, id_eq]
      rw [List.filter_cons_of_neg (by simp [h])]
      exact ih
    · simp only [List.map_cons, keepL, if_neg h, List.filterMap_cons, id_eq]
      rw [List.filter_cons_of_pos (by simp [h]), List.map_cons, List.map_cons]
      exact congrArg _ ih
theorem offNone {a q b : Addr} {m : Nat} {H H' : Hp} (o : Off a q H H') (d : Dw a q m H') (h : H' b = none) : H b = none := by
  cases e : H b with
  | none => rfl
  | some x =>
    obtain ⟨h1, h2⟩ := d.na h
    rw [o b x h1 h2 e] at h; cases h
theorem offUpd {a q b : Addr} {H H' : Hp} {x : HO} (o : Off a q H H') (h : H b = none) : Off a q H (upd H' b x) := fun c y h1 h2 e => by
  rw [upd_ne (ne_of_none e h)]; exact o c y h1 h2 e
theorem rows_signs {p : Nat → Prop} : ∀ {ys : List (Option V)}, (∀ (j : Nat) (v : Option V), ys[j]? = some v → ∃ c, p c ∧ v = some (.str ⟨#[c]⟩)) → ∃ cs : List Nat, ys.filterMap id = (cs.map fun c => (⟨#[c]⟩ : Str)).map V.str ∧ cs.length = ys.length ∧ ∀ c ∈ cs, p c
  | [], _ => ⟨[], rfl, rfl, fun _ m => (List.not_mem_nil m).elim⟩
  | y :: r, h => by
    obtain ⟨c, hc, e⟩ := h 0 y rfl
    obtain ⟨cs, e1, e2, e3⟩ := rows_signs (ys := r) fun j v e => h (j + 1) v (by rw [List.getElem?_cons_succ]; exact e)
    refine ⟨c :: cs, ?_, by rw [List.length_cons, List.length_cons, e2], fun d m => ?_⟩
    · subst e; rw [List.filterMap_cons]; simp only [id_eq, List.map_cons, e1]
    · rcases List.mem_cons.mp m with rfl | m
      · exact hc
      · exact e3 d m
end KK
namespace KK
open PySem PySem.Spec PyProof.Rows L2 EL
open Evl (pss_cut)
abbrev sLWord : Stmt := topS 14
theorem scLWord : FnScope ["_law_deck_here", "_law_top", "_law_turn"] ["_law_deck_here", "_law_top"] (defScope sLWord) := ⟨rfl, rfl, rfl, by decide +kernel, rfl, by decide +kernel, by decide +kernel⟩
abbrev sLSigns : Stmt := topS 15
theorem scLSigns : FnScope ["_law_x", "_law_y", "_law_found", "_law_k"] ["_law_x", "_law_y"] (defScope sLSigns) := ⟨rfl, rfl, rfl, by decide +kernel, rfl, by decide +kernel, by decide +kernel⟩
abbrev sLIsText : Stmt := topS 16
theorem scLIsText : FnScope ["_law_it", "_law_sign"] ["_law_it"] (defScope sLIsText) := ⟨rfl, rfl, rfl, by decide +kernel, rfl, by decide +kernel, by decide +kernel⟩
/-- a word of letters among a, b, z -/
def spWord : Sp := fun vs H Q _ => ∃ (a q : Addr) (m t : Nat), vs = [.ref a, .int (t : Int)] ∧ Dw a q m H ∧ m + 1000 < 1000000000 ∧ t ≤ 100 ∧
  ∀ (cs : List Nat) H', cs.length ≤ t → (∀ c ∈ cs, c = 97 ∨ c = 98 ∨ c = 122) → Off a q H H' → Dw a q (m + t + 1) H' → Q (.str ⟨cs.toArray⟩) H'
theorem hid_upd {l : Addr} {H : Hp} {o : HO} : hid l l (upd H l o) = hid l l H := by
  funext b
  by_cases h : b = l
  · subst h; unfold hid; simp
  · rw [hid_ne h h, hid_ne h h, upd_ne h]
theorem hid_fresh {l p : Addr} {H : Hp} {o : HO} (h : H p = none) : Same (hid l l H) (hid l l (upd H p o)) := fun b x e => by
  obtain ⟨h1, _, h3⟩ := hid_some e
  rw [hid_ne h1 h1, upd_ne (ne_of_none h3 h)]; exact h3
theorem DqAll.snoc {K : PySem.W.Frag} {H : Hp} {v : V} {d : PyData} : ∀ {ds : List PyData} {vs : List V}, DqAll K H vs ds → Dq K H v d → DqAll K H (vs ++ [v]) (ds ++ [d])
  | [], _, h, e => by cases h; exact .cons e .nil
  | _ :: _, _, h, e => by
    cases h with
    | cons h1 h2 => exact .cons h1 (DqAll.snoc h2 e)
/-- the sign at a place, a dash beyond -/
def at45 (xs : List Nat) (i : Nat) : Nat := xs.getD i 45
theorem rowN_eq (xs ys : List Nat) : rowN xs ys = (List.range (max xs.length ys.length)).map fun i => (at45 xs i, at45 ys i) := by
  have pad : ∀ (zs : List Nat) (n i : Nat), i < n → zs.length ≤ n → (padL zs n)[i]? = some (at45 zs i) := by
    intro zs n i h hz
    unfold padL at45
    by_cases q : i < zs.length
    · rw [List.getElem?_append_left q, List.getD_eq_getElem?_getD, List.getElem?_eq_getElem q]; rfl
    · rw [List.getElem?_append_right (by omega), List.getElem?_replicate_of_lt (by omega), List.getD_eq_getElem?_getD, List.getElem?_eq_none (by omega)]; rfl
  refine List.ext_getElem? fun i => ?_
  rw [List.getElem?_map]
  by_cases q : i < max xs.length ys.length
  · rw [List.getElem?_range q]
    unfold rowN
    rw [List.getElem?_zip_eq_some (z := (at45 xs i, at45 ys i)) |>.mpr ⟨pad xs _ i q (Nat.le_max_left _ _), pad ys _ i q (Nat.le_max_right _ _)⟩]
    rfl
  · rw [List.getElem?_eq_none (by unfold rowN; rw [List.length_zip, padL_len (Nat.le_max_left _ _), padL_len (Nat.le_max_right _ _)]; omega), List.getElem?_eq_none (by rw [List.length_range]; omega)]; rfl
theorem range_snoc {α : Type} (f : Nat → α) (n : Nat) : (List.range (n + 1)).map f = (List.range n).map f ++ [f n] := by
  rw [List.range_succ, List.map_append]; rfl
/-- the first i pairs -/
def rowI (xs ys : List Nat) (i : Nat) : List PyData := ((List.range i).map fun i => (at45 xs i, at45 ys i)).map pr
theorem rowI_succ (xs ys : List Nat) (i : Nat) : rowI xs ys (i + 1) = rowI xs ys i ++ [pr (at45 xs i, at45 ys i)] := by
  unfold rowI; rw [range_snoc, List.map_append]; rfl
theorem at45_some {z : Str} {i : Nat} (h : i < z.length) : atI z.cps.toList (i : Int) = some (at45 z.cps.toList i) := by
  rw [str_len] at h
  refine atI_nat ?_
  unfold at45
  rw [List.getD_eq_getElem?_getD, List.getElem?_eq_getElem h]; rfl
theorem at45_none {z : Str} {i : Nat} (h : ¬ i < z.length) : (⟨#[at45 z.cps.toList i]⟩ : Str) = "-" := by
  rw [str_len] at h
  unfold at45
  rw [List.getD_eq_getElem?_getD, List.getElem?_eq_none (by omega)]; decide
section
variable {P : Program} {w : World} {K : PySem.W.Frag} {mg : Str → Option Value} {base : Heap}
theorem ok_LWord {f : Addr} {fd : FuncData} {k : Nat} (F : Fun K "_law_word" "_law_word" sLWord f fd) (nrange : mg "range" = none)  (CLDraw : Cal P w K mg base k "_law_draw" ["_law_deck_here", "_law_below"] spDraw) (CLPick : Cal P w K mg base k "_law_pick" ["_law_deck_here", "_law_some"] (spPick K)) : FnOk P w K mg base CX0 (k + 1) f fd ["_law_deck_here", "_law_top"] spWord := by
  refine F.ok scLWord (fun vs H Q E h => ?_) (fun cdv A outer s H vs Q E hr h => ?_)
  · obtain ⟨a, q, m, t, rfl, _⟩ := h; rfl
  · obtain ⟨a, q, m, t, rfl, hD, hm, ht, kQ⟩ := h
    have hu := hr.units
    refine ⟨_, (pss_one (ps_ret (pe_join pe_str (pe_lc (own := [("_law_turn", 2)]) (g := (gName 2)) (by rfl) scLWord.nd (pi_range1 rfl nrange (pa_cons (pe_cal CLDraw hr (by rfl) pass0 (pa_cons (pv 0) (pa_cons (pe_op op_add (pv 1) pe_int) pa_nil))) pa_nil)) (blkOk_by (own := [("_law_turn", 2)]) (N := ["_law_deck_here", "_law_top", "_law_turn"]) (sc := defScope sLWord) (by decide +kernel)) (fun _ _ _ _ _ => (pg_name (i := 2) scLWord.nd rfl (by first | exact Or.inl rfl | exact Or.inr rfl))) (fun _ _ _ _ _ => pts_nil) (fun _ _ _ _ _ => (pe_cal CLPick hr (by rfl) pass0 (pa_cons (pv 0) (pa_cons pe_str pa_nil)))))))), ?_⟩
    refine ⟨⟨_, rfl⟩, .ref a, rfl, _, rfl, _, _, rfl, rfl, a, q, m, _, rfl, hD, by omega, by omega, by omega, fun n H1 h0 h1 o1 D1 => ?_⟩
    obtain ⟨n, rfl⟩ := Int.eq_ofNat_of_zero_le h0
    have hn : n ≤ t := by omega
    refine ⟨_, rfl, by omega, by omega, fun D nD => ?_⟩
    have nH : H D = none := offNone o1 D1 nD
    have na := D1.na nD
    rw [show (n : Int).toNat = n from Int.toNat_natCast n]
    refine lc_it walk_range (LcP D (fun i H' => Off a q H H' ∧ Dw a q (m + 1 + i) H') (fun j v => ∃ c, (c = 97 ∨ c = 98 ∨ c = 122) ∧ v = some (.str ⟨#[c]⟩))) (LcP.start ⟨offUpd o1 nH, D1.upd na.1 na.2⟩) (fun _ _ _ _ => trivial) ?_ ?_
    · rintro i y H2 H3 hi ⟨ys, hl, hR, hD2, o2, D2⟩ ⟨rfl, rfl⟩
      refine ⟨rfl, ?_⟩
      dsimp only [tYes]
      refine iteT ?_
      refine ⟨.ref a, rfl, a, q, m + 1 + i, _, rfl, D2, by omega, .inr ⟨_, rfl, by decide, by decide, fun j c H4 hc o4 D4 => ?_⟩⟩
      have o5 := o2.trans o4
      refine lcp_some hl hR (o4 _ _ na.1 na.2 hD2) (by omega) ⟨c, ?_, rfl⟩ ⟨offUpd o5 nH, D4.upd na.1 na.2⟩
      have hm := List.mem_of_getElem? hc
      have key : ∀ x ∈ (Str.ofString "abz").cps.toList, x = 97 ∨ x = 98 ∨ x = 122 := by decide
      exact key c hm
    rintro H2 ⟨ys, hl, hR, hD2, o2, D2⟩
    obtain ⟨cs, e1, e2, e3⟩ := rows_signs hR
    rw [e1] at hD2
    refine ⟨_, D, cs.map (fun c => (⟨#[c]⟩ : Str)), rfl, rfl, .inl (sqOf hD2), ?_, ?_⟩
    · rw [ones, List.length_map]
      show _ + _ * 0 ≤ _
      omega
    · rw [join_signs]
      exact kQ cs H2 (by omega) e3 o2 (D2.mono (by omega))
theorem ok_LSigns {f : Addr} {fd : FuncData} {k : Nat} (F : Fun K "_law_signs" "_law_signs" sLSigns f fd) (nrange : mg "range" = none) (nmax : mg "max" = none) (nlen : mg "len" = none) (ntuple : mg "tuple" = none)   : FnOk P w K mg base CX0 (k + 1) f fd ["_law_x", "_law_y"] (spRow K) := by
  refine F.ok scLSigns (fun vs H Q E h => ?_) (fun cdv A outer s H vs Q E hr h => ?_)
  · obtain ⟨a, b, rfl, _⟩ := h; rfl
  · obtain ⟨a, b, rfl, ha, hb, q⟩ := h
    have hu := hr.units
    refine ⟨_, (pss_cons (ps_set (i := 2) scLSigns.nd rfl (by first | exact Or.inl rfl | exact Or.inr rfl) (pe_lst pa_nil))
      (pss_cons (ps_for PassesOwn.never rfl (pi_range1 rfl nrange (pa_cons (pe_callB (call_max2 rfl) (by rfl) nmax (by decide +kernel) (pa_cons (pe_callB call_len (by rfl) nlen boot_len (pa_cons (pv 0) pa_nil)) (pa_cons (pe_callB call_len (by rfl) nlen boot_len (pa_cons (pv 1) pa_nil)) pa_nil))) pa_nil)) (pg_name (i := 3) scLSigns.nd rfl (by first | exact Or.inl rfl | exact Or.inr rfl)) (pss_one (ps_expr (pe_bm PySem.F.plainAttrs_list PySem.F.slot_list_append PySem.F.type_list_append mt_append (pv 2) (pa_cons (pe_tup (pa_cons (pe_ifExp (pt_cmpR op_lt (pv 3) (pe_callB call_len (by rfl) nlen boot_len (pa_cons (pv 0) pa_nil)) (nomark _)) (pe_ix ix_str (pv 0) (pv 3) (fun _ _ => rfl)) pe_str) (pa_cons (pe_ifExp (pt_cmpR op_lt (pv 3) (pe_callB call_len (by rfl) nlen boot_len (pa_cons (pv 1) pa_nil)) (nomark _)) (pe_ix ix_str (pv 1) (pv 3) (fun _ _ => rfl)) pe_str) pa_nil))) pa_nil)))))
      (pss_one (ps_ret (pe_callTy call_tuple_of (by rfl) ntuple boot_tuple (pa_cons (pv 2) pa_nil)))))), ?_⟩
    refine ⟨Nat.zero_le _, fun l nl => ?_⟩
    refine ⟨.str a, rfl, .str a, (a.length : Nat), rfl, ⟨len_sz ha, rfl⟩, .str b, rfl, .str b, (b.length : Nat), rfl, ⟨len_sz hb, rfl⟩, _, _, rfl, ?_⟩
    have em : (if (b.length : Int) > (a.length : Int) then (b.length : Int) else (a.length : Int)) = ((max a.length b.length : Nat) : Int) := by
      split <;> omega
    rw [em]
    generalize hm : max a.length b.length = m
    have hm1 : m ≤ 1000000 := by omega
    refine ⟨_, rfl, by omega, by omega, ?_⟩
    rw [show (m : Int).toNat = m from Int.toNat_natCast m]
    refine for_it walk_range (fun i σ H' => ∃ (y : Option V) (vs : List V), σ = [some (.str a), some (.str b), some (.ref l), y] ∧ Same H H' ∧ H' l = some (.lst vs) ∧ vs.length = i ∧ DqAll K (hid l l H') vs (rowI a.cps.toList b.cps.toList i)) ⟨none, [], rfl, same_upd nl, upd_same, rfl, .nil⟩ (fun _ _ _ _ _ => trivial) ?_ ?_
    · rintro i y σ H1 H2 hi ⟨y0, vs, rfl, sm, hl, hn, hA⟩ ⟨rfl, rfl⟩
      refine ⟨.ref l, rfl, .inl ⟨rfl, _, sqOf hl⟩, _, rfl, .str a, rfl, .str a, (a.length : Nat), rfl, ⟨len_sz ha, rfl⟩, _, _, rfl, rfl, _, rfl, ?_⟩
      have zi : V.int (0 + ((i : Nat) : Int)) = V.int (i : Int) := by rw [Int.zero_add]
      have fin : ∀ p, H2 p = none → ∃ (y : Option V) (us : List V), [some (.str a), some (.str b), some (.ref l), some (.int (0 + (i : Nat)))] = [some (.str a), some (.str b), some (.ref l), y] ∧ Same H (upd (upd H2 p (.tup [.str ⟨#[at45 a.cps.toList i]⟩, .str ⟨#[at45 b.cps.toList i]⟩])) l (.lst (vs ++ [.ref p]))) ∧
          upd (upd H2 p (.tup [.str ⟨#[at45 a.cps.toList i]⟩, .str ⟨#[at45 b.cps.toList i]⟩])) l (.lst (vs ++ [.ref p])) l = some (.lst us) ∧ us.length = i + 1 ∧ DqAll K (hid l l (upd (upd H2 p (.tup [.str ⟨#[at45 a.cps.toList i]⟩, .str ⟨#[at45 b.cps.toList i]⟩])) l (.lst (vs ++ [.ref p])))) us (rowI a.cps.toList b.cps.toList (i + 1)) := fun p np => by
        refine ⟨_, vs ++ [.ref p], rfl, fun b o e => ?_, upd_same, by rw [List.length_append, hn]; rfl, ?_⟩
        · rw [upd_ne (ne_of_none e nl)]; exact sm.trans (same_upd np) b o e
        · rw [rowI_succ, hid_upd]
          refine DqAll.snoc (hA.up (hid_fresh np)) (.tup (stOf ?_) (.cons (.str _) (.cons (.str _) .nil)))
          have lp : p ≠ l := (ne_of_none hl np).symm
          rw [hid_ne lp lp, upd_same]
      have two : 2 ≤ sizeLine := by decide
      have lv : vs.length < sizeLine := lt_sz (by omega)
      have lcell : ∀ (p : Addr) (o : HO), H2 p = none → upd H2 p o l = some (.lst vs) := fun p o np => by rw [upd_ne (ne_of_none hl np)]; exact hl
      have d1 : ∀ z : Str, decide ((0 : Int) + (i : Nat) < (z.length : Int)) = decide (i < z.length) := fun z => by
        rw [Int.zero_add]; exact decide_eq_decide.mpr (by omega)
      rw [d1]
      by_cases h1 : i < a.length
      · rw [decide_eq_true h1]
        refine iteT ⟨.str a, rfl, _, rfl, a, (i : Int), at45 a.cps.toList i, rfl, zi, len_sz ha, at45_some h1, ?_⟩
        refine ⟨_, rfl, .str b, rfl, .str b, (b.length : Nat), rfl, ⟨len_sz hb, rfl⟩, _, _, rfl, rfl, _, rfl, ?_⟩
        rw [d1]
        by_cases h2 : i < b.length
        · rw [decide_eq_true h2]
          refine iteT ⟨.str b, rfl, _, rfl, b, (i : Int), at45 b.cps.toList i, rfl, zi, len_sz hb, at45_some h2, two, fun p np => ⟨l, vs, _, rfl, rfl, lcell p _ np, lv, fin p np⟩⟩
        · rw [decide_eq_false h2]
          rw [at45_none h2] at fin
          refine iteF ⟨two, fun p np => ⟨l, vs, _, rfl, rfl, lcell p _ np, lv, fin p np⟩⟩
      · rw [decide_eq_false h1]
        rw [at45_none h1] at fin
        refine iteF ?_
        refine ⟨_, rfl, .str b, rfl, .str b, (b.length : Nat), rfl, ⟨len_sz hb, rfl⟩, _, _, rfl, rfl, _, rfl, ?_⟩
        rw [d1]
        by_cases h2 : i < b.length
        · rw [decide_eq_true h2]
          refine iteT ⟨.str b, rfl, _, rfl, b, (i : Int), at45 b.cps.toList i, rfl, zi, len_sz hb, at45_some h2, two, fun p np => ⟨l, vs, _, rfl, rfl, lcell p _ np, lv, fin p np⟩⟩
        · rw [decide_eq_false h2]
          rw [at45_none h2] at fin
          refine iteF ⟨two, fun p np => ⟨l, vs, _, rfl, rfl, lcell p _ np, lv, fin p np⟩⟩
    · rintro σ H1 ⟨y0, vs, rfl, sm, hl, hn, hA⟩
      refine ⟨_, rfl, _, _, rfl, .inl ⟨sqOf hl, fun p np => ?_⟩⟩
      refine q p _ (sm.trans (same_upd np)) ?_
      rw [rowN_eq, ← str_len, ← str_len, hm]
      exact .tup (stOf upd_same) ((hA.up hid_sub).up (same_upd np))
theorem ok_LIsText {f : Addr} {fd : FuncData} {k : Nat} (F : Fun K "_law_is_text" "_law_is_text" sLIsText f fd) (nisinstance : mg "isinstance" = none) (nstr : mg "str" = none)   : FnOk P w K mg base CX0 (k + 1) f fd ["_law_it"] (spLookA K isTextD) := by
  refine F.ok scLIsText (fun vs H Q E h => ?_) (fun cdv A outer s H vs Q E hr h => ?_)
  · obtain ⟨v, d, rfl, _⟩ := h; rfl
  · obtain ⟨v, d, rfl, hd, hz, hasc, hdp, q⟩ := h
    have hu := hr.units
    refine ⟨_, (pss_one (ps_ret (pe_and (pe_callB call_isi (by rfl) nisinstance boot_isinstance (pa_cons (pv 0) (pa_cons (pe_tyN nstr boot_str) pa_nil))) (pe_one (pe_cmpR (op_eqD hu) (pe_lc (own := [("_law_sign", 1)]) (g := (gName 1)) (by rfl) scLIsText.nd (pi_str (pv 0)) (blkOk_by (own := [("_law_sign", 1)]) (N := ["_law_it", "_law_sign"]) (sc := defScope sLIsText) (by decide +kernel)) (fun _ _ _ _ _ => (pg_name (i := 1) scLIsText.nd rfl (by first | exact Or.inl rfl | exact Or.inr rfl))) (fun _ _ _ _ _ => (pts_one (pt_cmpR op_notIn_sign (pv 1) pe_str (by rfl)))) (fun _ _ _ _ _ => (pv 1))) (pe_lst pa_nil) (nomark _)))))), ?_⟩
    refine ⟨v, rfl, v, .ty "str", _, _, _, rfl, .ty "str", tyx_of hd, kit_ty (kit_str d), _, rfl, ?_⟩
    cases d with
    | str x =>
      cases hd
      refine iteT ⟨.str x, rfl, x, rfl, fun D nD => ?_⟩
      have hlen : x.cps.size ≤ 500000 := hz
      refine lc_it walk_str (LcP D (fun _ H' => ∀ b o, b ≠ D → H b = some o → H' b = some o) (fun j v => ∃ c, x.cps.toList[j]? = some c ∧ v = keepL c)) (LcP.start fun b o hb e => by rw [upd_ne hb]; exact e) (fun _ _ _ _ => trivial) ?_ ?_
      · rintro i y H1 H2 hi ⟨ys, hl, hR, hD, hP⟩ ⟨rfl, c, hc, rfl⟩
        refine ⟨rfl, ?_⟩
        have hc' : x.cps.toList[i]? = some c := by rw [Array.getElem?_toList]; exact hc
        refine ⟨_, rfl, c, _, rfl, rfl, _, rfl, ?_⟩
        by_cases e : isLow c = true
        · have e2 : (!decide (c ∈ (Str.ofString "abcdefghijklmnopqrstuvwxyz").cps.toList)) = false := by
            show (!isLow c) = false
            rw [e]; rfl
          rw [e2]
          refine iteF (lcp_none hl hR hD ⟨c, hc', ?_⟩ hP)
          unfold keepL; rw [if_pos e]
        · have e2 : (!decide (c ∈ (Str.ofString "abcdefghijklmnopqrstuvwxyz").cps.toList)) = true := by
            show (!isLow c) = true
            rw [Bool.not_eq_true] at e; rw [e]; rfl
          rw [e2]
          refine iteT ⟨_, rfl, ?_⟩
          refine lcp_some hl hR hD (by omega) ⟨c, hc', ?_⟩ fun b o hb e => by rw [upd_ne hb]; exact hP b o hb e
          unfold keepL; rw [if_neg e]
      · rintro H2 ⟨ys, hl, hR, hD, hP⟩
        have e := rows_map (f := keepL) (l := x.cps.toList) (by rw [hl, Array.length_toList]) hR
        rw [e, keepL_map] at hD
        refine ⟨Nat.zero_le _, fun p np => ?_⟩
        have hDp : D ≠ p := ne_of_none hD np
        have hx : ∀ c ∈ x.cps.toList.filter (fun c => !isLow c), c < 128 := fun c hc => by
          have z : (x.cps.toList.all fun c => decide (c < 128)) = true := by simpa only [asc] using hasc
          have := List.all_eq_true.mp z c (List.mem_filter.mp hc).1
          simpa using this
        refine ⟨_, _, .lst (sqOf (by rw [upd_ne hDp]; exact hD)) (dpSgs _), .lst (sqOf upd_same) .nil, shaped_sgs hx, rfl, ?_⟩
        have e3 : PyData.eqv (sgs (x.cps.toList.filter fun c => !isLow c)) (.list []) = isTextD (.str x) := by
          rw [eqv_sgs]
          rw [Bool.eq_iff_iff, decide_eq_true_iff, List.filter_eq_nil_iff]
          show _ ↔ (x.cps.toList.all isLow) = true
          rw [List.all_eq_true]
          simp only [Bool.not_eq_true', Bool.not_eq_false]
        rw [e3]
        exact q _ fun b o e => by rw [upd_ne (ne_of_none (hP b o (ne_of_none e nD) e) np)]; exact hP b o (ne_of_none e nD) e
    | _ => exact iteF (q H (Same.refl H))
end
end KK
namespace KK
open PySem PySem.Spec PyProof.Rows L2 EL
open Evl (pss_cut)
abbrev sLIsRow : Stmt := topS 17
theorem scLIsRow : FnScope ["_law_it", "_law_duo", "_law_x", "_law_y", "_law_sign"] ["_law_it"] (defScope sLIsRow) := ⟨rfl, rfl, rfl, by decide +kernel, rfl, by decide +kernel, by decide +kernel⟩
abbrev rLenK (K : PySem.W.Frag) : List V → Hp → VK → Prop := fun xs H Q => ∃ x n, xs = [x] ∧ LenV K x H n ∧ Q (V.int (n : Nat)) H
theorem all_duo : ∀ ds : List PyData, (∀ d ∈ ds, ∃ p : Nat × Nat, d = pr p) → ∃ ps : List (Nat × Nat), ds = ps.map pr
  | [], _ => ⟨[], rfl⟩
  | d :: r, h => by
    obtain ⟨p, e⟩ := h d List.mem_cons_self
    obtain ⟨ps, e2⟩ := all_duo r fun d m => h d (List.mem_cons_of_mem _ m)
    exact ⟨p :: ps, by rw [e, e2]; rfl⟩
/-- a part that is no pair of signs -/
theorem no_row {ds : List PyData} {i : Nat} {d : PyData} (h : ds[i]? = some d) (n : ∀ p : Nat × Nat, d ≠ pr p) : isRowD (.tuple ds) = false := by
  unfold isRowD
  cases e : dec ds with
  | none => simp only [e]
  | some ps =>
    have e2 := dec_some ds ps e
    rw [e2, List.getElem?_map] at h
    cases e3 : ps[i]? with
    | none => rw [e3] at h; cases h
    | some p => rw [e3] at h; exact absurd (Option.some.inj h).symm (n p)
theorem asc_at {ds : List PyData} (h : ascs ds = true) {i : Nat} {d : PyData} (e : ds[i]? = some d) : asc d = true := by
  rw [ascs_all] at h
  exact List.all_eq_true.mp h d (List.mem_of_getElem? e)
theorem asc_pr {ps : List (Nat × Nat)} (h : ascs (ps.map pr) = true) : ∀ p ∈ ps, p.1 < 128 ∧ p.2 < 128 := fun p hp => by
  rw [ascs_all] at h
  have := List.all_eq_true.mp h (pr p) (List.mem_map.mpr ⟨p, hp, rfl⟩)
  simpa [asc, ascs] using this
/-- no single sign -/
def badS : PyData → Bool
  | .str x => !decide (x.length = 1)
  | _ => true
/-- kept, if it is no single sign -/
def keepB (e : PyData) (v : Option V) : Prop := (badS e = true → v.isSome = true) ∧ (badS e = false → v = none)
theorem one_sign {x : Str} (h : x.length = 1) : ∃ c, x = ⟨#[c]⟩ := by
  obtain ⟨a⟩ := x
  have hs : a.size = 1 := h
  refine ⟨a[0], ?_⟩
  congr 1
  apply Array.ext
  · simp [hs]
  · intro i h1 h2
    have : i = 0 := by omega
    subst this; simp
theorem good_sign {d : PyData} (h : badS d = false) : ∃ c, d = .str ⟨#[c]⟩ := by
  cases d with
  | str x =>
    have : x.length = 1 := by simpa [badS] using h
    obtain ⟨c, rfl⟩ := one_sign this
    exact ⟨c, rfl⟩
  | _ => cases h
theorem left_text (ps : List (Nat × Nat)) : isTextD (.str ⟨(leftN ps).toArray⟩) = ps.all fun p => okS p.1 := by
  show (leftN ps).all isLow = _
  unfold leftN
  induction ps with
  | nil => rfl
  | cons p r ih =>
    by_cases h : p.1 = 45
    · simp only [List.map_cons, List.all_cons, h, okS] at ih ⊢
      simpa using ih
    · simp only [List.map_cons, List.all_cons, okS] at ih ⊢
      rw [List.filter_cons_of_pos (by simpa using h), List.all_cons, ih]
      simp [h]
theorem right_text (ps : List (Nat × Nat)) : isTextD (.str ⟨(rightN ps).toArray⟩) = ps.all fun p => okS p.2 := by
  show (rightN ps).all isLow = _
  unfold rightN
  induction ps with
  | nil => rfl
  | cons p r ih =>
    by_cases h : p.2 = 45
    · simp only [List.map_cons, List.all_cons, h, okS] at ih ⊢
      simpa using ih
    · simp only [List.map_cons, List.all_cons, okS] at ih ⊢
      rw [List.filter_cons_of_pos (by simpa using h), List.all_cons, ih]
      simp [h]
theorem isRow_pr (ps : List (Nat × Nat)) : isRowD (.tuple (ps.map pr)) = (isTextD (.str ⟨(leftN ps).toArray⟩) && (isTextD (.str ⟨(rightN ps).toArray⟩) && decide (rowN (leftN ps) (rightN ps) = ps))) := by
  rw [left_text, right_text]
  simp only [isRowD, dec_pr]
  have e : (ps.all fun p => okS p.1 && okS p.2) = ((ps.all fun p => okS p.1) && ps.all fun p => okS p.2) := by
    induction ps with
    | nil => rfl
    | cons p r ih => simp only [List.all_cons, ih]; cases okS p.1 <;> cases okS p.2 <;> simp
  rw [e, Bool.and_assoc]
theorem asc_codes {cs : List Nat} (h : ∀ c ∈ cs, c < 128) : asc (.str ⟨cs.toArray⟩) = true := by
  simp only [asc, List.all_eq_true, decide_eq_true_eq]
  intro c hc
  exact h c (by simpa using hc)
theorem nil_of {l : List (Option V)} (h : ∀ v ∈ l, v = none) : l.filterMap id = [] := by
  rw [List.filterMap_eq_nil_iff]
  intro v hv
  rw [h v hv]; rfl
theorem not_nil_of {l : List (Option V)} {v : V} (h : some v ∈ l) : l.filterMap id ≠ [] := fun e => by
  have := List.filterMap_eq_nil_iff.mp e _ h
  cases this
section
variable {P : Program} {w : World} {K : PySem.W.Frag} {mg : Str → Option Value} {base : Heap}
theorem ok_LIsRow {f : Addr} {fd : FuncData} {k : Nat} (F : Fun K "_law_is_row" "_law_is_row" sLIsRow f fd) (nisinstance : mg "isinstance" = none) (ntuple : mg "tuple" = none) (nlen : mg "len" = none) (nstr : mg "str" = none)  (CLIsText : Cal P w K mg base k "_law_is_text" ["_law_it"] (spLookA K isTextD)) (CLSigns : Cal P w K mg base k "_law_signs" ["_law_x", "_law_y"] (spRow K)) : FnOk P w K mg base CX0 (k + 1) f fd ["_law_it"] (spLookA K isRowD) := by
  refine F.ok scLIsRow (fun vs H Q E h => ?_) (fun cdv A outer s H vs Q E hr h => ?_)
  · obtain ⟨v, d, rfl, _⟩ := h; rfl
  · obtain ⟨v, d, rfl, hd, hz, hasc, hdp, q⟩ := h
    have hu := hr.units
    refine ⟨_, (pss_cons (ps_if (pt_not (pt_val (pe_callB (show CallR _ _ (rIsi K) from call_isi) (by rfl) nisinstance boot_isinstance (pa_cons (pv 0) (pa_cons (pe_tyN ntuple boot_tuple) pa_nil))))) (pss_one (ps_ret pe_bl)) pss_nil)
      (pss_cons (ps_for PassesOwn.never rfl (pi_tup (pv 0)) (pg_name (i := 1) scLIsRow.nd rfl (by first | exact Or.inl rfl | exact Or.inr rfl)) (pss_cons (ps_if (PW.pt (pw_or (pt_not (pt_val (pe_callB (show CallR _ _ (rIsi K) from call_isi) (by rfl) nisinstance boot_isinstance (pa_cons (pv 1) (pa_cons (pe_tyN ntuple boot_tuple) pa_nil))))) (pw_or1 (pt_cmpR op_ne (pe_callB (show CallR _ _ (rLenK K) from call_len) (by rfl) nlen boot_len (pa_cons (pv 1) pa_nil)) pe_int (nomark _))))) (pss_one (ps_ret pe_bl)) pss_nil)
      (pss_one (ps_if (pt_cmpR (op_neN hr.units0) (pe_lc (own := [("_law_sign", 4)]) (g := (gName 4)) (by rfl) scLIsRow.nd (pi_tup (pv 1)) (blkOk_by (own := [("_law_sign", 4)]) (N := ["_law_it", "_law_duo", "_law_x", "_law_y", "_law_sign"]) (sc := defScope sLIsRow) (by decide +kernel)) (fun _ _ _ _ _ => (pg_name (i := 4) scLIsRow.nd rfl (by first | exact Or.inl rfl | exact Or.inr rfl))) (fun _ _ _ _ _ => (pts_one (PW.pt (pw_or (pt_not (pt_val (pe_callB (show CallR _ _ (rIsi K) from call_isi) (by rfl) nisinstance boot_isinstance (pa_cons (pv 4) (pa_cons (pe_tyN nstr boot_str) pa_nil))))) (pw_or1 (pt_cmpR op_ne (pe_callB (show CallR _ _ (rLenK K) from call_len) (by rfl) nlen boot_len (pa_cons (pv 4) pa_nil)) pe_int (nomark _))))))) (fun _ _ _ _ _ => (pv 4))) (pe_lst pa_nil) (nomark _)) (pss_one (ps_ret pe_bl)) pss_nil))))
      (pss_cons (ps_par (i := 2) (j := 3) (by rfl) scLIsRow.nd rfl rfl (by decide) rfl rfl (pa_cons (pe_join pe_str (pe_lc (own := [("_law_duo", 1)]) (g := (gName 1)) (by rfl) scLIsRow.nd (pi_tup (pv 0)) (blkOk_by (own := [("_law_duo", 1)]) (N := ["_law_it", "_law_duo", "_law_x", "_law_y", "_law_sign"]) (sc := defScope sLIsRow) (by decide +kernel)) (fun _ _ _ _ _ => (pg_name (i := 1) scLIsRow.nd rfl (by first | exact Or.inl rfl | exact Or.inr rfl))) (fun _ _ _ _ _ => (pts_one (pt_cmpR op_ne (pe_ix (show IxR _ (rIxT K) from ix_tup) (pv 1) pe_int (fun _ _ => rfl)) pe_str (nomark _)))) (fun _ _ _ _ _ => (pe_ix (show IxR _ (rIxT K) from ix_tup) (pv 1) pe_int (fun _ _ => rfl))))) (pa_cons (pe_join pe_str (pe_lc (own := [("_law_duo", 1)]) (g := (gName 1)) (by rfl) scLIsRow.nd (pi_tup (pv 0)) (blkOk_by (own := [("_law_duo", 1)]) (N := ["_law_it", "_law_duo", "_law_x", "_law_y", "_law_sign"]) (sc := defScope sLIsRow) (by decide +kernel)) (fun _ _ _ _ _ => (pg_name (i := 1) scLIsRow.nd rfl (by first | exact Or.inl rfl | exact Or.inr rfl))) (fun _ _ _ _ _ => (pts_one (pt_cmpR op_ne (pe_ix (show IxR _ (rIxT K) from ix_tup) (pv 1) pe_int (fun _ _ => rfl)) pe_str (nomark _)))) (fun _ _ _ _ _ => (pe_ix (show IxR _ (rIxT K) from ix_tup) (pv 1) pe_int (fun _ _ => rfl))))) pa_nil)) (by rfl))
      (pss_one (ps_ret (pe_and (pe_cal CLIsText hr (by rfl) pass0 (pa_cons (pv 2) pa_nil)) (pe_and (pe_cal CLIsText hr (by rfl) pass0 (pa_cons (pv 3) pa_nil)) (pe_one (pe_cmpR (op_eqD hu) (pe_cal CLSigns hr (by rfl) pass0 (pa_cons (pv 2) (pa_cons (pv 3) pa_nil))) (pv 0) (nomark _)))))))))), ?_⟩
    refine ⟨v, rfl, v, .ty "tuple", _, _, _, rfl, .ty "tuple", tyx_of hd, kit_ty (kit_tuple d), _, rfl, ?_⟩
    cases d with
    | tuple ds =>
      cases hd with
      | tup hs ha =>
      rename_i a xs
      have hzz : PyData.bulkAll ds ≤ 500000 := hz
      have hlen : xs.length ≤ 500000 := by rw [ha.len]; exact Nat.le_trans (bulk_len ds) hzz
      have hA : ascs ds = true := by simpa [asc] using hasc
      refine iteF ?_
      refine ⟨.ref a, rfl, a, rfl, ⟨xs, hs⟩, ?_⟩
      refine for_it walk_tup (fun i σ H' => ∃ y : Option V, σ = [some (.ref a), y, none, none, none] ∧ Same H H' ∧ ∀ j, j < i → ∃ p : Nat × Nat, ds[j]? = some (pr p)) ⟨none, rfl, Same.refl H, fun j hj => by omega⟩ (fun i σ H' _ p => by obtain ⟨_, _, sm, _⟩ := p; exact ex_t' sm hs) ?_ ?_
      · rintro i y σ H1 H2 hi ⟨y0, rfl, sm, hP⟩ ⟨rfl, hy⟩
        obtain ⟨e, ee, he⟩ := ha.at hy
        have bad : (∀ p : Nat × Nat, e ≠ pr p) → ∀ H', Same H H' → Q (.bl false) H' := fun n H' s' => by
          have := q H' s'
          rw [no_row ee n] at this; exact this
        refine ⟨y, rfl, y, .ty "tuple", _, _, _, rfl, .ty "tuple", tyx_of (he.up sm), kit_ty (kit_tuple e), _, rfl, ?_⟩
        cases e with
        | tuple es =>
          have he' := he.up sm
          cases he' with
          | tup hs2 ha2 =>
          rename_i b zs
          refine iteF ?_
          refine ⟨.ref b, rfl, .ref b, (zs.length : Nat), rfl, .inr ⟨zs, hs2, rfl⟩, rfl, ?_⟩
          by_cases h2 : V.int (zs.length : Nat) = V.int 2
          · rw [decide_eq_true h2]
            refine ⟨_, rfl, iteF ?_⟩
            have e2 : es.length = 2 := by
              have := V.int.inj h2
              rw [ha2.len] at this
              exact_mod_cast this
            obtain ⟨d0, d1, rfl⟩ : ∃ d0 d1, es = [d0, d1] := by
              match es, e2 with
              | [d0, d1], _ => exact ⟨d0, d1, rfl⟩
            refine ⟨.ref b, rfl, b, rfl, ⟨zs, hs2⟩, fun D nD => ?_⟩
            refine lc_it walk_tup (LcP D (fun _ H' => Same H2 H') (fun j v => ∃ e, [d0, d1][j]? = some e ∧ keepB e v)) (LcP.start (same_upd nD)) (fun i H' _ p => by obtain ⟨_, _, _, _, sm⟩ := p; exact ex_t' sm hs2) ?_ ?_
            · rintro j y H3 H4 hj ⟨ys, hl, hR, hD, sm3⟩ ⟨rfl, hy3⟩
              obtain ⟨e, ee3, he3⟩ := ha2.at hy3
              have keep : badS e = true → ∃ acc, H4 D = some (.lst acc) ∧ acc.length < sizeLine ∧ LcP D (fun _ H' => Same H2 H') (fun j v => ∃ e, [d0, d1][j]? = some e ∧ keepB e v) (j + 1) (upd H4 D (.lst (acc ++ [y]))) := fun hb =>
                lcp_some hl hR hD (by rw [ha2.len] at hj; have : [d0, d1].length = 2 := rfl; omega) ⟨e, ee3, fun _ => rfl, fun z => by rw [hb] at z; cases z⟩ fun b o q => by rw [upd_ne (ne_of_none q nD)]; exact sm3 b o q
              have drop : badS e = false → LcP D (fun _ H' => Same H2 H') (fun j v => ∃ e, [d0, d1][j]? = some e ∧ keepB e v) (j + 1) H4 := fun hb =>
                lcp_none hl hR hD ⟨e, ee3, (fun z => by rw [hb] at z; cases z), fun _ => rfl⟩ sm3
              refine ⟨rfl, y, rfl, y, .ty "str", _, _, _, rfl, .ty "str", tyx_of (he3.up sm3), kit_ty (kit_str e), _, rfl, ?_⟩
              cases e with
              | str z =>
                have hes : PyData.bulkAll [d0, d1] ≤ 500000 := sz_mem hzz _ (List.mem_of_getElem? ee)
                have hz1 : Sz (.str z) := sz_mem hes _ (List.mem_of_getElem? ee3)
                have hz2 : z.length ≤ 1000000 := Nat.le_trans (show z.cps.size ≤ 500000 from hz1) (by decide)
                have he4 := he3.up sm3
                cases he4
                refine iteF ⟨.str z, rfl, .str z, (z.length : Nat), rfl, ⟨len_sz hz2, rfl⟩, rfl, _, rfl, ?_⟩
                by_cases h3 : z.length = 1
                · have e4 : (!decide (V.int (z.length : Nat) = V.int 1)) = false := by rw [h3]; decide
                  rw [e4]
                  exact iteF (drop (by simp [badS, h3]))
                · have e4 : (!decide (V.int (z.length : Nat) = V.int 1)) = true := by
                    rw [Bool.not_eq_true', decide_eq_false_iff_not]
                    exact fun z => h3 (by have := V.int.inj z; exact_mod_cast this)
                  rw [e4]
                  exact iteT ⟨_, rfl, keep (by simp [badS, h3])⟩
              | _ => exact iteT (iteT ⟨_, rfl, keep rfl⟩)
            · rintro H3 ⟨ys, hl, hR, hD, sm3⟩
              have hl2 : ys.length = 2 := by rw [hl, ha2.len]; rfl
              refine ⟨Nat.zero_le _, fun p np => ?_⟩
              have hDp : D ≠ p := ne_of_none hD np
              refine ⟨D, p, _, rfl, rfl, sqOf (by rw [upd_ne hDp]; exact hD), sqOf upd_same, _, rfl, ?_⟩
              have sm4 : Same H (upd H3 p (.lst [])) := sm.trans (sm3.trans (same_upd np))
              obtain ⟨v0, v1, rfl⟩ : ∃ v0 v1, ys = [v0, v1] := by
                match ys, hl2 with
                | [v0, v1], _ => exact ⟨v0, v1, rfl⟩
              obtain ⟨f0, q0, k0⟩ := hR 0 v0 rfl
              obtain ⟨f1, q1, k1⟩ := hR 1 v1 rfl
              obtain rfl := Option.some.inj q0
              obtain rfl := Option.some.inj q1
              by_cases hb : badS d0 = false ∧ badS d1 = false
              · rw [k0.2 hb.1, k1.2 hb.2]
                refine iteF ?_
                refine ⟨some (.ref b), rfl, sm4, fun j hj => ?_⟩
                by_cases hji : j < i
                · exact hP j hji
                · obtain rfl : j = i := by omega
                  obtain ⟨c0, rfl⟩ := good_sign hb.1
                  obtain ⟨c1, rfl⟩ := good_sign hb.2
                  exact ⟨(c0, c1), ee⟩
              · have e5 : [v0, v1].filterMap id ≠ [] := by
                  cases b0 : badS d0 with
                  | true =>
                    obtain ⟨u, e6⟩ := Option.isSome_iff_exists.mp (k0.1 b0)
                    exact not_nil_of (v := u) (by rw [e6]; exact List.mem_cons_self)
                  | false =>
                    cases b1 : badS d1 with
                    | true =>
                      obtain ⟨u, e6⟩ := Option.isSome_iff_exists.mp (k1.1 b1)
                      exact not_nil_of (v := u) (by rw [e6]; exact List.mem_cons_of_mem _ List.mem_cons_self)
                    | false => exact absurd ⟨b0, b1⟩ hb
                rw [decide_eq_false e5]
                refine iteT (bad (fun p z => hb ?_) _ sm4)
                have z2 := PyData.tuple.inj z
                injection z2 with z3 z4
                injection z4 with z4 _
                subst z3 z4
                exact ⟨rfl, rfl⟩
          · rw [decide_eq_false h2]
            refine ⟨_, rfl, iteT (bad (fun p z => h2 ?_) _ sm)⟩
            have := PyData.tuple.inj z
            rw [ha2.len, this]; rfl
        | _ => exact iteT (bad (fun p z => nomatch z) _ sm)
      · rintro σ H1 ⟨y0, rfl, sm, hP⟩
        obtain ⟨ps, rfl⟩ := all_duo ds fun d hd => by
          obtain ⟨j, hj, rfl⟩ := List.mem_iff_getElem.mp hd
          obtain ⟨p, e⟩ := hP j (by rw [ha.len]; exact hj)
          rw [List.getElem?_eq_getElem hj] at e
          exact ⟨p, Option.some.inj e⟩
        have hpl : ps.length ≤ 500000 := by rw [ha.len, List.length_map] at hlen; exact hlen
        have hlx : xs.length = ps.length := by rw [ha.len, List.length_map]
        have hlt := asc_pr hA
        have item : ∀ (i : Nat) (x : V), xs[i]? = some x → ∃ (p : Nat × Nat) (b : Addr), ps[i]? = some p ∧ x = V.ref b ∧ SqT K H b [.str ⟨#[p.1]⟩, .str ⟨#[p.2]⟩] := fun i x e => by
          obtain ⟨d, e2, hx⟩ := ha.at e
          rw [List.getElem?_map] at e2
          cases ep : ps[i]? with
          | none => rw [ep] at e2; cases e2
          | some p =>
            rw [ep] at e2
            obtain rfl := Option.some.inj e2
            obtain ⟨b, e3, e4⟩ := dq_pr hx
            exact ⟨p, b, rfl, e3, e4⟩
        refine ⟨⟨_, rfl⟩, .ref a, rfl, a, rfl, ⟨xs, ex_t' sm hs⟩, fun D nD => ?_⟩
        refine lc_it walk_tup (LcP D (fun _ H' => Same H1 H') (fun j v => ∃ c, (ps.map (·.1))[j]? = some c ∧ v = keepS c)) (LcP.start (same_upd nD)) (fun i H' _ p => by obtain ⟨_, _, _, _, sm1⟩ := p; exact ex_t' (sm.trans sm1) hs) ?_ ?_
        · rintro i y H2 H3 hi ⟨ys, hl, hR, hD, sm1⟩ ⟨rfl, hy⟩
          obtain ⟨p, b, ep, rfl, hb⟩ := item i y hy
          have hb' := ex_t' (sm.trans sm1) hb
          refine ⟨rfl, .ref b, rfl, b, _, 0, .str ⟨#[p.1]⟩, rfl, rfl, hb', rfl, rfl, _, rfl, ?_⟩
          rw [keep_no]
          have er : (ps.map (·.1))[i]? = some p.1 := by rw [List.getElem?_map, ep]; rfl
          by_cases e : keepS p.1 = some (.str ⟨#[p.1]⟩)
          · rw [decide_eq_true e]
            refine iteT ⟨.ref b, rfl, b, _, 0, .str ⟨#[p.1]⟩, rfl, rfl, hb', rfl, ?_⟩
            exact lcp_some hl hR hD (by omega) ⟨p.1, er, e.symm⟩ fun b o q => by rw [upd_ne (ne_of_none q nD)]; exact sm1 b o q
          · rw [decide_eq_false e]
            refine iteF (lcp_none hl hR hD ⟨p.1, er, ?_⟩ sm1)
            unfold keepS at e ⊢
            by_cases h : p.1 = 45
            · rw [if_pos h]
            · rw [if_neg h] at e; exact absurd rfl e
        rintro H2 ⟨ys, hl, hR, hD, sm1⟩
        have e1 := rows_map (f := keepS) (l := ps.map (·.1)) (by rw [hl, List.length_map, hlx]) hR
        rw [e1, keep_map] at hD
        have b1 : (leftN ps).length ≤ ps.length := Nat.le_trans (List.length_filter_le _ _) (by rw [List.length_map]; exact Nat.le_refl _)
        have b2 : (rightN ps).length ≤ ps.length := Nat.le_trans (List.length_filter_le _ _) (by rw [List.length_map]; exact Nat.le_refl _)
        refine ⟨_, D, (leftN ps).map (fun c => (⟨#[c]⟩ : Str)), rfl, rfl, .inl (sqOf hD), ?_, ?_⟩
        · rw [ones, List.length_map]
          show _ + _ * 0 ≤ _
          omega
        rw [join_signs]
        have sm2 := sm.trans sm1
        refine ⟨⟨_, rfl⟩, .ref a, rfl, a, rfl, ⟨xs, ex_t' sm2 hs⟩, fun D2 nD2 => ?_⟩
        refine lc_it walk_tup (LcP D2 (fun _ H' => Same H2 H') (fun j v => ∃ c, (ps.map (·.2))[j]? = some c ∧ v = keepS c)) (LcP.start (same_upd nD2)) (fun i H' _ p => by obtain ⟨_, _, _, _, sm1⟩ := p; exact ex_t' (sm2.trans sm1) hs) ?_ ?_
        · rintro i y H3 H4 hi ⟨ys, hl, hR, hD, sm1⟩ ⟨rfl, hy⟩
          obtain ⟨p, b, ep, rfl, hb⟩ := item i y hy
          have hb' := ex_t' (sm2.trans sm1) hb
          refine ⟨rfl, .ref b, rfl, b, _, 1, .str ⟨#[p.2]⟩, rfl, rfl, hb', rfl, rfl, _, rfl, ?_⟩
          rw [keep_no]
          have er : (ps.map (·.2))[i]? = some p.2 := by rw [List.getElem?_map, ep]; rfl
          by_cases e : keepS p.2 = some (.str ⟨#[p.2]⟩)
          · rw [decide_eq_true e]
            refine iteT ⟨.ref b, rfl, b, _, 1, .str ⟨#[p.2]⟩, rfl, rfl, hb', rfl, ?_⟩
            exact lcp_some hl hR hD (by omega) ⟨p.2, er, e.symm⟩ fun b o q => by rw [upd_ne (ne_of_none q nD2)]; exact sm1 b o q
          · rw [decide_eq_false e]
            refine iteF (lcp_none hl hR hD ⟨p.2, er, ?_⟩ sm1)
            unfold keepS at e ⊢
            by_cases h : p.2 = 45
            · rw [if_pos h]
            · rw [if_neg h] at e; exact absurd rfl e
        rintro H3 ⟨ys2, hl2, hR2, hD2, sm3⟩
        have e2 := rows_map (f := keepS) (l := ps.map (·.2)) (by rw [hl2, List.length_map, hlx]) hR2
        rw [e2, keep_map] at hD2
        refine ⟨_, D2, (rightN ps).map (fun c => (⟨#[c]⟩ : Str)), rfl, rfl, .inl (sqOf hD2), ?_, ?_⟩
        · rw [ones, List.length_map]
          show _ + _ * 0 ≤ _
          omega
        rw [join_signs]
        have sm4 := sm2.trans sm3
        have c1 : ∀ c ∈ leftN ps, c < 128 := fun c hc => by
          obtain ⟨p, hp, rfl⟩ := List.mem_map.mp (List.mem_filter.mp hc).1
          exact (hlt p hp).1
        have c2 : ∀ c ∈ rightN ps, c < 128 := fun c hc => by
          obtain ⟨p, hp, rfl⟩ := List.mem_map.mp (List.mem_filter.mp hc).1
          exact (hlt p hp).2
        have z1 : Sz (.str ⟨(leftN ps).toArray⟩) := by show (leftN ps).toArray.size ≤ 500000; rw [List.size_toArray]; omega
        have z2 : Sz (.str ⟨(rightN ps).toArray⟩) := by show (rightN ps).toArray.size ≤ 500000; rw [List.size_toArray]; omega
        have y1 : (⟨(leftN ps).toArray⟩ : Str).length ≤ 1000000 := Nat.le_trans z1 (by decide)
        have y2 : (⟨(rightN ps).toArray⟩ : Str).length ≤ 1000000 := Nat.le_trans z2 (by decide)
        refine ⟨_, _, rfl, _, rfl, _, _, rfl, .str _, z1, asc_codes c1, (by simp [PyData.depth]), fun H4 s4 => ⟨_, rfl, ?_⟩⟩
        rw [isRow_pr] at q
        cases t1 : isTextD (.str ⟨(leftN ps).toArray⟩) with
        | false =>
          rw [t1] at q
          exact iteF (q H4 (sm4.trans s4))
        | true =>
          rw [t1] at q
          refine iteT ⟨_, rfl, _, _, rfl, .str _, z2, asc_codes c2, (by simp [PyData.depth]), fun H5 s5 => ⟨_, rfl, ?_⟩⟩
          cases t2 : isTextD (.str ⟨(rightN ps).toArray⟩) with
          | false =>
            rw [t2] at q
            exact iteF (q H5 (sm4.trans (s4.trans s5)))
          | true =>
            rw [t2] at q
            refine iteT ⟨_, rfl, _, rfl, _, _, rfl, y1, y2, fun p H6 s6 hp => ?_⟩
            have s7 := sm4.trans (s4.trans (s5.trans s6))
            have dqv : Dq K H6 (.ref a) (.tuple (ps.map pr)) := .tup (ex_t' s7 hs) (ha.up s7)
            refine ⟨.ref a, rfl, _, _, dp_of _ _ hp (by simp only [PyData.hasDict]; exact noDict_pr _), dp_of _ _ dqv (by simp only [PyData.hasDict]; exact noDict_pr _), shaped_pr (row_lt c1 c2), shaped_pr hlt, ?_⟩
            have e3 : PyData.eqv (.tuple ((rowN (leftN ps) (rightN ps)).map pr)) (.tuple (ps.map pr)) = decide (rowN (leftN ps) (rightN ps) = ps) := by
              simp only [PyData.eqv]
              exact eqv_pr _ _
            show Q (.bl (PyData.eqv (.tuple ((rowN (leftN ps) (rightN ps)).map pr)) (.tuple (ps.map pr)))) H6
            rw [e3]
            exact q H6 s7
    | _ => exact iteT (q H (Same.refl H))
end
end KK
namespace KK
open PySem PySem.Spec PyProof.Rows L2 EL
open Evl (pss_cut)
abbrev sLOdd : Stmt := topS 18
theorem scLOdd : FnScope ["_law_deck_here", "_law_it", "_law_some"] ["_law_deck_here", "_law_it"] (defScope sLOdd) := ⟨rfl, rfl, rfl, by decide +kernel, rfl, by decide +kernel, by decide +kernel⟩
/-- data that may be shown: no list beside a dict within -/
structure Mix (e : PyData) : Prop where
  asc : asc e = true
  mix : e.hasDict = false ∨ noL e = true
/-- neither dict nor list within -/
structure Pure (d : PyData) : Prop where
  asc : asc d = true
  nd : d.hasDict = false
  nl : noL d = true
/-- an odd value by d -/
structure OddR (d e : PyData) : Prop where
  mx : Mix e
  dp : e.depth ≤ 1
  bk : e.bulk ≤ 2 * d.bulk + 10
  tp : isTup e = true → Pure e
def oddL : List PyData := [.none, .bool true, .int 0, .str "", .str "-", .str "a", .str "A", .str "ab", .str "1", .str " ", .tuple [.str "a", .str "-"], .tuple [.str "-", .str "-"], .tuple [.str "a"], .tuple [], .list [], .dict [], .list [.str "a", .str "b"]]
theorem oddL_ok (d : PyData) : ∀ e ∈ oddL, OddR d e := by
  have key : ∀ e ∈ oddL, asc e = true ∧ (e.hasDict = false ∨ noL e = true) ∧ e.depth ≤ 1 ∧ e.bulk ≤ 10 ∧ (isTup e = true → e.hasDict = false ∧ noL e = true) := by
    intro e he
    simp only [oddL, List.mem_cons, List.not_mem_nil, or_false] at he
    rcases he with rfl | rfl | rfl | rfl | rfl | rfl | rfl | rfl | rfl | rfl | rfl | rfl | rfl | rfl | rfl | rfl | rfl <;>
      refine ⟨?_, ?_, ?_, ?_, ?_⟩ <;> first | decide +kernel | (simp [isTup, tyN, asc, ascs, PyData.hasDict, PyData.hasDictAll, noL, noLs, PyData.depth, PyData.depthAll, PyData.bulk, PyData.bulkAll, PyData.bulkKv]; done)
  intro e he
  obtain ⟨h1, h2, h3, h4, h5⟩ := key e he
  exact ⟨⟨h1, h2⟩, h3, by omega, fun h => ⟨h1, (h5 h).1, (h5 h).2⟩⟩
/-- .. made of a text -/
def oddS (x : Str) : List PyData := [.str (x ++ x), .str (x ++ "-"), .str (Txt.upper x), .str (x ++ " ")]
theorem app_list (x y : Str) : (x ++ y).cps.toList = x.cps.toList ++ y.cps.toList := by
  show (x.cps ++ y.cps).toList = _
  rw [Array.toList_append]
theorem app_size (x y : Str) : (x ++ y).cps.size = x.cps.size + y.cps.size := by
  show (x.cps ++ y.cps).size = _
  rw [Array.size_append]
theorem up1_lt {c : Nat} (h : c < 128) : PyProof.Rows.up1 c < 128 := by
  unfold PyProof.Rows.up1; split <;> omega
theorem asc_str {x : Str} : asc (.str x) = true ↔ ∀ c ∈ x.cps.toList, c < 128 := by
  simp only [asc, List.all_eq_true, decide_eq_true_eq]
theorem oddS_ok {x : Str} (h : asc (.str x) = true) : ∀ e ∈ oddS x, OddR (.str x) e := by
  have hc := asc_str.mp h
  have app : ∀ y : Str, (∀ c ∈ y.cps.toList, c < 128) → asc (.str (x ++ y)) = true := fun y hy => asc_str.mpr fun c m => by
    rw [app_list] at m
    exact (List.mem_append.mp m).elim (hc c) (hy c)
  have nd : ∀ y : Str, (PyData.str y).hasDict = false := fun y => by simp [PyData.hasDict]
  have d0 : ∀ y : Str, (PyData.str y).depth ≤ 1 := fun y => by simp [PyData.depth]
  have bk : ∀ y : Str, (PyData.str y).bulk = y.cps.size := fun y => by simp [PyData.bulk]; try rfl
  have tn : ∀ y : Str, isTup (.str y) = true → Pure (.str y) := fun y h => by simp [isTup, tyN] at h
  intro e he
  simp only [oddS, List.mem_cons, List.not_mem_nil, or_false] at he
  rcases he with rfl | rfl | rfl | rfl
  · exact ⟨⟨app x hc, .inl (nd _)⟩, d0 _, by rw [bk, bk, app_size]; omega, tn _⟩
  · exact ⟨⟨app _ (by decide), .inl (nd _)⟩, d0 _, by rw [bk, bk, app_size]; show _ + 1 ≤ _; omega, tn _⟩
  · refine ⟨⟨asc_str.mpr ?_, .inl (nd _)⟩, d0 _, ?_, tn _⟩
    · rw [PyProof.Rows.upper_ascii hc]
      intro c m
      simp only [Array.toList_map, List.mem_map] at m
      obtain ⟨b, hb, rfl⟩ := m
      exact up1_lt (hc b hb)
    · rw [bk, bk, PyProof.Rows.upper_ascii hc]
      simp only [Array.size_map]; omega
  · exact ⟨⟨app _ (by decide), .inl (nd _)⟩, d0 _, by rw [bk, bk, app_size]; show _ + 1 ≤ _; omega, tn _⟩
/-- the heap without the deck and without one more list -/
def hi (a q z : Addr) (H : Hp) : Hp := hid z z (hid a q H)
/-- the deck; a list beside it (or none) -/
structure Dx (a q z : Addr) (m : Nat) (H : Hp) : Prop where
  dw : Dw a q m H
  li : z = a ∨ (z ≠ a ∧ z ≠ q ∧ ∃ ys, H z = some (.lst ys))
theorem Dx.step {a q z : Addr} {m n : Nat} {H H' : Hp} (d : Dx a q z m H) (o : EL.Off a q H H') (d' : Dw a q n H') : Dx a q z n H' :=
  ⟨d', d.li.imp id fun ⟨h1, h2, ys, h3⟩ => ⟨h1, h2, ys, o _ _ h1 h2 h3⟩⟩
theorem Dx.same {a q z : Addr} {m : Nat} {H H' : Hp} (d : Dx a q z m H) (s : Same H H') : Dx a q z m H' := d.step (.of_same s) (d.dw.same s)
theorem Dx.nz {a q z p : Addr} {m : Nat} {H : Hp} (d : Dx a q z m H) (h : H p = none) : p ≠ z := by
  rcases d.li with rfl | ⟨_, _, ys, h3⟩
  · exact (d.dw.na h).1
  · exact (ne_of_none h3 h).symm
theorem hi_sub {a q z : Addr} {H : Hp} : Same (hi a q z H) H := hid_sub.trans hid_sub
theorem hid_hid {z : Addr} {H H' : Hp} (s : Same H H') : Same (hid z z H) (hid z z H') := fun b o h => by
  obtain ⟨h1, _, h3⟩ := hid_some h
  rw [hid_ne h1 h1]; exact s b o h3
theorem off_hi {a q z : Addr} {H H' : Hp} (o : EL.Off a q H H') : Same (hi a q z H) (hi a q z H') := hid_hid o.hid
theorem hi_ne {a q z b : Addr} {H : Hp} (h1 : b ≠ a) (h2 : b ≠ q) (h3 : b ≠ z) : hi a q z H b = H b := by
  unfold hi; rw [hid_ne h3 h3, hid_ne h1 h2]
theorem same_hi {a q z : Addr} {H H' : Hp} (s : Same H H') {m : Nat} (d : Dx a q z m H) : Same (hi a q z H) (hi a q z H') := off_hi (.of_same s)
/-- an object that is new beside these -/
theorem hi_of {a q z p : Addr} {m : Nat} {H G : Hp} {o : HO} (d : Dx a q z m H) (np : H p = none) (h : G p = some o) : hi a q z G p = some o := by
  obtain ⟨h1, h2⟩ := d.dw.na np
  rw [hi_ne h1 h2 (d.nz np)]; exact h
/-- an odd value, drawn -/
def spOdd (K : PySem.W.Frag) : Sp := fun vs H Q _ => ∃ (a q z : Addr) (m : Nat) (v : V) (d : PyData), vs = [.ref a, v] ∧ Dx a q z m H ∧ m < 1000000000 ∧ Dq K (hi a q z H) v d ∧ asc d = true ∧ d.bulk ≤ 100000 ∧
  ∀ (x : V) (e : PyData) H', Dq K (hi a q z H') x e → OddR d e → Off a q H H' → Dw a q (m + 1) H' → Q x H'
theorem DqAll.app {K : PySem.W.Frag} {H : Hp} {ds2 : List PyData} {vs2 : List V} (h2 : DqAll K H vs2 ds2) : ∀ {ds : List PyData} {vs : List V}, DqAll K H vs ds → DqAll K H (vs ++ vs2) (ds ++ ds2)
  | [], _, h => by cases h; exact h2
  | _ :: _, _, h => by
    cases h with
    | cons h0 h1 => exact .cons h0 (DqAll.app h2 h1)
theorem same_hid {a q : Addr} {H H' : Hp} (s : Same H H') {m : Nat} (d : Dw a q m H) : Same (hid a q H) (hid a q H') := fun b o h => by
  obtain ⟨h1, h2, h3⟩ := hid_some h
  rw [hid_ne h1 h2]; exact s b o h3
/-- an object that is new beside the deck -/
theorem hid_of {a q p : Addr} {m : Nat} {H G : Hp} {o : HO} (d : Dw a q m H) (np : H p = none) (h : G p = some o) : hid a q G p = some o := by
  obtain ⟨h1, h2⟩ := d.na np
  rw [hid_ne h1 h2]; exact h
section
variable {P : Program} {w : World} {K : PySem.W.Frag} {mg : Str → Option Value} {base : Heap}
theorem ok_LOdd {f : Addr} {fd : FuncData} {k : Nat} (F : Fun K "_law_odd" "_law_odd" sLOdd f fd) (nisinstance : mg "isinstance" = none) (nstr : mg "str" = none)  (CLPick : Cal P w K mg base k "_law_pick" ["_law_deck_here", "_law_some"] (spPick K)) : FnOk P w K mg base CX0 (k + 1) f fd ["_law_deck_here", "_law_it"] (spOdd K) := by
  refine F.ok scLOdd (fun vs H Q E h => ?_) (fun cdv A outer s H vs Q E hr h => ?_)
  · obtain ⟨a, q, z, m, v, d, rfl, _⟩ := h; rfl
  · obtain ⟨a, q, z, m, v, d, rfl, hX, hm, hd, hasc, hb, kQ⟩ := h
    have hu := hr.units
    have hD := hX.dw
    refine ⟨_, (pss_cons (ps_set (i := 2) scLOdd.nd rfl (by first | exact Or.inl rfl | exact Or.inr rfl) (pe_lst (pa_cons pe_non (pa_cons pe_bl (pa_cons pe_int (pa_cons pe_str (pa_cons pe_str (pa_cons pe_str (pa_cons pe_str (pa_cons pe_str (pa_cons pe_str (pa_cons pe_str (pa_cons (pe_tup (pa_cons pe_str (pa_cons pe_str pa_nil))) (pa_cons (pe_tup (pa_cons pe_str (pa_cons pe_str pa_nil))) (pa_cons (pe_tup (pa_cons pe_str pa_nil)) (pa_cons (pe_tup pa_nil) (pa_cons (pe_lst pa_nil) (pa_cons pe_dnewK (pa_cons (pe_lst (pa_cons pe_str (pa_cons pe_str pa_nil))) pa_nil)))))))))))))))))))
      (pss_cut (ps_if (pt_val (pe_callB call_isi (by rfl) nisinstance boot_isinstance (pa_cons (pv 1) (pa_cons (pe_tyN nstr boot_str) pa_nil)))) (pss_one (ps_set (i := 2) scLOdd.nd rfl (by first | exact Or.inl rfl | exact Or.inr rfl) (pe_op op_cat (pv 2) (pe_lst (pa_cons (pe_op op_add_str (pv 1) (pv 1)) (pa_cons (pe_op op_add_str (pv 1) pe_str) (pa_cons (pe_upper (pv 1)) (pa_cons (pe_op op_add_str (pv 1) pe_str) pa_nil)))))))) pss_nil)
      (pss_one (ps_ret (pe_cal CLPick hr (by rfl) pass0 (pa_cons (pv 0) (pa_cons (pv 2) pa_nil))))))), ?_⟩
    have sz : ∀ n : Nat, n ≤ 1000 → n ≤ sizeLine := fun n h => len_sz (by omega)
    refine ⟨sz 2 (by omega), fun p1 n1 => ?_⟩
    have s1 : Same H (upd H p1 (.tup [.str "a", .str "-"])) := same_upd n1
    have g1 : upd H p1 (.tup [.str "a", .str "-"]) p1 = some (.tup [.str "a", .str "-"]) := upd_same
    generalize upd H p1 (.tup [.str "a", .str "-"]) = H1 at s1 g1 ⊢
    refine ⟨sz 2 (by omega), fun p2 n2 => ?_⟩
    have s2 : Same H1 (upd H1 p2 (.tup [.str "-", .str "-"])) := same_upd n2
    have g2 : upd H1 p2 (.tup [.str "-", .str "-"]) p2 = some (.tup [.str "-", .str "-"]) := upd_same
    generalize upd H1 p2 (.tup [.str "-", .str "-"]) = H2 at s2 g2 ⊢
    refine ⟨sz 1 (by omega), fun p3 n3 => ?_⟩
    have s3 : Same H2 (upd H2 p3 (.tup [.str "a"])) := same_upd n3
    have g3 : upd H2 p3 (.tup [.str "a"]) p3 = some (.tup [.str "a"]) := upd_same
    generalize upd H2 p3 (.tup [.str "a"]) = H3 at s3 g3 ⊢
    refine ⟨sz 0 (by omega), fun p4 n4 => ?_⟩
    have s4 : Same H3 (upd H3 p4 (.tup [])) := same_upd n4
    have g4 : upd H3 p4 (.tup []) p4 = some (.tup []) := upd_same
    generalize upd H3 p4 (.tup []) = H4 at s4 g4 ⊢
    refine ⟨sz 0 (by omega), fun p5 n5 => ?_⟩
    have s5 : Same H4 (upd H4 p5 (.lst [])) := same_upd n5
    have g5 : upd H4 p5 (.lst []) p5 = some (.lst []) := upd_same
    generalize upd H4 p5 (.lst []) = H5 at s5 g5 ⊢
    refine fun p6 n6 => ?_
    have s6 : Same H5 (upd H5 p6 (.dK [])) := same_upd n6
    have g6 : upd H5 p6 (.dK []) p6 = some (.dK []) := upd_same
    generalize upd H5 p6 (.dK []) = H6 at s6 g6 ⊢
    refine ⟨sz 2 (by omega), fun p7 n7 => ?_⟩
    have s7 : Same H6 (upd H6 p7 (.lst [.str "a", .str "b"])) := same_upd n7
    have g7 : upd H6 p7 (.lst [.str "a", .str "b"]) p7 = some (.lst [.str "a", .str "b"]) := upd_same
    generalize upd H6 p7 (.lst [.str "a", .str "b"]) = H7 at s7 g7 ⊢
    refine ⟨sz 17 (by omega), fun l nl => ?_⟩
    have t6 := s6.trans s7
    have t5 := s5.trans t6
    have t4 := s4.trans t5
    have t3 := s3.trans t4
    have t2 := s2.trans t3
    have t1 := s1.trans t2
    have f2 := s1.free n2
    have f3 := s1.free (s2.free n3)
    have f4 := s1.free (s2.free (s3.free n4))
    have f5 := s1.free (s2.free (s3.free (s4.free n5)))
    have f6 := s1.free (s2.free (s3.free (s4.free (s5.free n6))))
    have f7 := s1.free (s2.free (s3.free (s4.free (s5.free (s6.free n7)))))
    have dq : DqAll K (hi a q z H7) [.non, .bl true, .int 0, .str "", .str "-", .str "a", .str "A", .str "ab", .str "1", .str " ", .ref p1, .ref p2, .ref p3, .ref p4, .ref p5, .ref p6, .ref p7] oddL :=
      .cons .non <| .cons (.bl _) <| .cons (.int _) <| .cons (.str _) <| .cons (.str _) <| .cons (.str _) <| .cons (.str _) <| .cons (.str _) <| .cons (.str _) <| .cons (.str _) <|
      .cons (.tup (stOf (hi_of hX n1 (t2 _ _ g1))) (.cons (.str _) (.cons (.str _) .nil))) <|
      .cons (.tup (stOf (hi_of hX f2 (t3 _ _ g2))) (.cons (.str _) (.cons (.str _) .nil))) <|
      .cons (.tup (stOf (hi_of hX f3 (t4 _ _ g3))) (.cons (.str _) .nil)) <|
      .cons (.tup (stOf (hi_of hX f4 (t5 _ _ g4))) .nil) <|
      .cons (.lst (sqOf (hi_of hX f5 (t6 _ _ g5))) .nil) <|
      .cons (.dic (hi_of hX f6 (s7 _ _ g6))) <|
      .cons (.lst (sqOf (hi_of hX f7 g7)) (.cons (.str _) (.cons (.str _) .nil))) .nil
    have D7 := hX.same t1
    have s8 : Same H7 (upd H7 l (.lst [.non, .bl true, .int 0, .str "", .str "-", .str "a", .str "A", .str "ab", .str "1", .str " ", .ref p1, .ref p2, .ref p3, .ref p4, .ref p5, .ref p6, .ref p7])) := same_upd nl
    have g8 : upd H7 l (.lst [.non, .bl true, .int 0, .str "", .str "-", .str "a", .str "A", .str "ab", .str "1", .str " ", .ref p1, .ref p2, .ref p3, .ref p4, .ref p5, .ref p6, .ref p7]) l = some (.lst [.non, .bl true, .int 0, .str "", .str "-", .str "a", .str "A", .str "ab", .str "1", .str " ", .ref p1, .ref p2, .ref p3, .ref p4, .ref p5, .ref p6, .ref p7]) := upd_same
    generalize upd H7 l (.lst [.non, .bl true, .int 0, .str "", .str "-", .str "a", .str "A", .str "ab", .str "1", .str " ", .ref p1, .ref p2, .ref p3, .ref p4, .ref p5, .ref p6, .ref p7]) = H8 at s8 g8 ⊢
    have t8 := t1.trans s8
    have D8 := hX.same t8
    have dq8 := dq.up (same_hi s8 D7)
    have f8 := t1.free nl
    have hv8 := hd.up (same_hi t8 hX)
    refine ⟨fun σ H' => ∃ (l : Addr) (xs : List V) (ds : List PyData), σ = [some (.ref a), some v, some (.ref l)] ∧ hid a q H' l = some (.lst xs) ∧ DqAll K (hi a q z H') xs ds ∧ (∀ e ∈ ds, OddR d e) ∧ Same H H' ∧ xs ≠ [] ∧ xs.length ≤ 100, ?_, ?_⟩
    · refine ⟨v, rfl, v, .ty "str", _, _, _, rfl, .ty "str", tyx_of (hv8.up hi_sub), kit_ty (kit_str d), _, rfl, ?_⟩
      have no : ∃ (l' : Addr) (xs : List V) (ds : List PyData), [some (V.ref a), some v, some (.ref l)] = [some (.ref a), some v, some (.ref l')] ∧ hid a q H8 l' = some (.lst xs) ∧ DqAll K (hi a q z H8) xs ds ∧ (∀ e ∈ ds, OddR d e) ∧ Same H H8 ∧ xs ≠ [] ∧ xs.length ≤ 100 :=
        ⟨l, _, _, rfl, hid_of hD f8 g8, dq8, oddL_ok d, t8, List.cons_ne_nil _ _, by simp⟩
      cases d with
      | str x =>
        cases hd
        have hx : x.length ≤ 100000 := hb
        refine iteT ⟨_, rfl, .str x, rfl, .str x, rfl, x, x, rfl, rfl, len_sz (by omega), .str x, rfl, _, _, rfl, rfl, len_sz (by show _ + 1 ≤ _; omega), .str x, rfl, ⟨_, rfl⟩, x, rfl, rfl, by omega, .str x, rfl, _, _, rfl, rfl, len_sz (by show _ + 1 ≤ _; omega), sz 4 (by omega), fun r nr => ?_⟩
        refine ⟨l, r, _, _, rfl, rfl, (by rw [upd_ne (ne_of_none g8 nr)]; exact g8), upd_same, len_sz (by simp), fun l2 n9 => ?_⟩
        have s9 := fun o => (same_upd (o := .lst [.str (x ++ x), .str (x ++ "-"), .str (Txt.upper x), .str (x ++ " ")]) nr).trans (same_upd (o := o) n9)
        exact ⟨l2, _, _, rfl, hid_of hD (t8.free ((same_upd nr).free n9)) upd_same, DqAll.app (ds2 := oddS x) (.cons (.str _) <| .cons (.str _) <| .cons (.str _) <| .cons (.str _) .nil) (dq8.up (same_hi (s9 _) D8)), fun e he => (List.mem_append.mp he).elim (oddL_ok _ e) (oddS_ok hasc e), t8.trans (s9 _), (by simp), by simp⟩
      | _ => exact iteF no
    · rintro σ H9 ⟨l9, xs, ds, rfl, hl, ha, ho, t9, hne, hlen⟩
      have D9 := hD.same t9
      refine ⟨.ref a, rfl, .ref l9, rfl, a, q, m, .ref l9, rfl, D9, hm, .inl ⟨l9, xs, rfl, sqOf hl, hne, by omega, fun i x H' hi o9 d9 => ?_⟩⟩
      obtain ⟨e, he, hx⟩ := ha.at hi
      exact kQ x e H' (hx.up (off_hi o9)) (ho e (List.mem_of_getElem? he)) ((Off.of_same t9).trans o9) d9
end
end KK
namespace KK
open PySem PySem.Spec PyProof.Rows L2 EL
open Evl (pss_cut)
abbrev sLBent : Stmt := topS 19
theorem scLBent : FnScope ["_law_deck_here", "_law_it", "_law_at", "_law_way"] ["_law_deck_here", "_law_it"] (defScope sLBent) := ⟨rfl, rfl, rfl, by decide +kernel, rfl, by decide +kernel, by decide +kernel⟩
/-- bent from d -/
structure BentR (d e : PyData) : Prop where
  mx : Mix e
  dp : e.depth ≤ d.depth + 1
  bk : e.bulk ≤ 2 * d.bulk + 10
  tp : isTup d = false → isTup e = true → Pure e
theorem OddR.bent {d e : PyData} (h : OddR d e) : BentR d e := ⟨h.mx, by have := h.dp; omega, h.bk, fun _ => h.tp⟩
/-- may be bent -/
structure CanB (n : Nat) (d : PyData) : Prop where
  asc : asc d = true
  tup : isTup d = true → Pure d
  dp : d.depth < n
  dp2 : d.depth ≤ 40
  bk : d.bulk ≤ 50000
/-- bent, as drawn; n more than the depth -/
def spBent (K : PySem.W.Frag) (n : Nat) : Sp := fun vs H Q _ => ∃ (a q z : Addr) (m : Nat) (v : V) (d : PyData), vs = [.ref a, v] ∧ Dx a q z m H ∧ m + 10 * n + 10 < 1000000000 ∧ Dq K (hi a q z H) v d ∧ CanB n d ∧
  ∀ (x : V) (e : PyData) H', Dq K (hi a q z H') x e → BentR d e → Off a q H H' → Dw a q (m + 4 * n) H' → Q x H'
theorem bulk_app : ∀ xs ys : List PyData, PyData.bulkAll (xs ++ ys) = PyData.bulkAll xs + PyData.bulkAll ys
  | [], ys => by simp [PyData.bulkAll]
  | x :: r, ys => by simp only [List.cons_append, PyData.bulkAll, bulk_app r ys]; omega
theorem bulk_tk_dp (xs : List PyData) (i : Nat) : PyData.bulkAll (xs.take i) + PyData.bulkAll (xs.drop i) = PyData.bulkAll xs := by
  rw [← bulk_app, List.take_append_drop]
theorem bulk_rev : ∀ xs : List PyData, PyData.bulkAll xs.reverse = PyData.bulkAll xs
  | [] => rfl
  | x :: r => by rw [List.reverse_cons, bulk_app, bulk_rev r]; simp [PyData.bulkAll]; omega
theorem bulk_cut {xs : List PyData} {i : Nat} {e : PyData} (h : xs[i]? = some e) : PyData.bulkAll (xs.take i) + (e.bulk + 1) + PyData.bulkAll (xs.drop (i + 1)) = PyData.bulkAll xs := by
  have := bulk_tk_dp xs i
  obtain ⟨hi, he⟩ := List.getElem?_eq_some_iff.mp h
  rw [List.drop_eq_getElem_cons hi, he] at this
  simp only [PyData.bulkAll] at this
  omega
theorem dpt_iff {k : Nat} : ∀ {xs : List PyData}, PyData.depthAll xs ≤ k ↔ ∀ e ∈ xs, e.depth ≤ k
  | [] => by simp [PyData.depthAll]
  | x :: r => by
    simp only [PyData.depthAll, List.forall_mem_cons, ← dpt_iff (xs := r)]; omega
theorem nd_iff : ∀ {xs : List PyData}, PyData.hasDictAll xs = false ↔ ∀ e ∈ xs, e.hasDict = false
  | [] => by simp [PyData.hasDictAll]
  | x :: r => by
    simp only [PyData.hasDictAll, List.forall_mem_cons, ← nd_iff (xs := r), Bool.or_eq_false_iff]
theorem nl_iff : ∀ {xs : List PyData}, noLs xs = true ↔ ∀ e ∈ xs, noL e = true
  | [] => by simp [noLs]
  | x :: r => by
    simp only [noLs, List.forall_mem_cons, ← nl_iff (xs := r), Bool.and_eq_true]
theorem asc_iff {xs : List PyData} : ascs xs = true ↔ ∀ e ∈ xs, asc e = true := by rw [ascs_all, List.all_eq_true]
/-- every one of its parts -/
theorem pure_iff {xs : List PyData} : Pure (.tuple xs) ↔ ∀ e ∈ xs, Pure e := by
  constructor
  · rintro ⟨h1, h2, h3⟩ e m
    exact ⟨asc_iff.mp (by simpa [KK.asc] using h1) e m, nd_iff.mp (by simpa [PyData.hasDict] using h2) e m, nl_iff.mp (by simpa [noL] using h3) e m⟩
  · intro h
    exact ⟨by simpa [KK.asc] using asc_iff.mpr fun e m => (h e m).asc, by simpa [PyData.hasDict] using nd_iff.mpr fun e m => (h e m).nd, by simpa [noL] using nl_iff.mpr fun e m => (h e m).nl⟩
/-- parts of it, in another order or twice -/
theorem bent_parts {ds es : List PyData} (hp : Pure (.tuple ds)) (hm : ∀ e ∈ es, e ∈ ds) (hb : PyData.bulkAll es ≤ 2 * PyData.bulkAll ds + 10) : BentR (.tuple ds) (.tuple es) ∧ BentR (.tuple ds) (.list es) := by
  have hp2 := pure_iff.mp hp
  have a1 : ascs es = true := asc_iff.mpr fun e m => (hp2 e (hm e m)).asc
  have a2 : PyData.hasDictAll es = false := nd_iff.mpr fun e m => (hp2 e (hm e m)).nd
  have a3 : PyData.depthAll es ≤ PyData.depthAll ds := dpt_iff.mpr fun e m => dpt_iff.mp (Nat.le_refl _) e (hm e m)
  refine ⟨⟨⟨by simpa [KK.asc] using a1, .inl (by simpa [PyData.hasDict] using a2)⟩, ?_, hb, fun z => by simp [isTup, tyN] at z⟩, ⟨⟨by simpa [KK.asc] using a1, .inl (by simpa [PyData.hasDict] using a2)⟩, ?_, hb, fun z => by simp [isTup, tyN] at z⟩⟩ <;>
    simp only [PyData.depth] <;> omega
/-- one part bent -/
theorem bent_one {ds : List PyData} {i : Nat} {d e : PyData} (hp : Pure (.tuple ds)) (h : ds[i]? = some d) (he : BentR d e) : BentR (.tuple ds) (.tuple (ds.take i ++ [e] ++ ds.drop (i + 1))) := by
  have hp2 := pure_iff.mp hp
  have mem : ∀ x ∈ ds.take i ++ [e] ++ ds.drop (i + 1), x ∈ ds ∨ x = e := fun x m => by
    rcases List.mem_append.mp m with m | m
    · rcases List.mem_append.mp m with m | m
      · exact .inl (List.mem_of_mem_take m)
      · exact .inr (by simpa using m)
    · exact .inl (List.mem_of_mem_drop m)
  have hd := dpt_iff.mp (Nat.le_refl (PyData.depthAll ds)) d (List.mem_of_getElem? h)
  refine ⟨⟨by simpa only [KK.asc] using asc_iff.mpr fun x m => (mem x m).elim (fun z => (hp2 x z).asc) (fun z => z ▸ he.mx.asc), ?_⟩, ?_, ?_, fun z => by simp [isTup, tyN] at z⟩
  · rcases he.mx.mix with q | q
    · exact .inl (by simpa only [PyData.hasDict] using nd_iff.mpr fun x m => (mem x m).elim (fun z => (hp2 x z).nd) (fun z => z ▸ q))
    · exact .inr (by simpa only [noL] using nl_iff.mpr fun x m => (mem x m).elim (fun z => (hp2 x z).nl) (fun z => z ▸ q))
  · have := he.dp
    have a3 : PyData.depthAll (ds.take i ++ [e] ++ ds.drop (i + 1)) ≤ PyData.depthAll ds + 1 := dpt_iff.mpr fun x m => (mem x m).elim (fun z => by have := dpt_iff.mp (Nat.le_refl (PyData.depthAll ds)) x z; omega) (fun z => by subst z; omega)
    simp only [PyData.depth]; omega
  · have := bulk_cut h
    have := he.bk
    show PyData.bulkAll _ ≤ 2 * PyData.bulkAll ds + 10
    rw [bulk_app, bulk_app]
    simp only [PyData.bulkAll]; omega
theorem sqt_hid {K : PySem.W.Frag} {a q b : Addr} {m : Nat} {H : Hp} {xs : List V} (d : Dw a q m H) (h : SqT K H b xs) : SqT K (hid a q H) b xs := by
  obtain ⟨c, _, k⟩ := d
  obtain ⟨i, _, _, h3⟩ := k.top
  obtain ⟨ns, _, h5⟩ := k.que
  have ne : ∀ o, H b = some o → (∀ ys, o ≠ .lst ys) → b ≠ a ∧ b ≠ q := fun o e n => ⟨fun z => by subst z; rw [h3] at e; exact n _ (Option.some.inj e).symm, fun z => by subst z; rw [h5] at e; exact n _ (Option.some.inj e).symm⟩
  rcases h with (h | ⟨o, h⟩) | h
  · obtain ⟨n1, n2⟩ := ne _ h (fun _ z => nomatch z)
    exact .inl (.inl (by rw [hid_ne n1 n2]; exact h))
  · obtain ⟨n1, n2⟩ := ne _ h (fun _ z => nomatch z)
    exact .inl (.inr ⟨o, by rw [hid_ne n1 n2]; exact h⟩)
  · exact .inr h
theorem sqt_hi {K : PySem.W.Frag} {a q z b : Addr} {m : Nat} {H : Hp} {xs : List V} (d : Dx a q z m H) (h : SqT K H b xs) : SqT K (hi a q z H) b xs := by
  rcases d.li with rfl | ⟨_, _, ys, h3⟩
  · have e : hi z q z H = hid z q H := by
      funext b
      unfold hi
      by_cases hb : b = z
      · subst hb; unfold hid; simp
      · rw [hid_ne hb hb]
    rw [e]; exact sqt_hid d.dw h
  · have ne : ∀ o, H b = some o → (∀ ys, o ≠ .lst ys) → b ≠ z := fun o e n e2 => by subst e2; rw [h3] at e; exact n _ (Option.some.inj e).symm
    have h2 := sqt_hid d.dw h
    have key : ∀ o, (∀ ys, o ≠ .lst ys) → hid a q H b = some o → hi a q z H b = some o := fun o n e => by
      have := (hid_some e).2.2
      have nb := ne _ this n
      unfold hi; rw [hid_ne nb nb]; exact e
    rcases h2 with (h2 | ⟨o, h2⟩) | h2
    · exact .inl (.inl (key _ (fun _ z => nomatch z) h2))
    · exact .inl (.inr ⟨o, key _ (fun _ z => nomatch z) h2⟩)
    · exact .inr h2
theorem sl_of {K : PySem.W.Frag} {a : Addr} {H : Hp} {xs : List V} {lo hi : Option Int} {Q : VK} (h : SqT K H a xs) (k : ∀ b H', Same H H' → SqT K H' b (cutV xs lo hi) → Q (.ref b) H') : rSlA K (.ref a) lo hi H Q := by
  refine ⟨a, xs, rfl, h, fun hw => k a H (Same.refl H) ?_, fun _ p np => k p _ (same_upd np) (stOf upd_same)⟩
  have : cutV xs lo hi = xs := by
    unfold cutV
    rw [hw.1, hw.2, List.drop_zero, Nat.sub_zero, List.take_of_length_le (Nat.le_refl _)]
  rw [this]; exact h
theorem cat_of {K : PySem.W.Frag} {a b : Addr} {H : Hp} {xs ys : List V} {Q : VK} (h1 : SqT K H a xs) (h2 : SqT K H b ys) (hz : xs.length + ys.length ≤ 1000000) (k : ∀ c H', Same H H' → SqT K H' c (xs ++ ys) → Q (.ref c) H') : rCatA K (.ref a) (.ref b) H Q := by
  refine ⟨a, b, xs, ys, rfl, rfl, h1, h2, len_sz hz, fun e => k b H (Same.refl H) (by rw [e]; exact h2), fun _ e => k a H (Same.refl H) (by rw [e, List.append_nil]; exact h1), fun _ _ p np => k p _ (same_upd np) (stOf upd_same)⟩
theorem cut_tk (xs : List V) (n : Nat) : cutV xs none (some (n : Int)) = xs.take n := by
  unfold cutV
  rw [HT.sIx_nat, HT.sIx_none, List.drop_zero, Nat.sub_zero, List.take_eq_take_iff]
  omega
theorem cut_dp (xs : List V) (n : Nat) : cutV xs (some (n : Int)) none = xs.drop n := by
  unfold cutV
  rw [HT.sIx_nat, HT.sIx_none]
  by_cases h : n ≤ xs.length
  · rw [Nat.min_eq_left h, List.take_of_length_le (by rw [List.length_drop]; omega)]
  · rw [Nat.min_eq_right (by omega), List.drop_of_length_le (Nat.le_refl _), List.drop_of_length_le (by omega), List.take_nil]
theorem eqv_nilT (ds : List PyData) : PyData.eqv (.tuple ds) (.tuple []) = decide (ds = []) := by
  cases ds <;> simp [PyData.eqv, PyData.eqvAll]
section
variable {P : Program} {w : World} {K : PySem.W.Frag} {mg : Str → Option Value} {base : Heap}
theorem ok_LBent {f : Addr} {fd : FuncData} {k : Nat} {n : Nat} (F : Fun K "_law_bent" "_law_bent" sLBent f fd) (nisinstance : mg "isinstance" = none) (ntuple : mg "tuple" = none) (nlen : mg "len" = none) (nlist : mg "list" = none)  (CLDraw : Cal P w K mg base k "_law_draw" ["_law_deck_here", "_law_below"] spDraw) (CLOdd : Cal P w K mg base k "_law_odd" ["_law_deck_here", "_law_it"] (spOdd K)) (CLBent : Cal P w K mg base k "_law_bent" ["_law_deck_here", "_law_it"] (spBent K n)) : FnOk P w K mg base CX0 (k + 1) f fd ["_law_deck_here", "_law_it"] (spBent K (n + 1)) := by
  refine F.ok scLBent (fun vs H Q E h => ?_) (fun cdv A outer s H vs Q E hr h => ?_)
  · obtain ⟨a, q, z, m, v, d, rfl, _⟩ := h; rfl
  · obtain ⟨a, q, z, m, v, d, rfl, hX, hm, hd, hc, kQ⟩ := h
    have hu := hr.units
    have hD := hX.dw
    refine ⟨_, (pss_cons (ps_if (PW.pt (pw_or (pt_not (pt_val (pe_callB call_isi (by rfl) nisinstance boot_isinstance (pa_cons (pv 1) (pa_cons (pe_tyN ntuple boot_tuple) pa_nil))))) (pw_or (pt_cmpR (op_eqD hu) (pv 1) (pe_tup pa_nil) (nomark _)) (pw_or1 (pt_cmpR op_eq (pe_cal CLDraw hr (by rfl) pass0 (pa_cons (pv 0) (pa_cons pe_int pa_nil))) pe_int (nomark _)))))) (pss_one (ps_ret (pe_cal CLOdd hr (by rfl) pass0 (pa_cons (pv 0) (pa_cons (pv 1) pa_nil))))) pss_nil)
      (pss_cons (ps_par (i := 2) (j := 3) (by rfl) scLBent.nd rfl rfl (by decide) rfl rfl (pa_cons (pe_cal CLDraw hr (by rfl) pass0 (pa_cons (pv 0) (pa_cons (pe_callB call_len (by rfl) nlen boot_len (pa_cons (pv 1) pa_nil)) pa_nil))) (pa_cons (pe_cal CLDraw hr (by rfl) pass0 (pa_cons (pv 0) (pa_cons pe_int pa_nil))) pa_nil)) (by rfl))
      (pss_cons (ps_if (pt_cmpR op_eq (pv 3) pe_int (nomark _)) (pss_one (ps_ret (pe_op op_catA (pe_slice sl_tupA (pv 1) po_none (po_some (pv 2))) (pe_slice sl_tupA (pv 1) (po_some (pe_op op_add (pv 2) pe_int)) po_none)))) pss_nil)
      (pss_cons (ps_if (pt_cmpR op_eq (pv 3) pe_int (nomark _)) (pss_one (ps_ret (pe_op op_catA (pe_slice sl_tupA (pv 1) po_none (po_some (pe_op op_add (pv 2) pe_int))) (pe_slice sl_tupA (pv 1) (po_some (pv 2)) po_none)))) pss_nil)
      (pss_cons (ps_if (pt_cmpR op_eq (pv 3) pe_int (nomark _)) (pss_one (ps_ret (pe_revT (pv 1)))) pss_nil)
      (pss_cons (ps_if (pt_cmpR op_eq (pv 3) pe_int (nomark _)) (pss_one (ps_ret (pe_callTy call_list_of (by rfl) nlist boot_list (pa_cons (pv 1) pa_nil)))) pss_nil)
      (pss_one (ps_ret (pe_op op_catA (pe_op op_catA (pe_slice sl_tupA (pv 1) po_none (po_some (pv 2))) (pe_tup (pa_cons (pe_cal CLBent hr (by rfl) pass0 (pa_cons (pv 0) (pa_cons (pe_ix ix_tup (pv 1) (pv 2) (fun _ _ => rfl)) pa_nil))) pa_nil))) (pe_slice sl_tupA (pv 1) (po_some (pe_op op_add (pv 2) pe_int)) po_none)))))))))), ?_⟩
    refine ⟨v, rfl, v, .ty "tuple", _, _, _, rfl, .ty "tuple", tyx_of (hd.up hi_sub), kit_ty (kit_tuple d), _, rfl, ?_⟩
    have odd : ∀ H' m', Off a q H H' → Dw a q m' H' → m' ≤ m + 1 → spOdd K [.ref a, v] H' Q E0 := fun H' m' o' D' hm' =>
      ⟨a, q, z, m', v, d, rfl, hX.step o' D', by omega, hd.up (off_hi o'), hc.asc, Nat.le_trans hc.bk (by decide), fun x e H2 hx he o2 D2 => kQ x e H2 hx he.bent (o'.trans o2) (D2.mono (by omega))⟩
    cases d with
    | tuple ds =>
      have hp : Pure (.tuple ds) := hc.tup rfl
      have hd0 := hd.up hi_sub
      cases hd with
      | tup hs ha =>
      rename_i b xs
      refine iteF ⟨.ref b, rfl, len_sz (by decide), fun p np => ?_⟩
      have s0 : Same H (upd H p (.tup [])) := same_upd np
      have g0 : upd H p (.tup []) p = some (.tup []) := upd_same
      generalize upd H p (.tup []) = H0 at s0 g0 ⊢
      have D0 := hD.same s0
      have o0 : EL.Off a q H H0 := .of_same s0
      have nd : PyData.hasDictAll ds = false := by simpa [PyData.hasDict] using hp.nd
      refine ⟨.tuple ds, .tuple [], dp_of _ _ (hd0.up s0) (by simp only [PyData.hasDict]; exact nd), dp_of _ _ (.tup (stOf g0) .nil) rfl, shaped_asc hp.asc hp.nd (Nat.le_trans hc.dp2 (by decide)), rfl, _, rfl, ?_⟩
      rw [eqv_nilT]
      by_cases hne : ds = []
      · rw [decide_eq_true hne]
        exact iteT (iteT ⟨.ref a, rfl, _, rfl, odd H0 m o0 D0 (by omega)⟩)
      rw [decide_eq_false hne]
      refine iteF ⟨.ref a, rfl, a, q, m, 5, rfl, D0, by omega, by decide, by decide, fun j H1 j0 j1 o1 D1 => ⟨rfl, ?_⟩⟩
      have oo1 := o0.trans o1
      by_cases hj : V.int j = V.int 0
      · rw [decide_eq_true hj]
        exact ⟨_, rfl, iteT ⟨.ref a, rfl, _, rfl, odd H1 (m + 1) oo1 D1 (by omega)⟩⟩
      rw [decide_eq_false hj]
      have hs1 : SqT K H1 b xs := ex_t' hi_sub (ex_t' (off_hi oo1) hs)
      have hlen : xs.length = ds.length := ha.len
      have hb1 : ds.length ≤ 50000 := Nat.le_trans (bulk_len ds) hc.bk
      have hpos : 0 < ds.length := List.length_pos_iff.mpr hne
      refine ⟨_, rfl, iteF ⟨.ref a, rfl, .ref b, rfl, .ref b, (xs.length : Nat), rfl, .inr ⟨xs, hs1, rfl⟩, a, q, m + 1, _, rfl, D1, by omega, by omega, by omega, fun i H2 i0 i1 o2 D2 => ?_⟩⟩
      obtain ⟨i, rfl⟩ := Int.eq_ofNat_of_zero_le i0
      have hil : i < ds.length := by omega
      refine ⟨.ref a, rfl, a, q, m + 1 + 1, 8, rfl, D2, by omega, by decide, by decide, fun w H3 w0 w1 o3 D3 => ⟨_, _, rfl, ?_⟩⟩
      have O3 := (oo1.trans o2).trans o3
      have hs3 : SqT K H3 b xs := ex_t' hi_sub (ex_t' (off_hi O3) hs)
      have X3 := hX.step O3 D3
      have ha3 : DqAll K (hi a q z H3) xs ds := ha.up (off_hi O3)
      have fin : ∀ (c : Addr) (H4 : Hp) (ys : List V) (es : List PyData), Same H3 H4 → SqT K H4 c ys → DqAll K (hi a q z H3) ys es → BentR (.tuple ds) (.tuple es) → Q (.ref c) H4 := fun c H4 ys es sm hc4 hA hB =>
        kQ (.ref c) (.tuple es) H4 (.tup (sqt_hi (X3.same sm) hc4) (hA.up (same_hi sm X3))) hB (O3.trans (.of_same sm)) ((D3.same sm).mono (by omega))
      have ltk : ∀ k : Nat, (xs.take k).length ≤ 50000 := fun k => by rw [List.length_take]; omega
      have ldp : ∀ k : Nat, (xs.drop k).length ≤ 50000 := fun k => by rw [List.length_drop]; omega
      have tk_dp := bulk_tk_dp ds
      have e1 : ((i : Int) + 1) = ((i + 1 : Nat) : Int) := rfl
      refine ⟨_, rfl, rfl, ?_⟩
      by_cases w0' : V.int w = V.int 0
      · rw [decide_eq_true w0']
        refine ⟨_, rfl, iteT ?_⟩
        refine ⟨.ref b, rfl, _, rfl, _, rfl, sl_of hs3 fun c H4 s4 h4 => ?_⟩
        refine ⟨.ref b, rfl, _, rfl, _, _, rfl, rfl, _, rfl, ?_⟩
        dsimp only [tNoPart]
        refine sl_of (ex_t' s4 hs3) fun c2 H5 s5 h5 => ?_
        rw [cut_tk] at h4
        rw [e1, cut_dp] at h5
        refine cat_of (ex_t' s5 h4) h5 (by have := ltk i; have := ldp (i + 1); omega) fun c3 H6 s6 h6 => ?_
        refine fin c3 H6 _ (ds.take i ++ ds.drop (i + 1)) (s4.trans (s5.trans s6)) h6 (EL.DqAll.app (ha3.tk i) (ha3.dp (i + 1))) (bent_parts hp (fun e m => (List.mem_append.mp m).elim List.mem_of_mem_take List.mem_of_mem_drop) ?_).1
        rw [bulk_app]
        have := tk_dp i
        have := tk_dp (i + 1)
        omega
      rw [decide_eq_false w0']
      refine ⟨_, rfl, iteF ?_⟩
      refine ⟨_, rfl, rfl, ?_⟩
      by_cases w1' : V.int w = V.int 1
      · rw [decide_eq_true w1']
        refine ⟨_, rfl, iteT ?_⟩
        refine ⟨.ref b, rfl, _, rfl, _, _, rfl, rfl, _, rfl, sl_of hs3 fun c H4 s4 h4 => ?_⟩
        refine ⟨.ref b, rfl, _, rfl, _, rfl, ?_⟩
        dsimp only [tNoPart]
        refine sl_of (ex_t' s4 hs3) fun c2 H5 s5 h5 => ?_
        rw [e1, cut_tk] at h4
        rw [cut_dp] at h5
        refine cat_of (ex_t' s5 h4) h5 (by have := ltk (i + 1); have := ldp i; omega) fun c3 H6 s6 h6 => ?_
        refine fin c3 H6 _ (ds.take (i + 1) ++ ds.drop i) (s4.trans (s5.trans s6)) h6 (EL.DqAll.app (ha3.tk (i + 1)) (ha3.dp i)) (bent_parts hp (fun e m => (List.mem_append.mp m).elim List.mem_of_mem_take List.mem_of_mem_drop) ?_).1
        rw [bulk_app]
        have := tk_dp i
        have := tk_dp (i + 1)
        omega
      rw [decide_eq_false w1']
      refine ⟨_, rfl, iteF ?_⟩
      refine ⟨_, rfl, rfl, ?_⟩
      by_cases w2' : V.int w = V.int 2
      · rw [decide_eq_true w2']
        refine ⟨_, rfl, iteT ?_⟩
        refine ⟨.ref b, rfl, b, xs, rfl, hs3, fun r nr => ?_⟩
        exact fin r _ _ ds.reverse (same_upd nr) (stOf upd_same) ha3.rv (bent_parts hp (fun e m => List.mem_reverse.mp m) (by rw [bulk_rev]; omega)).1
      rw [decide_eq_false w2']
      refine ⟨_, rfl, iteF ?_⟩
      refine ⟨_, rfl, rfl, ?_⟩
      by_cases w3' : V.int w = V.int 3
      · rw [decide_eq_true w3']
        refine ⟨_, rfl, iteT ?_⟩
        refine ⟨.ref b, rfl, b, xs, rfl, .inr hs3, fun r nr => ?_⟩
        have sm : Same H3 (upd H3 r (.lst xs)) := same_upd nr
        exact kQ (.ref r) (.list ds) _ (.lst (sqOf (hi_of X3 nr upd_same)) (ha3.up (same_hi sm X3))) (bent_parts hp (fun e m => m) (by omega)).2 (O3.trans (.of_same sm)) ((D3.same sm).mono (by omega))
      rw [decide_eq_false w3']
      refine ⟨_, rfl, iteF ?_⟩
      obtain ⟨x, hx⟩ : ∃ x, xs[i]? = some x := ⟨_, List.getElem?_eq_getElem (by omega)⟩
      obtain ⟨d, hdi, hxd⟩ := ha3.at hx
      have hpd := pure_iff.mp hp d (List.mem_of_getElem? hdi)
      have dpd : d.depth + 1 ≤ (PyData.tuple ds).depth := Nat.succ_le_succ (dpt_iff.mp (Nat.le_refl (PyData.depthAll ds)) d (List.mem_of_getElem? hdi))
      have bkd := bulk_cut hdi
      refine ⟨.ref b, rfl, _, rfl, _, rfl, sl_of hs3 fun c H4 s4 h4 => ?_⟩
      rw [cut_tk] at h4
      have D4 := D3.same s4
      have X4 := X3.same s4
      have cn : CanB n d := ⟨hpd.asc, fun _ => hpd, by have := hc.dp; omega, by have := hc.dp2; omega, by have := hc.bk; have : (PyData.tuple ds).bulk = PyData.bulkAll ds := rfl; omega⟩
      refine ⟨.ref a, rfl, .ref b, rfl, _, rfl, b, xs, (i : Int), x, rfl, rfl, ex_t' s4 hs3, atI_nat hx, a, q, z, m + 1 + 1 + 1, x, d, rfl, X4, by omega, hxd.up (same_hi s4 X3), cn, fun y e H5 hy he o5 D5 => ?_⟩
      have X5 := X4.step o5 D5
      refine ⟨len_sz (by show 1 ≤ 1000000; decide), fun r nr => ?_⟩
      have s5 : Same H5 (upd H5 r (.tup [y])) := same_upd nr
      have g5 : upd H5 r (.tup [y]) r = some (.tup [y]) := upd_same
      generalize upd H5 r (.tup [y]) = H6 at s5 g5 ⊢
      have h5 : SqT K H5 c (xs.take i) := ex_t' hi_sub (ex_t' (off_hi o5) (sqt_hi X4 h4))
      refine cat_of (ex_t' s5 h5) (stOf g5) (by have := ltk i; simp only [List.length_singleton]; omega) fun c2 H7 s7 h7 => ?_
      have h3' : SqT K H7 b xs := ex_t' (s5.trans s7) (ex_t' hi_sub (ex_t' (off_hi o5) (ex_t' (same_hi s4 X3) (sqt_hi X3 hs3))))
      refine ⟨.ref b, rfl, _, rfl, _, _, rfl, rfl, _, rfl, ?_⟩
      dsimp only [tNoPart]
      refine sl_of h3' fun c3 H8 s8 h8 => ?_
      rw [e1, cut_dp] at h8
      refine cat_of (ex_t' s8 h7) h8 (by rw [List.length_append]; have := ltk i; have := ldp (i + 1); simp only [List.length_singleton]; omega) fun c4 H9 s9 h9 => ?_
      have S := s5.trans (s7.trans (s8.trans s9))
      have A5 : DqAll K (hi a q z H5) xs ds := (ha3.up (same_hi s4 X3)).up (off_hi o5)
      exact kQ (.ref c4) (.tuple (ds.take i ++ [e] ++ ds.drop (i + 1))) H9 (.tup (sqt_hi (X5.same S) h9) ((EL.DqAll.app (EL.DqAll.app (A5.tk i) (.cons hy .nil)) (A5.dp (i + 1))).up (same_hi S X5))) (bent_one hp hdi he)
        (((O3.trans (.of_same s4)).trans o5).trans (.of_same S)) ((D5.same S).mono (by omega))
    | _ => exact iteT ⟨.ref a, rfl, _, rfl, odd H m (Off.refl H) hD (by omega)⟩
end
end KK
/-! Calls by keywords alone: one parameter, two parameters the other way round. -/
namespace EL
open PySem PySem.Spec PyProof.Rows L2
def kw1 {α : Type} : List α → List α → List α
  | [], [z] => [z]
  | _, _ => []
def kw2r {α : Type} : List α → List α → List α
  | [], [z, y] => [y, z]
  | _, _ => []
theorem kw1_rel {vs : List V} {us : List Value} {zs : List V} {ws : List Value} (h1 : Vals vs us) (h2 : Vals zs ws) : Vals (kw1 vs zs) (kw1 us ws) := by
  cases h1 with
  | cons _ _ => exact .nil
  | nil =>
    cases h2 with
    | nil => exact .nil
    | cons r rr =>
      cases rr with
      | nil => exact .cons r .nil
      | cons _ _ => exact .nil
theorem kw2r_rel {vs : List V} {us : List Value} {zs : List V} {ws : List Value} (h1 : Vals vs us) (h2 : Vals zs ws) : Vals (kw2r vs zs) (kw2r us ws) := by
  cases h1 with
  | cons _ _ => exact .nil
  | nil =>
    cases h2 with
    | nil => exact .nil
    | cons r rr =>
      cases rr with
      | nil => exact .nil
      | cons r2 rr2 =>
        cases rr2 with
        | nil => exact .cons r2 (.cons r .nil)
        | cons _ _ => exact .nil
theorem Fun.kw1 {K : PySem.W.Frag} {x qual : Str} {st : Stmt} {f : Addr} {fd : FuncData} {p : Str} (F : Fun K x qual st f fd)
    (h : ∀ (kV doc pm : Value) (an : Option Addr) (cdv ct : Value) (u : Value), bindArgs (PySem.W.fnOf x qual (defArgs st) (defBody st) (defScope st) .none kV doc pm an cdv ct) ⟨[], [(p, u)]⟩ = pure [(p, u)]) : KBinds K fd [p] [p] EL.kw1 EL.kw1 := by
  obtain ⟨oc, od, kV, doc, pm, an, cdv, ct, osl, rfl, lk, hcd⟩ := F.ex
  refine ⟨fun s us ws _ hl => ?_, kw1_rel⟩
  match us, ws, hl with
  | [], [u], _ => exact .of_eq (h kV doc pm an cdv ct u)
  | [], [], hl => exact absurd hl (by simp [EL.kw1])
  | [], _ :: _ :: _, hl => exact absurd hl (by simp [EL.kw1])
  | _ :: _, _, hl => exact absurd hl (by simp [EL.kw1])
theorem Fun.kw2r {K : PySem.W.Frag} {x qual : Str} {st : Stmt} {f : Addr} {fd : FuncData} {p q : Str} (F : Fun K x qual st f fd)
    (h : ∀ (kV doc pm : Value) (an : Option Addr) (cdv ct : Value) (u v : Value), bindArgs (PySem.W.fnOf x qual (defArgs st) (defBody st) (defScope st) .none kV doc pm an cdv ct) ⟨[], [(q, u), (p, v)]⟩ = pure [(p, v), (q, u)]) : KBinds K fd [p, q] [q, p] EL.kw2r EL.kw2r := by
  obtain ⟨oc, od, kV, doc, pm, an, cdv, ct, osl, rfl, lk, hcd⟩ := F.ex
  refine ⟨fun s us ws _ hl => ?_, kw2r_rel⟩
  match us, ws, hl with
  | [], [u, v], _ => exact .of_eq (h kV doc pm an cdv ct u v)
  | [], [], hl => exact absurd hl (by simp [EL.kw2r])
  | [], [_], hl => exact absurd hl (by simp [EL.kw2r])
  | [], _ :: _ :: _ :: _, hl => exact absurd hl (by simp [EL.kw2r])
  | _ :: _, _, hl => exact absurd hl (by simp [EL.kw2r])
end EL
namespace KK
open PySem PySem.Spec PyProof.Rows L2 EL
open Evl (pss_cut)
abbrev sLAreTold : Stmt := topS 20
theorem scLAreTold : FnScope ["_law_it", "_law_due", "_law_was", "_law_told"] ["_law_it"] (defScope sLAreTold) := ⟨rfl, rfl, rfl, by decide +kernel, rfl, by decide +kernel, by decide +kernel⟩
/-- what may be asked about -/
structure Told (d : PyData) : Prop where
  mx : Mix d
  dp : d.depth ≤ 50
  bk : d.bulk ≤ 200000
def spTold (K : PySem.W.Frag) : Sp := fun vs H Q _ => ∃ (v : V) (d : PyData), vs = [v] ∧ Dq K H v d ∧ Told d ∧ ∀ H', Same H H' → Q (.bl true) H'
theorem Told.shown {d : PyData} (h : Told d) : d.shown.length ≤ sizeLine := PyData.shown_fits_bulk (B := 13) (by decide) (by decide) (asc_short d h.mx.asc) (Nat.le_trans h.bk (by decide))
theorem Told.r {d : PyData} (h : Told d) : d.showable = true ∧ (d.hasDict = false ∨ noL d = true) ∧ d.depth ≤ 100 ∧ d.shown.length ≤ sizeLine := ⟨asc_showable d h.mx.asc, h.mx.mix, Nat.le_trans h.dp (by decide), h.shown⟩
theorem repr_of {K : PySem.W.Frag} {H : Hp} {x : V} {d : PyData} {Q : VK} (hd : Dq K H x d) (h : Told d) (q : Q (.str d.shown) H) : rRepr K [x] H Q := ⟨x, d, rfl, hd, asc_showable d h.mx.asc, h.mx.mix, Nat.le_trans h.dp (by decide), h.shown, q⟩
theorem told_bools (bs : List Bool) (h : bs.length ≤ 100) : Told (.list (bs.map PyData.bool)) := by
  have h1 : ∀ cs : List Bool, ascs (cs.map PyData.bool) = true ∧ PyData.hasDictAll (cs.map PyData.bool) = false ∧ PyData.depthAll (cs.map PyData.bool) ≤ 0 ∧ PyData.bulkAll (cs.map PyData.bool) ≤ 10 * cs.length := by
    intro cs
    induction cs with
    | nil => simp [ascs, PyData.hasDictAll, PyData.depthAll, PyData.bulkAll]
    | cons b r ih =>
      obtain ⟨i1, i2, i3, i4⟩ := ih
      simp only [List.map_cons, ascs, asc, PyData.hasDictAll, PyData.hasDict, PyData.depthAll, PyData.depth, PyData.bulkAll, PyData.bulk, List.length_cons, i1, i2, Bool.and_self, Bool.or_self]
      refine ⟨trivial, trivial, by omega, by omega⟩
  obtain ⟨a1, a2, a3, a4⟩ := h1 bs
  refine ⟨⟨by simpa only [asc] using a1, .inl (by simpa only [PyData.hasDict] using a2)⟩, by simp only [PyData.depth]; omega, ?_⟩
  show PyData.bulkAll _ ≤ 200000
  omega
section
variable {P : Program} {w : World} {K : PySem.W.Frag} {mg : Str → Option Value} {base : Heap}
theorem ok_LAreTold {f : Addr} {fd : FuncData} {k : Nat} (F : Fun K "_law_are_told" "_law_are_told" sLAreTold f fd) (nrepr : mg "repr" = none)  (CLIsText : Cal P w K mg base k "_law_is_text" ["_law_it"] (spLookA K isTextD)) (CLIsRow : Cal P w K mg base k "_law_is_row" ["_law_it"] (spLookA K isRowD)) (CIsText : Cal P w K mg base k "is_text" ["thing"] (spLook K isTextD)) (CIsRow : Cal P w K mg base k "is_row" ["thing"] (spLook K isRowD)) (kT : KBinds K CIsText.fd ["thing"] ["thing"] EL.kw1 EL.kw1) (kR : KBinds K CIsRow.fd ["thing"] ["thing"] EL.kw1 EL.kw1) : FnG P w K mg base (k + 1) f fd ["_law_it"] (spTold K) := by
  refine FnG.body F scLAreTold (fun vs H Q E h => ?_) (fun cdv A outer s H vs Q E hg h => ?_)
  · obtain ⟨v, d, rfl, _⟩ := h; rfl
  · obtain ⟨v, d, rfl, hd, hT, q⟩ := h
    have hr := hg.r
    have hu := hr.units
    refine ⟨_, (pss_cons (ps_par (i := 1) (j := 2) (by rfl) scLAreTold.nd rfl rfl (by decide) rfl rfl (pa_cons (pe_lst (pa_cons (pe_cal CLIsText hr (by rfl) pass0 (pa_cons (pv 0) pa_nil)) (pa_cons (pe_cal CLIsRow hr (by rfl) pass0 (pa_cons (pv 0) pa_nil)) pa_nil))) (pa_cons (pe_callB (call_repr hg) (by rfl) nrepr (by decide +kernel) (pa_cons (pv 0) pa_nil)) pa_nil)) (by rfl))
      (pss_cons (ps_set (i := 3) scLAreTold.nd rfl (by first | exact Or.inl rfl | exact Or.inr rfl) (pe_lst (pa_cons (pe_cal CIsText hr (by rfl) pass0 (pa_cons (pv 0) pa_nil)) (pa_cons (pe_cal CIsRow hr (by rfl) pass0 (pa_cons (pv 0) pa_nil)) (pa_cons (pe_calK0 CIsText hr (by rfl) kT pass0 (pk_cons (pv 0) pk_nil)) (pa_cons (pe_calK0 CIsRow hr (by rfl) kR pass0 (pk_cons (pv 0) pk_nil)) pa_nil))))))
      (pss_one (ps_ret (pe_and (pe_cmpR op_eq (pe_callB (call_repr hg) (by rfl) nrepr (by decide +kernel) (pa_cons (pv 3) pa_nil)) (pe_callB (call_repr hg) (by rfl) nrepr (by decide +kernel) (pa_cons (pe_op op_rep (pv 1) pe_int) pa_nil)) (nomark _)) (pe_one (pe_cmpR op_eq (pe_callB (call_repr hg) (by rfl) nrepr (by decide +kernel) (pa_cons (pv 0) pa_nil)) (pv 2) (nomark _)))))))), ?_⟩
    have hz : Sz d := Nat.le_trans hT.bk (by decide)
    have hdp : d.depth ≤ 60 := Nat.le_trans hT.dp (by decide)
    refine ⟨v, rfl, v, d, rfl, hd, hz, hT.mx.asc, hdp, fun H1 s1 => ?_⟩
    have hd1 := hd.up s1
    refine ⟨v, rfl, v, d, rfl, hd1, hz, hT.mx.asc, hdp, fun H2 s2 => ⟨len_sz (by show 2 ≤ 1000000; decide), fun l nl => ?_⟩⟩
    have s3 : Same H2 (upd H2 l (.lst [.bl (isTextD d), .bl (isRowD d)])) := same_upd nl
    have g3 : upd H2 l (.lst [.bl (isTextD d), .bl (isRowD d)]) l = some (.lst [.bl (isTextD d), .bl (isRowD d)]) := upd_same
    generalize upd H2 l (.lst [.bl (isTextD d), .bl (isRowD d)]) = H3 at s3 g3 ⊢
    have hd3 := (hd1.up s2).up s3
    refine ⟨v, rfl, _, _, rfl, hd3, (hT).r.1, (hT).r.2.1, (hT).r.2.2.1, (hT).r.2.2.2, _, _, rfl, ?_⟩
    refine ⟨v, rfl, v, d, rfl, hd3, hz, fun H4 s4 => ?_⟩
    refine ⟨v, rfl, v, d, rfl, hd3.up s4, hz, fun H5 s5 => ?_⟩
    refine ⟨v, rfl, v, d, rfl, (hd3.up s4).up s5, hz, fun H6 s6 => ?_⟩
    refine ⟨v, rfl, v, d, rfl, ((hd3.up s4).up s5).up s6, hz, fun H7 s7 => ?_⟩
    refine ⟨len_sz (by show 4 ≤ 1000000; decide), fun r nr => ?_⟩
    have hd7 := (((hd3.up s4).up s5).up s6).up s7
    have g7 := s7 _ _ (s6 _ _ (s5 _ _ (s4 _ _ g3)))
    have s8 : Same H7 (upd H7 r (.lst [.bl (isTextD d), .bl (isRowD d), .bl (isTextD d), .bl (isRowD d)])) := same_upd nr
    have g8 : upd H7 r (.lst [.bl (isTextD d), .bl (isRowD d), .bl (isTextD d), .bl (isRowD d)]) r = some (.lst [.bl (isTextD d), .bl (isRowD d), .bl (isTextD d), .bl (isRowD d)]) := upd_same
    generalize upd H7 r (.lst [.bl (isTextD d), .bl (isRowD d), .bl (isTextD d), .bl (isRowD d)]) = H8 at s8 g8 ⊢
    have T4 : Told (.list [.bool (isTextD d), .bool (isRowD d), .bool (isTextD d), .bool (isRowD d)]) := told_bools [isTextD d, isRowD d, isTextD d, isRowD d] (by show 4 ≤ 100; decide)
    have dq4 : ∀ H : Hp, DqAll K H [.bl (isTextD d), .bl (isRowD d), .bl (isTextD d), .bl (isRowD d)] [.bool (isTextD d), .bool (isRowD d), .bool (isTextD d), .bool (isRowD d)] := fun _ => .cons (.bl _) <| .cons (.bl _) <| .cons (.bl _) <| .cons (.bl _) .nil
    refine ⟨.ref r, rfl, _, _, rfl, (.lst (sqOf g8) (dq4 _)), (T4).r.1, (T4).r.2.1, (T4).r.2.2.1, (T4).r.2.2.2, ?_⟩
    refine ⟨.ref l, rfl, l, 2, _, rfl, rfl, s8 _ _ g7, by decide, by decide, len_sz (by show 2 * 2 ≤ 1000000; decide), fun p np => ?_⟩
    refine ⟨_, _, rfl, (.lst (sqOf upd_same) (dq4 _)), (T4).r.1, (T4).r.2.1, (T4).r.2.2.1, (T4).r.2.2.2, rfl, _, rfl, ?_⟩
    rw [decide_eq_true rfl]
    have s9 : Same H7 (upd H8 p (.lst (List.replicate (2 : Int).toNat [V.bl (isTextD d), V.bl (isRowD d)]).flatten)) := s8.trans (same_upd np)
    refine iteT ⟨v, rfl, _, _, rfl, hd7.up s9, (hT).r.1, (hT).r.2.1, (hT).r.2.2.1, (hT).r.2.2.2, _, rfl, rfl, ?_⟩
    rw [decide_eq_true rfl]
    exact q _ (s1.trans (s2.trans (s3.trans (s4.trans (s5.trans (s6.trans (s7.trans s9)))))))
end
end KK
namespace KK
open PySem PySem.Spec PyProof.Rows L2 EL
/-! ### data of the law -/
structure Base (d : PyData) : Prop where
  pu : Pure d
  dp : d.depth ≤ 2
  bk : d.bulk ≤ 2000
theorem pure_pr {p : Nat × Nat} (h : p.1 < 128 ∧ p.2 < 128) : Pure (pr p) :=
  ⟨by simp [asc, ascs, h.1, h.2], by simp [PyData.hasDict, PyData.hasDictAll], by simp [noL, noLs]⟩
theorem bulk_prs : ∀ ps : List (Nat × Nat), PyData.bulkAll (ps.map pr) = 5 * ps.length
  | [] => rfl
  | p :: r => by
    have e : (pr p).bulk = 4 := by
      show PyData.bulkAll [_, _] = 4
      simp [PyData.bulkAll, PyData.bulk]
    simp only [List.map_cons, PyData.bulkAll, bulk_prs r, e, List.length_cons]; omega
theorem base_prs {ps : List (Nat × Nat)} (h : ∀ p ∈ ps, p.1 < 128 ∧ p.2 < 128) (n : ps.length ≤ 100) : Base (.tuple (ps.map pr)) := by
  refine ⟨pure_iff.mpr fun e m => ?_, ?_, ?_⟩
  · obtain ⟨p, hp, rfl⟩ := List.mem_map.mp m
    exact pure_pr (h p hp)
  · have := depth_pr ps
    simp only [PyData.depth]; omega
  · show PyData.bulkAll _ ≤ 2000
    rw [bulk_prs]; omega
theorem rowN_len (xs ys : List Nat) : (rowN xs ys).length = max xs.length ys.length := by
  unfold rowN; rw [List.length_zip, padL_len (Nat.le_max_left _ _), padL_len (Nat.le_max_right _ _)]; omega
theorem base_str {x : Str} (h : ∀ c ∈ x.cps.toList, c < 128) (n : x.length ≤ 1000) : Base (.str x) :=
  ⟨⟨asc_str.mpr h, by simp [PyData.hasDict], by simp [noL]⟩, by simp [PyData.depth], by show x.cps.size ≤ 2000; exact Nat.le_trans n (by decide)⟩
theorem Base.can {d : PyData} (h : Base d) : CanB 4 d := ⟨h.pu.asc, fun _ => h.pu, by have := h.dp; omega, by have := h.dp; omega, by have := h.bk; omega⟩
theorem Base.told {d : PyData} (h : Base d) : Told d := ⟨⟨h.pu.asc, .inl h.pu.nd⟩, by have := h.dp; omega, by have := h.bk; omega⟩
theorem Base.bent {d e : PyData} (h : Base d) (b : BentR d e) : Told e := ⟨b.mx, by have := b.dp; have := h.dp; omega, by have := b.bk; have := h.bk; omega⟩
theorem Base.bent2 {d e : PyData} (h : Base d) (b : BentR d e) (n : isTup d = false) : CanB 4 e := ⟨b.mx.asc, b.tp n, by have := b.dp; have := h.dp; omega, by have := b.dp; have := h.dp; omega, by have := b.bk; have := h.bk; omega⟩
theorem bent_told {d e : PyData} {n : Nat} (h : CanB n d) (k : d.depth ≤ 20) (b : BentR d e) : Told e := ⟨b.mx, by have := b.dp; omega, by have := b.bk; have := h.bk; omega⟩
/-- a list of two of these -/
theorem told_two {d e : PyData} (h1 : Base d) (h2 : Base e) : Told (.list [d, e]) := by
  refine ⟨⟨by simp [asc, ascs, h1.pu.asc, h2.pu.asc], .inl (by simp [PyData.hasDict, PyData.hasDictAll, h1.pu.nd, h2.pu.nd])⟩, ?_, ?_⟩
  · have := h1.dp; have := h2.dp
    simp only [PyData.depth, PyData.depthAll]; omega
  · have := h1.bk; have := h2.bk
    show PyData.bulkAll _ ≤ 200000
    simp only [PyData.bulkAll]; omega
theorem base_duo {x y : Str} (hx : Base (.str x)) (hy : Base (.str y)) (n1 : x.length ≤ 500) (n2 : y.length ≤ 500) : Base (.tuple [.str x, .str y]) := by
  refine ⟨pure_iff.mpr fun e m => ?_, by simp [PyData.depth, PyData.depthAll], ?_⟩
  · rcases List.mem_cons.mp m with rfl | m
    · exact hx.pu
    · rcases List.mem_cons.mp m with rfl | m
      · exact hy.pu
      · exact (List.not_mem_nil m).elim
  · show PyData.bulkAll _ ≤ 2000
    simp only [PyData.bulkAll]
    have e1 : (PyData.str x).bulk = x.length := rfl
    have e2 : (PyData.str y).bulk = y.length := rfl
    omega
/-- the texts of a row -/
theorem fst_zip : ∀ (xs ys : List Nat), xs.length = ys.length → (xs.zip ys).map (·.1) = xs
  | [], [], _ => rfl
  | [], _ :: _, h => by simp at h
  | _ :: _, [], h => by simp at h
  | x :: xs, y :: ys, h => by
    simp only [List.zip_cons_cons, List.map_cons]
    rw [fst_zip xs ys (by simpa using h)]
theorem snd_zip : ∀ (xs ys : List Nat), xs.length = ys.length → (xs.zip ys).map (·.2) = ys
  | [], [], _ => rfl
  | [], _ :: _, h => by simp at h
  | _ :: _, [], h => by simp at h
  | x :: xs, y :: ys, h => by
    simp only [List.zip_cons_cons, List.map_cons]
    rw [snd_zip xs ys (by simpa using h)]
theorem filter_pad {xs : List Nat} {n : Nat} (h : ∀ c ∈ xs, c ≠ 45) : (padL xs n).filter (fun c => decide (c ≠ 45)) = xs := by
  unfold padL
  rw [List.filter_append, List.filter_eq_self.mpr (fun c hc => decide_eq_true (h c hc)), List.filter_eq_nil_iff.mpr ?_, List.append_nil]
  intro c hc
  simp [List.eq_of_mem_replicate hc]
theorem pad_both (xs ys : List Nat) : (padL xs (max xs.length ys.length)).length = (padL ys (max xs.length ys.length)).length := by
  rw [padL_len (Nat.le_max_left _ _), padL_len (Nat.le_max_right _ _)]
theorem left_row {xs ys : List Nat} (h : ∀ c ∈ xs, c ≠ 45) : leftN (rowN xs ys) = xs := by
  unfold leftN rowN
  rw [fst_zip _ _ (pad_both _ _), filter_pad h]
theorem right_row {xs ys : List Nat} (h : ∀ c ∈ ys, c ≠ 45) : rightN (rowN xs ys) = ys := by
  unfold rightN rowN
  rw [snd_zip _ _ (pad_both _ _), filter_pad h]
theorem dq_hi {K : PySem.W.Frag} {a q z : Addr} {m : Nat} {H : Hp} (x : Dx a q z m H) : ∀ (d : PyData) (v : V), Dq K H v d → Pure d → Dq K (hi a q z H) v d := by
  have all : (∀ (d : PyData) (v : V), Dq K H v d → Pure d → Dq K (hi a q z H) v d) ∧ (∀ (ds : List PyData) (vs : List V), DqAll K H vs ds → (∀ d ∈ ds, Pure d) → DqAll K (hi a q z H) vs ds) := by
    have key : ∀ n : Nat, (∀ (d : PyData) (v : V), sizeOf d ≤ n → Dq K H v d → Pure d → Dq K (hi a q z H) v d) ∧ (∀ (ds : List PyData) (vs : List V), sizeOf ds ≤ n → DqAll K H vs ds → (∀ d ∈ ds, Pure d) → DqAll K (hi a q z H) vs ds) := by
      intro n
      induction n with
      | zero =>
        refine ⟨fun d v h _ _ => ?_, fun ds vs h _ _ => ?_⟩
        · cases d <;> simp at h
        · cases ds <;> simp at h
      | succ n ih =>
        refine ⟨fun d v h hd hp => ?_, fun ds vs h ha hp => ?_⟩
        · cases hd with
          | non => exact .non
          | bl b => exact .bl b
          | int i => exact .int i
          | str s => exact .str s
          | lst _ _ => exact absurd hp.nl (by simp [noL])
          | dic _ => exact absurd hp.nd (by simp [PyData.hasDict])
          | tup hs ha => exact .tup (sqt_hi x hs) (ih.2 _ _ (by simp at h; omega) ha (pure_iff.mp hp))
        · cases ha with
          | nil => exact .nil
          | cons h1 h2 =>
            have e : ∀ (d : PyData) (ds : List PyData), sizeOf (d :: ds) = 1 + sizeOf d + sizeOf ds := fun _ _ => rfl
            rw [e] at h
            exact .cons (ih.1 _ _ (by omega) h1 (hp _ List.mem_cons_self)) (ih.2 _ _ (by omega) h2 fun d m => hp d (List.mem_cons_of_mem _ m))
    exact ⟨fun d v => (key (sizeOf d)).1 d v (Nat.le_refl _), fun ds vs => (key (sizeOf ds)).2 ds vs (Nat.le_refl _)⟩
  exact all.1
theorem dqAll_hi {K : PySem.W.Frag} {a q z : Addr} {m : Nat} {H : Hp} (x : Dx a q z m H) : ∀ {ds : List PyData} {vs : List V}, DqAll K H vs ds → (∀ d ∈ ds, Pure d) → DqAll K (hi a q z H) vs ds
  | [], _, h, _ => by cases h; exact .nil
  | d :: ds, _, h, p => by
    cases h with
    | cons h1 h2 => exact .cons (dq_hi x d _ h1 (p d List.mem_cons_self)) (dqAll_hi x h2 fun d m => p d (List.mem_cons_of_mem _ m))
theorem hi_upd {a q z : Addr} {H : Hp} {o : HO} : hi a q z (upd H z o) = hi a q z H := by
  funext b
  unfold hi
  by_cases h : b = z
  · subst h; unfold hid; simp
  · rw [hid_ne h h, hid_ne h h]
    unfold hid
    by_cases h2 : b = a ∨ b = q
    · rw [if_pos h2, if_pos h2]
    · rw [if_neg h2, if_neg h2, upd_ne h]
/-- the alphabet -/
abbrev evy : Str := "abcdefghijklmnopqrstuvwxyz"
abbrev yve : Str := revS evy
theorem evy_lt : ∀ c ∈ evy.cps.toList, c < 128 := by decide
theorem yve_lt : ∀ c ∈ yve.cps.toList, c < 128 := by decide
theorem evy_len : evy.length = 26 := by decide
theorem yve_len : yve.length = 26 := by decide
theorem base_evy : Base (.tuple ((rowN evy.cps.toList yve.cps.toList).map pr)) := base_prs (row_lt evy_lt yve_lt) (by rw [rowN_len]; decide)
theorem evy_text : isTextD (.str evy) = true := by decide +kernel
theorem evy_row : isRowD (.tuple ((rowN evy.cps.toList ("" : Str).cps.toList).map pr)) = true := by decide +kernel
/-- the long rows -/
abbrev lg1 : PyData := .tuple (List.replicate 999 (pr (97, 45)))
abbrev lg2 : PyData := .tuple (List.replicate 998 (pr (97, 45)) ++ [pr (45, 97)])
abbrev lg3 : PyData := .tuple (List.replicate 999 (pr (45, 122)))
theorem lg1_row : isRowD lg1 = true := by decide +kernel
theorem lg2_row : isRowD lg2 = false := by decide +kernel
theorem lg3_row : isRowD lg3 = true := by decide +kernel
theorem lg1_sz : Sz lg1 := by unfold Sz; decide +kernel
theorem lg2_sz : Sz lg2 := by unfold Sz; decide +kernel
theorem lg3_sz : Sz lg3 := by unfold Sz; decide +kernel
theorem dq_rep {K : PySem.W.Frag} {H : Hp} {v : V} {d : PyData} (h : Dq K H v d) : ∀ n : Nat, DqAll K H (List.replicate n v) (List.replicate n d)
  | 0 => .nil
  | n + 1 => .cons h (dq_rep h n)
theorem rep_flat {α : Type} (n : Nat) (x : α) : (List.replicate n [x]).flatten = List.replicate n x := by
  induction n with
  | zero => rfl
  | succ n ih => rw [List.replicate_succ, List.flatten_cons, ih]; rfl
def oddH : List PyData := [.none, .int 0, .bool true, .tuple [], .list [], .dict [], .str "", .str "a-", .str "A", .str "a1", .tuple [.tuple [.str "a", .str "-"], .tuple [.str "b", .str "c"]], .tuple [.tuple [.str "-", .str "-"]], .tuple [.str "ab"]]
theorem oddH_told : ∀ e ∈ oddH, Told e := by
  have key : ∀ e ∈ oddH, asc e = true ∧ (e.hasDict = false ∨ noL e = true) ∧ e.depth ≤ 50 ∧ e.bulk ≤ 200000 := by
    intro e he
    simp only [oddH, List.mem_cons, List.not_mem_nil, or_false] at he
    rcases he with rfl | rfl | rfl | rfl | rfl | rfl | rfl | rfl | rfl | rfl | rfl | rfl | rfl <;>
      refine ⟨?_, ?_, ?_, ?_⟩ <;> first | decide +kernel | (simp [asc, ascs, PyData.hasDict, PyData.hasDictAll, noL, noLs, PyData.depth, PyData.depthAll, PyData.bulk, PyData.bulkAll, PyData.bulkKv]; done)
  intro e he
  obtain ⟨h1, h2, h3, h4⟩ := key e he
  exact ⟨⟨h1, h2⟩, h3, h4⟩
end KK
namespace KK
open PySem PySem.Spec PyProof.Rows L2 EL
open Evl (pss_cut)
abbrev sLaw : Stmt := topS 21
theorem scLaw : FnScope ["_law_script", "_law_deck_here", "_law_turn", "_law_x", "_law_y", "_law_due", "_law_some", "_law_k", "_law_every", "_law_long", "_law_odd_here", "_law_it"] ["_law_script"] (defScope sLaw) := ⟨rfl, rfl, rfl, by decide +kernel, rfl, by decide +kernel, by decide +kernel⟩
def spLaw (K : PySem.W.Frag) : Sp := fun vs H Q _ => ∃ (a : Addr) (ns : List Int), vs = [.ref a] ∧ SqL K H a (ns.map V.int) ∧ ns.length ≤ 63 ∧ ∀ H', Q (.bl true) H'
section
variable {P : Program} {w : World} {K : PySem.W.Frag} {mg : Str → Option Value} {base : Heap}
theorem ok_Law {f : Addr} {fd : FuncData} {k : Nat} (F : Fun K "law" "law" sLaw f fd) (nrange : mg "range" = none) (nrepr : mg "repr" = none)  (CLDeck : Cal P w K mg base k "_law_deck" ["_law_script"] (spDeck K)) (CLWord : Cal P w K mg base k "_law_word" ["_law_deck_here", "_law_top"] spWord) (CLPick : Cal P w K mg base k "_law_pick" ["_law_deck_here", "_law_some"] (spPick K)) (CLSigns : Cal P w K mg base k "_law_signs" ["_law_x", "_law_y"] (spRow K)) (CRowOf : Cal P w K mg base k "row_of" ["left", "right"] (spRow K)) (CPairOf : Cal P w K mg base k "pair_of" ["row"] (spPairOf K)) (CLBent : Cal P w K mg base k "_law_bent" ["_law_deck_here", "_law_it"] (spBent K 4)) (CLAreTold : CalG P w K mg base k "_law_are_told" ["_law_it"] (spTold K)) (CIsText : Cal P w K mg base k "is_text" ["thing"] (spLook K isTextD)) (CIsRow : Cal P w K mg base k "is_row" ["thing"] (spLook K isRowD)) (kW : KBinds K CRowOf.fd ["left", "right"] ["right", "left"] EL.kw2r EL.kw2r) (kP : KBinds K CPairOf.fd ["row"] ["row"] EL.kw1 EL.kw1) : FnG P w K mg base (k + 1) f fd ["_law_script"] (spLaw K) := by
  refine FnG.body F scLaw (fun vs H Q E h => ?_) (fun cdv A outer s H vs Q E hg h => ?_)
  · obtain ⟨a, ns, rfl, _⟩ := h; rfl
  · obtain ⟨a0, ns, rfl, hS, hlen, kQ⟩ := h
    have hr := hg.r
    have hu := hr.units
    refine ⟨_, (pss_cons (ps_set (i := 1) scLaw.nd rfl (by first | exact Or.inl rfl | exact Or.inr rfl) (pe_cal CLDeck hr (by rfl) pass0 (pa_cons (pv 0) pa_nil)))
      (pss_cons (ps_for PassesOwn.never rfl (pi_range1 rfl nrange (pa_cons pe_int pa_nil)) (pg_name (i := 2) scLaw.nd rfl (by first | exact Or.inl rfl | exact Or.inr rfl)) (pss_cons (ps_par (i := 3) (j := 4) (by rfl) scLaw.nd rfl rfl (by decide) rfl rfl (pa_cons (pe_cal CLWord hr (by rfl) pass0 (pa_cons (pv 1) (pa_cons (pe_cal CLPick hr (by rfl) pass0 (pa_cons (pv 1) (pa_cons (pe_lst (pa_cons pe_int (pa_cons pe_int pa_nil))) pa_nil))) pa_nil))) (pa_cons (pe_cal CLWord hr (by rfl) pass0 (pa_cons (pv 1) (pa_cons (pe_cal CLPick hr (by rfl) pass0 (pa_cons (pv 1) (pa_cons (pe_lst (pa_cons pe_int (pa_cons pe_int pa_nil))) pa_nil))) pa_nil))) pa_nil)) (by rfl))
      (pss_cons (ps_set (i := 5) scLaw.nd rfl (by first | exact Or.inl rfl | exact Or.inr rfl) (pe_cal CLSigns hr (by rfl) pass0 (pa_cons (pv 3) (pa_cons (pv 4) pa_nil))))
      (pss_cons (ps_if (pt_cmpR op_ne (pe_callB (call_repr hg) (by rfl) nrepr (by decide +kernel) (pa_cons (pe_lst (pa_cons (pe_cal CRowOf hr (by rfl) pass0 (pa_cons (pv 3) (pa_cons (pv 4) pa_nil))) (pa_cons (pe_calK0 CRowOf hr (by rfl) kW pass0 (pk_cons (pv 4) (pk_cons (pv 3) pk_nil))) pa_nil))) pa_nil)) (pe_callB (call_repr hg) (by rfl) nrepr (by decide +kernel) (pa_cons (pe_lst (pa_cons (pv 5) (pa_cons (pv 5) pa_nil))) pa_nil)) (nomark _)) (pss_one (ps_ret pe_bl)) pss_nil)
      (pss_cons (ps_if (pt_cmpR op_ne (pe_callB (call_repr hg) (by rfl) nrepr (by decide +kernel) (pa_cons (pe_lst (pa_cons (pe_cal CPairOf hr (by rfl) pass0 (pa_cons (pv 5) pa_nil)) (pa_cons (pe_calK0 CPairOf hr (by rfl) kP pass0 (pk_cons (pv 5) pk_nil)) pa_nil))) pa_nil)) (pe_callB (call_repr hg) (by rfl) nrepr (by decide +kernel) (pa_cons (pe_lst (pa_cons (pe_tup (pa_cons (pv 3) (pa_cons (pv 4) pa_nil))) (pa_cons (pe_tup (pa_cons (pv 3) (pa_cons (pv 4) pa_nil))) pa_nil))) pa_nil)) (nomark _)) (pss_one (ps_ret pe_bl)) pss_nil)
      (pss_cons (ps_set (i := 6) scLaw.nd rfl (by first | exact Or.inl rfl | exact Or.inr rfl) (pe_lst (pa_cons (pv 5) (pa_cons (pv 3) (pa_cons (pe_op op_add_str (pv 3) (pv 4)) (pa_cons (pe_op op_catA (pv 5) (pe_tup (pa_cons (pe_tup (pa_cons (pe_cal CLPick hr (by rfl) pass0 (pa_cons (pv 1) (pa_cons pe_str pa_nil))) (pa_cons (pe_cal CLPick hr (by rfl) pass0 (pa_cons (pv 1) (pa_cons pe_str pa_nil))) pa_nil))) pa_nil))) pa_nil))))))
      (pss_cons (ps_set (i := 6) scLaw.nd rfl (by first | exact Or.inl rfl | exact Or.inr rfl) (pe_op op_cat (pv 6) (pe_lst (pa_cons (pe_op op_catA (pe_tup (pa_cons (pe_tup (pa_cons pe_str (pa_cons (pe_cal CLPick hr (by rfl) pass0 (pa_cons (pv 1) (pa_cons pe_str pa_nil))) pa_nil))) pa_nil)) (pv 5)) pa_nil))))
      (pss_cons (ps_for PassesOwn.never rfl (pi_range1 rfl nrange (pa_cons pe_int pa_nil)) (pg_name (i := 7) scLaw.nd rfl (by first | exact Or.inl rfl | exact Or.inr rfl)) (pss_one (ps_expr (pe_bm PySem.F.plainAttrs_list PySem.F.slot_list_append PySem.F.type_list_append mt_append (pv 6) (pa_cons (pe_cal CLBent hr (by rfl) pass0 (pa_cons (pv 1) (pa_cons (pe_ix ix_list (pv 6) (pe_op op_mod (pv 7) pe_int) (fun _ _ => rfl)) pa_nil))) pa_nil)))))
      (pss_one (ps_if (pt_cmpR (op_neN hr.units0) (pe_lc (own := [("_law_it", 11)]) (g := (gName 11)) (by rfl) scLaw.nd (pi_list (pe_op op_cat (pv 6) (pe_lst (pa_cons (pe_cal CLBent hr (by rfl) pass0 (pa_cons (pv 1) (pa_cons (pe_ix ix_list (pv 6) (pe_un un_neg pe_int) (fun _ _ => rfl)) pa_nil))) pa_nil)))) (blkOk_by (own := [("_law_it", 11)]) (N := ["_law_script", "_law_deck_here", "_law_turn", "_law_x", "_law_y", "_law_due", "_law_some", "_law_k", "_law_every", "_law_long", "_law_odd_here", "_law_it"]) (sc := defScope sLaw) (by decide +kernel)) (fun _ _ _ _ _ => (pg_name (i := 11) scLaw.nd rfl (by first | exact Or.inl rfl | exact Or.inr rfl))) (fun _ _ _ _ _ => (pts_one (pt_not (pt_val (pe_calG CLAreTold hg (by rfl) pass0 (pa_cons (pv 11) pa_nil)))))) (fun _ _ _ _ _ => (pv 11))) (pe_lst pa_nil) (nomark _)) (pss_one (ps_ret pe_bl)) pss_nil))))))))))
      (pss_cons (ps_set (i := 8) scLaw.nd rfl (by first | exact Or.inl rfl | exact Or.inr rfl) pe_str)
      (pss_cons (ps_if (PW.pt (pw_or (pt_not (pt_val (pe_cal CIsText hr (by rfl) pass0 (pa_cons (pv 8) pa_nil)))) (pw_or1 (pt_cmpR op_ne (pe_callB (call_repr hg) (by rfl) nrepr (by decide +kernel) (pa_cons (pe_cal CRowOf hr (by rfl) pass0 (pa_cons (pv 8) (pa_cons (pe_revS (pv 8)) pa_nil))) pa_nil)) (pe_callB (call_repr hg) (by rfl) nrepr (by decide +kernel) (pa_cons (pe_cal CLSigns hr (by rfl) pass0 (pa_cons (pv 8) (pa_cons (pe_revS (pv 8)) pa_nil))) pa_nil)) (nomark _))))) (pss_one (ps_ret pe_bl)) pss_nil)
      (pss_cons (ps_set (i := 9) scLaw.nd rfl (by first | exact Or.inl rfl | exact Or.inr rfl) (pe_lst (pa_cons (pe_op op_repT (pe_tup (pa_cons (pe_tup (pa_cons pe_str (pa_cons pe_str pa_nil))) pa_nil)) pe_int) (pa_cons (pe_op op_catA (pe_op op_repT (pe_tup (pa_cons (pe_tup (pa_cons pe_str (pa_cons pe_str pa_nil))) pa_nil)) pe_int) (pe_tup (pa_cons (pe_tup (pa_cons pe_str (pa_cons pe_str pa_nil))) pa_nil))) (pa_cons (pe_op op_repT (pe_tup (pa_cons (pe_tup (pa_cons pe_str (pa_cons pe_str pa_nil))) pa_nil)) pe_int) pa_nil)))))
      (pss_cons (ps_if (PW.pt (pw_or (pt_cmpR op_ne (pe_callB (call_repr hg) (by rfl) nrepr (by decide +kernel) (pa_cons (pe_lc (own := [("_law_it", 11)]) (g := (gName 11)) (by rfl) scLaw.nd (pi_list (pv 9)) (blkOk_by (own := [("_law_it", 11)]) (N := ["_law_script", "_law_deck_here", "_law_turn", "_law_x", "_law_y", "_law_due", "_law_some", "_law_k", "_law_every", "_law_long", "_law_odd_here", "_law_it"]) (sc := defScope sLaw) (by decide +kernel)) (fun _ _ _ _ _ => (pg_name (i := 11) scLaw.nd rfl (by first | exact Or.inl rfl | exact Or.inr rfl))) (fun _ _ _ _ _ => pts_nil) (fun _ _ _ _ _ => (pe_cal CIsRow hr (by rfl) pass0 (pa_cons (pv 11) pa_nil)))) pa_nil)) (pe_callB (call_repr hg) (by rfl) nrepr (by decide +kernel) (pa_cons (pe_lst (pa_cons pe_bl (pa_cons pe_bl (pa_cons pe_bl pa_nil)))) pa_nil)) (nomark _)) (pw_or1 (pt_not (pt_val (pe_cal CIsRow hr (by rfl) pass0 (pa_cons (pe_cal CLSigns hr (by rfl) pass0 (pa_cons (pv 8) (pa_cons pe_str pa_nil))) pa_nil))))))) (pss_one (ps_ret pe_bl)) pss_nil)
      (pss_cons (ps_set (i := 10) scLaw.nd rfl (by first | exact Or.inl rfl | exact Or.inr rfl) (pe_lst (pa_cons pe_non (pa_cons pe_int (pa_cons pe_bl (pa_cons (pe_tup pa_nil) (pa_cons (pe_lst pa_nil) (pa_cons pe_dnewK (pa_cons pe_str (pa_cons pe_str (pa_cons pe_str (pa_cons pe_str (pa_cons (pe_tup (pa_cons (pe_tup (pa_cons pe_str (pa_cons pe_str pa_nil))) (pa_cons (pe_tup (pa_cons pe_str (pa_cons pe_str pa_nil))) pa_nil))) (pa_cons (pe_tup (pa_cons (pe_tup (pa_cons pe_str (pa_cons pe_str pa_nil))) pa_nil)) (pa_cons (pe_tup (pa_cons pe_str pa_nil)) pa_nil)))))))))))))))
      (pss_one (ps_ret (pe_cmpR (op_eqN hr.units0) (pe_lc (own := [("_law_it", 11)]) (g := (gName 11)) (by rfl) scLaw.nd (pi_list (pv 10)) (blkOk_by (own := [("_law_it", 11)]) (N := ["_law_script", "_law_deck_here", "_law_turn", "_law_x", "_law_y", "_law_due", "_law_some", "_law_k", "_law_every", "_law_long", "_law_odd_here", "_law_it"]) (sc := defScope sLaw) (by decide +kernel)) (fun _ _ _ _ _ => (pg_name (i := 11) scLaw.nd rfl (by first | exact Or.inl rfl | exact Or.inr rfl))) (fun _ _ _ _ _ => (pts_one (pt_not (pt_val (pe_calG CLAreTold hg (by rfl) pass0 (pa_cons (pv 11) pa_nil)))))) (fun _ _ _ _ _ => (pv 11))) (pe_lst pa_nil) (nomark _))))))))))), ?_⟩
    refine ⟨.ref a0, rfl, a0, ns, rfl, hS, hlen, fun a q H1 s1 D1 _ _ => ?_⟩
    refine ⟨12, rfl, by decide, by decide, ?_⟩
    have two : 2 ≤ sizeLine := by decide
    have one : 1 ≤ sizeLine := by decide
    refine for_it (walk_range (n := 12)) (fun i σ H' => ∃ y2 y3 y4 y5 y6 y7, σ = [some (.ref a0), some (.ref a), y2, y3, y4, y5, y6, y7, none, none, none, none] ∧ Dw a q (1000 * i) H') ⟨none, none, none, none, none, none, rfl, D1⟩ (fun _ _ _ _ _ => trivial) ?_ ?_
    · rintro i y σ H2 H3 hil ⟨y2, y3, y4, y5, y6, y7, rfl, D2⟩ ⟨rfl, rfl⟩
      have dice : ∀ (j : Nat) (v : V), ([.int 3, .int 12] : List V)[j]? = some v → ∃ t : Nat, v = .int (t : Int) ∧ t ≤ 12 := fun j v e => by
        match j, e with
        | 0, e => exact ⟨3, (Option.some.inj e).symm, by decide⟩
        | 1, e => exact ⟨12, (Option.some.inj e).symm, by decide⟩
      generalize hM : 1000 * i = M at D2
      have hM2 : M ≤ 12000 := by omega
      -- the words
      refine ⟨.ref a, rfl, .ref a, rfl, two, fun p1 np1 => ?_⟩
      have na1 := D2.na np1
      refine ⟨a, q, M, .ref p1, rfl, D2.same (same_upd np1), by omega, .inl ⟨p1, _, rfl, sqOf (hid_of D2 np1 upd_same), List.cons_ne_nil _ _, by show 2 ≤ 1000000; decide, fun j v H4 hj o4 D4 => ?_⟩⟩
      obtain ⟨t1, rfl, ht1⟩ := dice j v hj
      refine ⟨a, q, M + 1, t1, rfl, D4, by omega, by omega, fun xs H5 hxl hxc o5 D5 => ?_⟩
      refine ⟨.ref a, rfl, .ref a, rfl, two, fun p2 np2 => ?_⟩
      refine ⟨a, q, M + 1 + t1 + 1, .ref p2, rfl, D5.same (same_upd np2), by omega, .inl ⟨p2, _, rfl, sqOf (hid_of D5 np2 upd_same), List.cons_ne_nil _ _, by show 2 ≤ 1000000; decide, fun j v H6 hj o6 D6 => ?_⟩⟩
      obtain ⟨t2, rfl, ht2⟩ := dice j v hj
      refine ⟨a, q, M + 1 + t1 + 1 + 1, t2, rfl, D6, by omega, by omega, fun ys H7 hyl hyc o7 D7 => ⟨_, _, rfl, ?_⟩⟩
      have hxc1 : ∀ c ∈ xs, c < 128 := fun c m => by have := hxc c m; omega
      have hyc1 : ∀ c ∈ ys, c < 128 := fun c m => by have := hyc c m; omega
      have hxc2 : ∀ c ∈ xs, c ≠ 45 := fun c m => by have := hxc c m; omega
      have hyc2 : ∀ c ∈ ys, c ≠ 45 := fun c m => by have := hyc c m; omega
      have lx : (⟨xs.toArray⟩ : Str).length = xs.length := by rw [str_len]
      have ly : (⟨ys.toArray⟩ : Str).length = ys.length := by rw [str_len]
      -- due
      refine ⟨_, rfl, _, rfl, ⟨xs.toArray⟩, ⟨ys.toArray⟩, rfl, by omega, by omega, fun p H8 s8 h8 => ?_⟩
      generalize hps : rowN xs ys = ps at h8
      have hlt : ∀ p ∈ ps, p.1 < 128 ∧ p.2 < 128 := by rw [← hps]; exact row_lt hxc1 hyc1
      have hpl : ps.length ≤ 12 := by rw [← hps, rowN_len]; omega
      have bD : Base (.tuple (ps.map pr)) := base_prs hlt (by omega)
      have tD := (told_two bD bD).r
      -- row_of
      refine ⟨_, rfl, _, rfl, ⟨xs.toArray⟩, ⟨ys.toArray⟩, rfl, by omega, by omega, fun p3 H9 s9 h9 => ?_⟩
      refine ⟨_, rfl, _, rfl, ⟨xs.toArray⟩, ⟨ys.toArray⟩, rfl, by omega, by omega, fun p4 H10 s10 h10 => ?_⟩
      rw [show rowN (⟨xs.toArray⟩ : Str).cps.toList (⟨ys.toArray⟩ : Str).cps.toList = ps from hps] at h9 h10
      refine ⟨two, fun l1 nl1 => ⟨_, _, rfl, .lst (sqOf upd_same) (.cons ((h9.up s10).up (same_upd nl1)) (.cons (h10.up (same_upd nl1)) .nil)), tD.1, tD.2.1, tD.2.2.1, tD.2.2.2, ?_⟩⟩
      have s11 := s9.trans (s10.trans (same_upd (o := .lst [.ref p3, .ref p4]) nl1))
      generalize upd H10 l1 (.lst [.ref p3, .ref p4]) = H11 at s11 ⊢
      refine ⟨.ref p, rfl, .ref p, rfl, two, fun l2 nl2 => ⟨_, _, rfl, .lst (sqOf upd_same) (.cons ((h8.up s11).up (same_upd nl2)) (.cons ((h8.up s11).up (same_upd nl2)) .nil)), tD.1, tD.2.1, tD.2.2.1, tD.2.2.2, rfl, ?_⟩⟩
      have s12 := s11.trans (same_upd (o := .lst [.ref p, .ref p]) nl2)
      generalize upd H11 l2 (.lst [.ref p, .ref p]) = H12 at s12 ⊢
      rw [decide_eq_true rfl]
      refine ⟨_, rfl, iteF ?_⟩
      -- pair_of
      have eL : leftN ps = xs := by rw [← hps]; exact left_row hxc2
      have eR : rightN ps = ys := by rw [← hps]; exact right_row hyc2
      refine ⟨.ref p, rfl, .ref p, ps, rfl, h8.up s12, by omega, fun p5 H13 s13 np5 h13 => ?_⟩
      refine ⟨.ref p, rfl, .ref p, ps, rfl, (h8.up s12).up s13, by omega, fun p6 H14 s14 np6 h14 => ?_⟩
      rw [eL, eR] at h13 h14
      have bX : Base (.str ⟨xs.toArray⟩) := base_str (by simpa using hxc1) (by omega)
      have bY : Base (.str ⟨ys.toArray⟩) := base_str (by simpa using hyc1) (by omega)
      have bP := base_duo bX bY (by omega) (by omega)
      have tP := (told_two bP bP).r
      have duo : ∀ {r : Addr} {G : Hp}, G r = some (.tup [.str ⟨xs.toArray⟩, .str ⟨ys.toArray⟩]) → Dq K G (.ref r) (.tuple [.str ⟨xs.toArray⟩, .str ⟨ys.toArray⟩]) := fun e => .tup (stOf e) (.cons (.str _) (.cons (.str _) .nil))
      refine ⟨two, fun l3 nl3 => ⟨_, _, rfl, .lst (sqOf upd_same) (.cons (((duo h13).up s14).up (same_upd nl3)) (.cons ((duo h14).up (same_upd nl3)) .nil)), tP.1, tP.2.1, tP.2.2.1, tP.2.2.2, ?_⟩⟩
      have s15 := s13.trans (s14.trans (same_upd (o := .lst [.ref p5, .ref p6]) nl3))
      generalize upd H14 l3 (.lst [.ref p5, .ref p6]) = H15 at s15 ⊢
      refine ⟨_, rfl, _, rfl, two, fun p7 np7 => ?_⟩
      have s16 : Same H15 (upd H15 p7 (.tup [.str ⟨xs.toArray⟩, .str ⟨ys.toArray⟩])) := same_upd np7
      have g16 : upd H15 p7 (.tup [.str ⟨xs.toArray⟩, .str ⟨ys.toArray⟩]) p7 = some (.tup [.str ⟨xs.toArray⟩, .str ⟨ys.toArray⟩]) := upd_same
      generalize upd H15 p7 (.tup [.str ⟨xs.toArray⟩, .str ⟨ys.toArray⟩]) = H16 at s16 g16 ⊢
      refine ⟨_, rfl, _, rfl, two, fun p8 np8 => ?_⟩
      have s17 : Same H16 (upd H16 p8 (.tup [.str ⟨xs.toArray⟩, .str ⟨ys.toArray⟩])) := same_upd np8
      have g17 : upd H16 p8 (.tup [.str ⟨xs.toArray⟩, .str ⟨ys.toArray⟩]) p8 = some (.tup [.str ⟨xs.toArray⟩, .str ⟨ys.toArray⟩]) := upd_same
      generalize upd H16 p8 (.tup [.str ⟨xs.toArray⟩, .str ⟨ys.toArray⟩]) = H17 at s17 g17 ⊢
      refine ⟨two, fun l4 nl4 => ⟨_, _, rfl, .lst (sqOf upd_same) (.cons (((duo g16).up s17).up (same_upd nl4)) (.cons ((duo g17).up (same_upd nl4)) .nil)), tP.1, tP.2.1, tP.2.2.1, tP.2.2.2, rfl, ?_⟩⟩
      have s18 := s15.trans (s16.trans (s17.trans (same_upd (o := .lst [.ref p7, .ref p8]) nl4)))
      generalize upd H17 l4 (.lst [.ref p7, .ref p8]) = H18 at s18 ⊢
      rw [decide_eq_true rfl]
      refine ⟨_, rfl, iteF ?_⟩
      have S18 := s12.trans s18
      have h18 := h8.up S18
      have D18 := (D7.same s8).same S18
      -- some
      have signs : ∀ (j c : Nat), ("ab-" : Str).cps.toList[j]? = some c → c < 128 := fun j c e => by
        have key : ∀ x ∈ ("ab-" : Str).cps.toList, x < 128 := by decide
        exact key c (List.mem_of_getElem? e)
      refine ⟨.ref p, rfl, _, rfl, _, rfl, _, rfl, _, _, rfl, rfl, len_sz (by omega), .ref p, rfl, ?_⟩
      refine ⟨.ref a, rfl, a, q, _, _, rfl, D18, by omega, .inr ⟨_, rfl, by decide, by decide, fun j c1 H19 hc1 o19 D19 => ?_⟩⟩
      refine ⟨.ref a, rfl, a, q, _, _, rfl, D19, by omega, .inr ⟨_, rfl, by decide, by decide, fun j c2 H20 hc2 o20 D20 => ⟨two, fun p9 np9 => ?_⟩⟩⟩
      have X18 : Dx a q a _ H18 := ⟨D18, .inl rfl⟩
      have h20 : Dq K H20 (.ref p) (.tuple (ps.map pr)) := ((dq_hi X18 _ _ h18 bD.pu).up (off_hi (o19.trans o20))).up hi_sub
      have s21 : Same H20 (upd H20 p9 (.tup [.str ⟨#[c1]⟩, .str ⟨#[c2]⟩])) := same_upd np9
      have g21 : upd H20 p9 (.tup [.str ⟨#[c1]⟩, .str ⟨#[c2]⟩]) p9 = some (.tup [.str ⟨#[c1]⟩, .str ⟨#[c2]⟩]) := upd_same
      generalize upd H20 p9 (.tup [.str ⟨#[c1]⟩, .str ⟨#[c2]⟩]) = H21 at s21 g21 ⊢
      refine ⟨one, fun p10 np10 => ?_⟩
      have s22 : Same H21 (upd H21 p10 (.tup [.ref p9])) := same_upd np10
      have g22 : upd H21 p10 (.tup [.ref p9]) p10 = some (.tup [.ref p9]) := upd_same
      generalize upd H21 p10 (.tup [.ref p9]) = H22 at s22 g22 ⊢
      have s20' := s21.trans s22
      obtain ⟨zs, hzs, haz⟩ : ∃ zs, SqT K H22 p zs ∧ DqAll K H22 zs (ps.map pr) := by
        have := h20.up s20'
        cases this with
        | tup hs ha => exact ⟨_, hs, ha⟩
      have hzl : zs.length = ps.length := by rw [haz.len, List.length_map]
      refine cat_of hzs (stOf g22) (by simp only [List.length_singleton]; omega) fun p11 H23 s23 g23 => ?_
      have dE : Dq K H23 (.ref p11) (.tuple ((ps ++ [(c1, c2)]).map pr)) := by
        rw [List.map_append]
        exact .tup g23 ((EL.DqAll.app haz (.cons (.tup (stOf (s22 _ _ g21)) (.cons (.str _) (.cons (.str _) .nil))) .nil)).up s23)
      have hltE : ∀ p ∈ ps ++ [(c1, c2)], p.1 < 128 ∧ p.2 < 128 := fun x m => by
        rcases List.mem_append.mp m with m | m
        · exact hlt x m
        · have : x = (c1, c2) := by simpa using m
          subst this
          exact ⟨signs _ _ hc1, signs _ _ hc2⟩
      have bE : Base (.tuple ((ps ++ [(c1, c2)]).map pr)) := base_prs hltE (by rw [List.length_append, List.length_singleton]; omega)
      refine ⟨len_sz (by show 4 ≤ 1000000; decide), fun l nl => ?_⟩
      have s24 : Same H23 (upd H23 l (.lst [.ref p, .str ⟨xs.toArray⟩, .str (⟨xs.toArray⟩ ++ ⟨ys.toArray⟩), .ref p11])) := same_upd nl
      have g24 : upd H23 l (.lst [.ref p, .str ⟨xs.toArray⟩, .str (⟨xs.toArray⟩ ++ ⟨ys.toArray⟩), .ref p11]) l = some (.lst [.ref p, .str ⟨xs.toArray⟩, .str (⟨xs.toArray⟩ ++ ⟨ys.toArray⟩), .ref p11]) := upd_same
      have D23 := D20.same (s20'.trans s23)
      have nal := D23.na nl
      generalize upd H23 l (.lst [.ref p, .str ⟨xs.toArray⟩, .str (⟨xs.toArray⟩ ++ ⟨ys.toArray⟩), .ref p11]) = H24 at s24 g24 ⊢
      have S24 := s20'.trans (s23.trans s24)
      have D24 := D20.same S24
      have X24 : Dx a q a _ H24 := ⟨D24, .inl rfl⟩
      refine ⟨.ref l, rfl, .ref a, rfl, a, q, _, _, rfl, D24, by omega, .inr ⟨_, rfl, by decide, by decide, fun j c3 H25 hc3 o25 D25 => ⟨two, fun p12 np12 => ?_⟩⟩⟩
      have h25 : Dq K H25 (.ref p) (.tuple (ps.map pr)) := ((dq_hi X24 _ _ (h20.up S24) bD.pu).up (off_hi o25)).up hi_sub
      have dE25 : Dq K H25 (.ref p11) (.tuple ((ps ++ [(c1, c2)]).map pr)) := ((dq_hi X24 _ _ (dE.up s24) bE.pu).up (off_hi o25)).up hi_sub
      have g25 := o25 _ _ nal.1 nal.2 g24
      have s26 : Same H25 (upd H25 p12 (.tup [.str "-", .str ⟨#[c3]⟩])) := same_upd np12
      have g26 : upd H25 p12 (.tup [.str "-", .str ⟨#[c3]⟩]) p12 = some (.tup [.str "-", .str ⟨#[c3]⟩]) := upd_same
      generalize upd H25 p12 (.tup [.str "-", .str ⟨#[c3]⟩]) = H26 at s26 g26 ⊢
      refine ⟨one, fun p13 np13 => ?_⟩
      have s27 : Same H26 (upd H26 p13 (.tup [.ref p12])) := same_upd np13
      have g27 : upd H26 p13 (.tup [.ref p12]) p13 = some (.tup [.ref p12]) := upd_same
      generalize upd H26 p13 (.tup [.ref p12]) = H27 at s27 g27 ⊢
      have S27 := s26.trans s27
      obtain ⟨zs2, hzs2, haz2⟩ : ∃ zs, SqT K H27 p zs ∧ DqAll K H27 zs (ps.map pr) := by
        have := h25.up S27
        cases this with
        | tup hs ha => exact ⟨_, hs, ha⟩
      have hzl2 : zs2.length = ps.length := by rw [haz2.len, List.length_map]
      refine ⟨.ref p, rfl, cat_of (stOf g27) hzs2 (by simp only [List.length_singleton]; omega) fun p14 H28 s28 g28 => ?_⟩
      have dF : Dq K H28 (.ref p14) (.tuple (((45, c3) :: ps).map pr)) :=
        .tup g28 ((EL.DqAll.app (.cons (.tup (stOf (s27 _ _ g26)) (.cons (.str _) (.cons (.str _) .nil))) .nil) haz2).up s28)
      have hltF : ∀ p ∈ (45, c3) :: ps, p.1 < 128 ∧ p.2 < 128 := fun x m => by
        rcases List.mem_cons.mp m with rfl | m
        · exact ⟨by show (45 : Nat) < 128; decide, signs _ _ hc3⟩
        · exact hlt x m
      have bF : Base (.tuple (((45, c3) :: ps).map pr)) := base_prs hltF (by rw [List.length_cons]; omega)
      have S28 := S27.trans s28
      refine ⟨one, fun l5 nl5 => ?_⟩
      have s29 : Same H28 (upd H28 l5 (.lst [.ref p14])) := same_upd nl5
      have g29 : upd H28 l5 (.lst [.ref p14]) l5 = some (.lst [.ref p14]) := upd_same
      generalize upd H28 l5 (.lst [.ref p14]) = H29 at s29 g29 ⊢
      refine ⟨l, l5, _, _, rfl, rfl, s29 _ _ (S28 _ _ g25), g29, len_sz (by show 4 + 1 ≤ 1000000; decide), fun l6 nl6 => ?_⟩
      have S29 := S28.trans s29
      have D29 := D25.same S29
      have na6 := D29.na nl6
      have dA : DqAll K H29 [.ref p, .str ⟨xs.toArray⟩, .str (⟨xs.toArray⟩ ++ ⟨ys.toArray⟩), .ref p11, .ref p14] [.tuple (ps.map pr), .str ⟨xs.toArray⟩, .str (⟨xs.toArray⟩ ++ ⟨ys.toArray⟩), .tuple ((ps ++ [(c1, c2)]).map pr), .tuple (((45, c3) :: ps).map pr)] :=
        .cons (h25.up S29) <| .cons (.str _) <| .cons (.str _) <| .cons (dE25.up S29) <| .cons (dF.up s29) .nil
      have bXY : Base (.str (⟨xs.toArray⟩ ++ ⟨ys.toArray⟩)) := base_str (fun c m => by
        rw [app_list] at m
        rcases List.mem_append.mp m with m | m
        · exact hxc1 c m
        · exact hyc1 c m) (by
        show ((⟨xs.toArray⟩ : Str) ++ ⟨ys.toArray⟩).cps.size ≤ 1000
        rw [app_size]
        show xs.toArray.size + ys.toArray.size ≤ 1000
        rw [List.size_toArray, List.size_toArray]; omega)
      generalize hB : [.tuple (ps.map pr), .str ⟨xs.toArray⟩, .str (⟨xs.toArray⟩ ++ ⟨ys.toArray⟩), .tuple ((ps ++ [(c1, c2)]).map pr), PyData.tuple (((45, c3) :: ps).map pr)] = B5 at dA
      have hB5 : B5.length = 5 := by rw [← hB]; rfl
      have hBb : ∀ d ∈ B5, Base d := fun d m => by
        rw [← hB] at m
        simp only [List.mem_cons, List.not_mem_nil, or_false] at m
        rcases m with rfl | rfl | rfl | rfl | rfl
        · exact bD
        · exact bX
        · exact bXY
        · exact bE
        · exact bF
      have hB2 : ∃ z, B5[2]? = some (.str z) := ⟨_, by rw [← hB]; rfl⟩
      clear hB
      have g30 : upd H29 l6 (.lst ([.ref p, .str ⟨xs.toArray⟩, .str (⟨xs.toArray⟩ ++ ⟨ys.toArray⟩), .ref p11] ++ [.ref p14])) l6 = some (.lst [.ref p, .str ⟨xs.toArray⟩, .str (⟨xs.toArray⟩ ++ ⟨ys.toArray⟩), .ref p11, .ref p14]) := upd_same
      have s30 : Same H29 (upd H29 l6 (.lst ([.ref p, .str ⟨xs.toArray⟩, .str (⟨xs.toArray⟩ ++ ⟨ys.toArray⟩), .ref p11] ++ [.ref p14]))) := same_upd nl6
      generalize upd H29 l6 (.lst ([.ref p, .str ⟨xs.toArray⟩, .str (⟨xs.toArray⟩ ++ ⟨ys.toArray⟩), .ref p11] ++ [.ref p14])) = H30 at s30 g30 ⊢
      have D30 : Dw a q (M + 50) H30 := (D29.same s30).mono (by omega)
      have X30 : Dx a q l6 (M + 50) H30 := ⟨D30, .inr ⟨na6.1, na6.2, _, g30⟩⟩
      have dA30 := dA.up s30
      generalize ([.ref p, .str ⟨xs.toArray⟩, .str (⟨xs.toArray⟩ ++ ⟨ys.toArray⟩), .ref p11, .ref p14] : List V) = V5 at dA30 g30
      have hV5 : V5.length = 5 := by rw [dA30.len, hB5]
      -- the loop
      refine ⟨8, rfl, by decide, by decide, ?_⟩
      refine for_it (walk_range (n := 8)) (fun i' σ H' => ∃ y7 us es, σ = [some (.ref a0), some (.ref a), some (.int (0 + (i : Nat))), some (.str ⟨xs.toArray⟩), some (.str ⟨ys.toArray⟩), some (.ref p), some (.ref l6), y7, none, none, none, none] ∧ Dw a q (M + 50 + 16 * i') H' ∧ H' l6 = some (.lst (V5 ++ us)) ∧ DqAll K (hi a q l6 H') (V5 ++ us) (B5 ++ es) ∧ es.length = i' ∧ ∀ (j : Nat) (e : PyData), es[j]? = some e → ∃ d, B5[j % 5]? = some d ∧ BentR d e)
        ⟨_, [], [], rfl, D30, by rw [List.append_nil]; exact g30, by rw [List.append_nil, List.append_nil]; exact dqAll_hi X30 dA30 fun d m => (hBb d m).pu, rfl, fun j e h => by simp at h⟩ (fun _ _ _ _ _ => trivial) ?_ ?_
      · rintro j y σ H4 H5 hj ⟨y7, us, es, rfl, D4, g4, A4, hes, hbe⟩ ⟨rfl, rfl⟩
        have hj5 : j % 5 < 5 := Nat.mod_lt _ (by decide)
        have e5 : ((0 : Int) + (j : Nat)) % 5 = ((j % 5 : Nat) : Int) := by omega
        have hv : (V5 ++ us)[j % 5]? = some (V5[j % 5]'(by omega)) := by rw [List.getElem?_append_left (by omega)]; exact List.getElem?_eq_getElem _
        obtain ⟨d, hd1, hd2⟩ := A4.at hv
        rw [List.getElem?_append_left (by omega)] at hd1
        have hul : us.length = j := by
          have := A4.len
          rw [List.length_append, List.length_append] at this
          omega
        refine ⟨.ref l6, rfl, .inl ⟨rfl, _, sqOf g4⟩, .ref a, rfl, .ref l6, rfl, _, rfl, _, _, rfl, rfl, (by show (0 : Int) < 5; decide), l6, _, _, _, rfl, rfl, sqOf g4, (by rw [e5]; exact atI_nat hv), a, q, l6, _, _, d, rfl, ⟨D4, .inr ⟨na6.1, na6.2, _, g4⟩⟩, by omega, hd2, (hBb d (List.mem_of_getElem? hd1)).can, fun x e H6 hx he o6 D6 => ?_⟩
        refine ⟨l6, _, _, rfl, rfl, o6 _ _ na6.1 na6.2 g4, lt_sz (by rw [List.length_append]; omega), ?_⟩
        refine ⟨_, us ++ [x], es ++ [e], rfl, ((D6.upd na6.1 na6.2).mono (by omega)), by rw [upd_same, List.append_assoc], ?_, by rw [List.length_append, hes]; rfl, fun j' e' he' => ?_⟩
        · rw [hi_upd, ← List.append_assoc, ← List.append_assoc]
          exact EL.DqAll.app (A4.up (off_hi o6)) (.cons hx .nil)
        · by_cases hj' : j' < es.length
          · rw [List.getElem?_append_left hj'] at he'
            exact hbe j' e' he'
          · rw [List.getElem?_append_right (by omega)] at he'
            have : j' - es.length = 0 := by
              cases z : j' - es.length with
              | zero => rfl
              | succ m => rw [z] at he'; simp at he'
            rw [this] at he'
            obtain rfl : e = e' := by simpa using he'
            obtain rfl : j' = j := by omega
            exact ⟨d, hd1, he⟩
      · rintro σ H4 ⟨y7, us, es, rfl, D4, g4, A4, hes, hbe⟩
        have hul : us.length = 8 := by
          have := A4.len
          rw [List.length_append, List.length_append] at this
          omega
        have X4 : Dx a q l6 (M + 50 + 16 * 8) H4 := ⟨D4, .inr ⟨na6.1, na6.2, _, g4⟩⟩
        have hne : V5 ++ us ≠ [] := fun z => by
          have : V5.length + us.length = 0 := by rw [← List.length_append, z]; rfl
          omega
        have hlast : (V5 ++ us)[12]? = some ((V5 ++ us).getLast hne) := by
          rw [← List.getLast?_eq_some_getLast hne, List.getLast?_eq_getElem?, List.length_append, hV5, hul]
        obtain ⟨d, hd1, hd2⟩ := A4.at hlast
        rw [List.getElem?_append_right (by omega), hB5] at hd1
        obtain ⟨d2, hd3, hd4⟩ := hbe 7 d hd1
        obtain ⟨z2, hz2⟩ := hB2
        obtain rfl : d2 = .str z2 := Option.some.inj (hd3.symm.trans hz2)
        have bz := hBb _ (List.mem_of_getElem? hd3)
        have cd : CanB 4 d := bz.bent2 hd4 rfl
        have atl : atI (V5 ++ us) (-1) = some ((V5 ++ us).getLast hne) := by
          conv => lhs; rw [← List.dropLast_concat_getLast hne]
          exact atI_last _ _
        refine ⟨.ref l6, rfl, .ref a, rfl, .ref l6, rfl, 1, rfl, l6, _, _, _, rfl, rfl, sqOf g4, atl, a, q, l6, _, _, d, rfl, X4, by omega, hd2, cd, fun x e H5 hx he o5 D5 => ?_⟩
        have te : Told e := bent_told cd (by have := hd4.dp; have : (PyData.str z2).depth = 0 := rfl; omega) he
        have g5 := o5 _ _ na6.1 na6.2 g4
        refine ⟨one, fun l7 nl7 => ?_⟩
        have s6 : Same H5 (upd H5 l7 (.lst [x])) := same_upd nl7
        have g6 : upd H5 l7 (.lst [x]) l7 = some (.lst [x]) := upd_same
        generalize upd H5 l7 (.lst [x]) = H6 at s6 g6 ⊢
        refine ⟨l6, l7, _, _, rfl, rfl, s6 _ _ g5, g6, len_sz (by simp only [List.length_append, List.length_singleton]; omega), fun l8 nl8 => ?_⟩
        have s7 : Same H6 (upd H6 l8 (.lst (V5 ++ us ++ [x]))) := same_upd nl8
        have g7 : upd H6 l8 (.lst (V5 ++ us ++ [x])) l8 = some (.lst (V5 ++ us ++ [x])) := upd_same
        generalize upd H6 l8 (.lst (V5 ++ us ++ [x])) = H7 at s7 g7 ⊢
        have A7 : DqAll K H7 (V5 ++ us ++ [x]) (B5 ++ es ++ [e]) := ((EL.DqAll.app (A4.up (off_hi o5)) (.cons hx .nil)).up hi_sub).up (s6.trans s7)
        have allT : ∀ d ∈ B5 ++ es ++ [e], Told d := fun d' m => by
          rcases List.mem_append.mp m with m | m
          · rcases List.mem_append.mp m with m | m
            · exact (hBb _ m).told
            · obtain ⟨j, hj, rfl⟩ := List.mem_iff_getElem.mp m
              obtain ⟨b, hb1, hb2⟩ := hbe j _ (List.getElem?_eq_getElem hj)
              exact (hBb b (List.mem_of_getElem? hb1)).bent hb2
          · obtain rfl : d' = e := by simpa using m
            exact te
        have D7 := D5.same (s6.trans s7)
        generalize hVS : V5 ++ us ++ [x] = VS at g7 A7 ⊢
        have hVl : VS.length = 14 := by rw [← hVS]; simp only [List.length_append, List.length_singleton]; omega
        refine ⟨l8, rfl, ⟨VS, sqOf g7⟩, fun D nD => ?_⟩
        refine lc_it walk_list (LcP D (fun _ H' => Same H7 H') (fun j v => v = none)) (LcP.start (same_upd nD)) (fun i H' _ p => by obtain ⟨_, _, _, _, sm⟩ := p; exact sqOf (sm _ _ g7)) ?_ ?_
        · rintro j y H8 H9 hj ⟨ws, hl, hR, hD, sm⟩ ⟨rfl, hy⟩
          obtain ⟨d', hd1', hd2'⟩ := A7.at hy
          refine ⟨rfl, y, rfl, y, d', rfl, hd2'.up sm, allT d' (List.mem_of_getElem? hd1'), fun H10 s10 => ⟨_, rfl, ?_⟩⟩
          exact iteF (lcp_none hl hR (s10 _ _ hD) rfl (sm.trans s10))
        · rintro H8 ⟨ws, hl, hR, hD, sm⟩
          rw [nil_of (fun v m => by obtain ⟨j, hj, rfl⟩ := List.mem_iff_getElem.mp m; exact hR j _ (List.getElem?_eq_getElem hj))] at hD
          refine ⟨Nat.zero_le _, fun r nr => ?_⟩
          refine ⟨D, r, _, rfl, rfl, sqOf (by rw [upd_ne (ne_of_none hD nr)]; exact hD), sqOf upd_same, _, rfl, ?_⟩
          refine iteF ⟨_, _, _, _, _, _, rfl, ((D7.same sm).same (same_upd nr)).mono (by omega)⟩
    · rintro σ H2 ⟨y2, y3, y4, y5, y6, y7, rfl, D2⟩
      clear hS hlen s1 D1
      refine ⟨_, rfl, .str evy, .str evy, rfl, .str _, by show 26 ≤ 500000; decide, fun H3 s3 => ⟨_, rfl, ?_⟩⟩
      rw [evy_text]
      have l26 : evy.length ≤ 1000000 := by rw [evy_len]; decide
      have l26' : yve.length ≤ 1000000 := by rw [yve_len]; decide
      have tE := base_evy.told.r
      refine iteF ⟨_, rfl, _, rfl, evy, rfl, l26, evy, yve, rfl, l26, l26', fun p H4 s4 h4 => ?_⟩
      refine ⟨_, _, rfl, h4, tE.1, tE.2.1, tE.2.2.1, tE.2.2.2, ?_⟩
      refine ⟨_, rfl, _, rfl, evy, rfl, l26, evy, yve, rfl, l26, l26', fun p2 H5 s5 h5 => ?_⟩
      refine ⟨_, _, rfl, h5, tE.1, tE.2.1, tE.2.2.1, tE.2.2.2, rfl, _, rfl, ?_⟩
      rw [decide_eq_true rfl]
      refine iteF ?_
      have three : 3 ≤ sizeLine := by decide
      refine ⟨two, fun p3 np3 => ?_⟩
      have u1 : Same H5 (upd H5 p3 (.tup [.str "a", .str "-"])) := same_upd np3
      have v1 : upd H5 p3 (.tup [.str "a", .str "-"]) p3 = some (.tup [.str "a", .str "-"]) := upd_same
      generalize upd H5 p3 (.tup [.str "a", .str "-"]) = J1 at u1 v1 ⊢
      refine ⟨one, fun p4 np4 => ?_⟩
      have u2 : Same J1 (upd J1 p4 (.tup [.ref p3])) := same_upd np4
      have v2 : upd J1 p4 (.tup [.ref p3]) p4 = some (.tup [.ref p3]) := upd_same
      generalize upd J1 p4 (.tup [.ref p3]) = J2 at u2 v2 ⊢
      refine ⟨p4, 999, [.ref p3], rfl, rfl, stOf v2, List.cons_ne_nil _ _, by decide, by decide, by show 1 ≤ 1000; decide, ?_⟩
      rw [show (List.replicate (999 : Int).toNat [V.ref p3]).flatten = List.replicate 999 (V.ref p3) from rep_flat 999 _]
      refine fun p5 np5 => ?_
      have u3 : Same J2 (upd J2 p5 (.tup (List.replicate 999 (V.ref p3)))) := same_upd np5
      have v3 : upd J2 p5 (.tup (List.replicate 999 (V.ref p3))) p5 = some (.tup (List.replicate 999 (V.ref p3))) := upd_same
      generalize upd J2 p5 (.tup (List.replicate 999 (V.ref p3))) = J3 at u3 v3 ⊢
      refine ⟨two, fun p6 np6 => ?_⟩
      have u4 : Same J3 (upd J3 p6 (.tup [.str "a", .str "-"])) := same_upd np6
      have v4 : upd J3 p6 (.tup [.str "a", .str "-"]) p6 = some (.tup [.str "a", .str "-"]) := upd_same
      generalize upd J3 p6 (.tup [.str "a", .str "-"]) = J4 at u4 v4 ⊢
      refine ⟨one, fun p7 np7 => ?_⟩
      have u5 : Same J4 (upd J4 p7 (.tup [.ref p6])) := same_upd np7
      have v5 : upd J4 p7 (.tup [.ref p6]) p7 = some (.tup [.ref p6]) := upd_same
      generalize upd J4 p7 (.tup [.ref p6]) = J5 at u5 v5 ⊢
      refine ⟨p7, 998, [.ref p6], rfl, rfl, stOf v5, List.cons_ne_nil _ _, by decide, by decide, by show 1 ≤ 1000; decide, ?_⟩
      rw [show (List.replicate (998 : Int).toNat [V.ref p6]).flatten = List.replicate 998 (V.ref p6) from rep_flat 998 _]
      refine fun p8 np8 => ?_
      have u6 : Same J5 (upd J5 p8 (.tup (List.replicate 998 (V.ref p6)))) := same_upd np8
      have v6 : upd J5 p8 (.tup (List.replicate 998 (V.ref p6))) p8 = some (.tup (List.replicate 998 (V.ref p6))) := upd_same
      generalize upd J5 p8 (.tup (List.replicate 998 (V.ref p6))) = J6 at u6 v6 ⊢
      refine ⟨two, fun p9 np9 => ?_⟩
      have u7 : Same J6 (upd J6 p9 (.tup [.str "-", .str "a"])) := same_upd np9
      have v7 : upd J6 p9 (.tup [.str "-", .str "a"]) p9 = some (.tup [.str "-", .str "a"]) := upd_same
      generalize upd J6 p9 (.tup [.str "-", .str "a"]) = J7 at u7 v7 ⊢
      refine ⟨one, fun p10 np10 => ?_⟩
      have u8 : Same J7 (upd J7 p10 (.tup [.ref p9])) := same_upd np10
      have v8 : upd J7 p10 (.tup [.ref p9]) p10 = some (.tup [.ref p9]) := upd_same
      generalize upd J7 p10 (.tup [.ref p9]) = J8 at u8 v8 ⊢
      refine cat_of (stOf (u8 _ _ (u7 _ _ v6))) (stOf v8) (by simp only [List.length_replicate, List.length_singleton]; decide) fun p11 J9 u9 g9 => ?_
      refine ⟨two, fun p12 np12 => ?_⟩
      have u10 : Same J9 (upd J9 p12 (.tup [.str "-", .str "z"])) := same_upd np12
      have v10 : upd J9 p12 (.tup [.str "-", .str "z"]) p12 = some (.tup [.str "-", .str "z"]) := upd_same
      generalize upd J9 p12 (.tup [.str "-", .str "z"]) = J10 at u10 v10 ⊢
      refine ⟨one, fun p13 np13 => ?_⟩
      have u11 : Same J10 (upd J10 p13 (.tup [.ref p12])) := same_upd np13
      have v11 : upd J10 p13 (.tup [.ref p12]) p13 = some (.tup [.ref p12]) := upd_same
      generalize upd J10 p13 (.tup [.ref p12]) = J11 at u11 v11 ⊢
      refine ⟨p13, 999, [.ref p12], rfl, rfl, stOf v11, List.cons_ne_nil _ _, by decide, by decide, by show 1 ≤ 1000; decide, ?_⟩
      rw [show (List.replicate (999 : Int).toNat [V.ref p12]).flatten = List.replicate 999 (V.ref p12) from rep_flat 999 _]
      refine fun p14 np14 => ?_
      have u12 : Same J11 (upd J11 p14 (.tup (List.replicate 999 (V.ref p12)))) := same_upd np14
      have v12 : upd J11 p14 (.tup (List.replicate 999 (V.ref p12))) p14 = some (.tup (List.replicate 999 (V.ref p12))) := upd_same
      generalize upd J11 p14 (.tup (List.replicate 999 (V.ref p12))) = J12 at u12 v12 ⊢
      refine ⟨three, fun l nl => ?_⟩
      have u13 : Same J12 (upd J12 l (.lst [.ref p5, .ref p11, .ref p14])) := same_upd nl
      have v13 : upd J12 l (.lst [.ref p5, .ref p11, .ref p14]) l = some (.lst [.ref p5, .ref p11, .ref p14]) := upd_same
      generalize upd J12 l (.lst [.ref p5, .ref p11, .ref p14]) = J13 at u13 v13 ⊢
      have dpr : ∀ (b c : Nat) (r : Addr) (G : Hp), G r = some (.tup [.str ⟨#[b]⟩, .str ⟨#[c]⟩]) → Dq K G (.ref r) (pr (b, c)) := fun b c r G e => .tup (stOf e) (.cons (.str _) (.cons (.str _) .nil))
      have S9 := u9.trans (u10.trans (u11.trans (u12.trans u13)))
      have S3 := u4.trans (u5.trans (u6.trans (u7.trans (u8.trans S9))))
      have S4 := u5.trans (u6.trans (u7.trans (u8.trans S9)))
      have dL : DqAll K J13 [.ref p5, .ref p11, .ref p14] [lg1, lg2, lg3] :=
        .cons (.tup (stOf (S3 _ _ v3)) (dq_rep (dpr 97 45 p3 _ (S3 _ _ (u3 _ _ (u2 _ _ v1)))) 999)) <|
        .cons (.tup (ex_t' (u10.trans (u11.trans (u12.trans u13))) g9) (EL.DqAll.app (dq_rep (dpr 97 45 p6 _ (S4 _ _ v4)) 998) (.cons (dpr 45 97 p9 _ (S9 _ _ (u8 _ _ v7))) .nil))) <|
        .cons (.tup (stOf (u13 _ _ v12)) (dq_rep (dpr 45 122 p12 _ (u13 _ _ (u12 _ _ (u11 _ _ v10)))) 999)) .nil
      have szL : ∀ d ∈ [lg1, lg2, lg3], Sz d := fun d m => by
        simp only [List.mem_cons, List.not_mem_nil, or_false] at m
        rcases m with rfl | rfl | rfl
        · exact lg1_sz
        · exact lg2_sz
        · exact lg3_sz
      refine ⟨.ref l, rfl, l, rfl, ⟨_, sqOf v13⟩, fun D nD => ?_⟩
      refine lc_it walk_list (LcP D (fun _ H' => Same J13 H') (fun j v => ∃ d, [lg1, lg2, lg3][j]? = some d ∧ v = some (.bl (isRowD d)))) (LcP.start (same_upd nD)) (fun i H' _ p => by obtain ⟨_, _, _, _, sm⟩ := p; exact sqOf (sm _ _ v13)) ?_ ?_
      · rintro j y H8 H9 hj ⟨ws, hl, hR, hD, sm⟩ ⟨rfl, hy⟩
        obtain ⟨d', hd1', hd2'⟩ := dL.at hy
        refine ⟨rfl, ?_⟩
        dsimp only [tYes]
        refine iteT ?_
        refine ⟨y, rfl, y, d', rfl, hd2'.up sm, szL d' (List.mem_of_getElem? hd1'), fun H10 s10 => ?_⟩
        exact lcp_some hl hR (s10 _ _ hD) (by have : j < 3 := hj; omega) ⟨d', hd1', rfl⟩ fun b o q => by rw [upd_ne (ne_of_none q nD)]; exact s10 _ _ (sm b o q)
      rintro J14 ⟨ws, hl, hR, hD, sm⟩
      have e1 := rows_map (f := fun d => some (V.bl (isRowD d))) (l := [lg1, lg2, lg3]) (by rw [hl]; rfl) hR
      have e2 : ws.filterMap id = [.bl true, .bl false, .bl true] := by
        rw [e1]
        simp only [List.map_cons, List.map_nil, lg1_row, lg2_row, lg3_row]
        rfl
      rw [e2] at hD
      have tB := (told_bools [true, false, true] (by decide)).r
      have dB : ∀ {G : Hp}, DqAll K G [.bl true, .bl false, .bl true] [.bool true, .bool false, .bool true] := .cons (.bl _) <| .cons (.bl _) <| .cons (.bl _) .nil
      refine ⟨_, _, rfl, .lst (sqOf hD) dB, tB.1, tB.2.1, tB.2.2.1, tB.2.2.2, three, fun l2 nl2 => ?_⟩
      refine ⟨_, _, rfl, .lst (sqOf upd_same) dB, tB.1, tB.2.1, tB.2.2.1, tB.2.2.2, rfl, _, rfl, ?_⟩
      generalize upd J14 l2 (.lst [.bl true, .bl false, .bl true]) = J15
      rw [decide_eq_true rfl]
      refine iteF ⟨_, rfl, evy, "", rfl, l26, Nat.zero_le _, fun p15 J16 s16 h16 => ?_⟩
      refine ⟨.ref p15, _, rfl, h16, by unfold Sz; decide +kernel, fun J17 s17 => ⟨_, rfl, ?_⟩⟩
      rw [evy_row]
      refine iteF ?_
      refine ⟨Nat.zero_le _, fun q1 nq1 => ?_⟩
      have u18 : Same J17 (upd J17 q1 (.tup [])) := same_upd nq1
      have v18 : upd J17 q1 (.tup []) q1 = some (.tup []) := upd_same
      generalize upd J17 q1 (.tup []) = J18 at u18 v18 ⊢
      refine ⟨Nat.zero_le _, fun q2 nq2 => ?_⟩
      have u19 : Same J18 (upd J18 q2 (.lst [])) := same_upd nq2
      have v19 : upd J18 q2 (.lst []) q2 = some (.lst []) := upd_same
      generalize upd J18 q2 (.lst []) = J19 at u19 v19 ⊢
      refine fun q3 nq3 => ?_
      have u20 : Same J19 (upd J19 q3 (.dK [])) := same_upd nq3
      have v20 : upd J19 q3 (.dK []) q3 = some (.dK []) := upd_same
      generalize upd J19 q3 (.dK []) = J20 at u20 v20 ⊢
      refine ⟨two, fun q4 nq4 => ?_⟩
      have u21 : Same J20 (upd J20 q4 (.tup [.str "a", .str "-"])) := same_upd nq4
      have v21 : upd J20 q4 (.tup [.str "a", .str "-"]) q4 = some (.tup [.str "a", .str "-"]) := upd_same
      generalize upd J20 q4 (.tup [.str "a", .str "-"]) = J21 at u21 v21 ⊢
      refine ⟨two, fun q5 nq5 => ?_⟩
      have u22 : Same J21 (upd J21 q5 (.tup [.str "b", .str "c"])) := same_upd nq5
      have v22 : upd J21 q5 (.tup [.str "b", .str "c"]) q5 = some (.tup [.str "b", .str "c"]) := upd_same
      generalize upd J21 q5 (.tup [.str "b", .str "c"]) = J22 at u22 v22 ⊢
      refine ⟨two, fun q6 nq6 => ?_⟩
      have u23 : Same J22 (upd J22 q6 (.tup [.ref q4, .ref q5])) := same_upd nq6
      have v23 : upd J22 q6 (.tup [.ref q4, .ref q5]) q6 = some (.tup [.ref q4, .ref q5]) := upd_same
      generalize upd J22 q6 (.tup [.ref q4, .ref q5]) = J23 at u23 v23 ⊢
      refine ⟨two, fun q7 nq7 => ?_⟩
      have u24 : Same J23 (upd J23 q7 (.tup [.str "-", .str "-"])) := same_upd nq7
      have v24 : upd J23 q7 (.tup [.str "-", .str "-"]) q7 = some (.tup [.str "-", .str "-"]) := upd_same
      generalize upd J23 q7 (.tup [.str "-", .str "-"]) = J24 at u24 v24 ⊢
      refine ⟨one, fun q8 nq8 => ?_⟩
      have u25 : Same J24 (upd J24 q8 (.tup [.ref q7])) := same_upd nq8
      have v25 : upd J24 q8 (.tup [.ref q7]) q8 = some (.tup [.ref q7]) := upd_same
      generalize upd J24 q8 (.tup [.ref q7]) = J25 at u25 v25 ⊢
      refine ⟨one, fun q9 nq9 => ?_⟩
      have u26 : Same J25 (upd J25 q9 (.tup [.str "ab"])) := same_upd nq9
      have v26 : upd J25 q9 (.tup [.str "ab"]) q9 = some (.tup [.str "ab"]) := upd_same
      generalize upd J25 q9 (.tup [.str "ab"]) = J26 at u26 v26 ⊢
      refine ⟨len_sz (by show 13 ≤ 1000000; decide), fun r nr => ?_⟩
      have u27 : Same J26 (upd J26 r (.lst [.non, .int 0, .bl true, .ref q1, .ref q2, .ref q3, .str "", .str "a-", .str "A", .str "a1", .ref q6, .ref q8, .ref q9])) := same_upd nr
      have v27 : upd J26 r (.lst [.non, .int 0, .bl true, .ref q1, .ref q2, .ref q3, .str "", .str "a-", .str "A", .str "a1", .ref q6, .ref q8, .ref q9]) r = some (.lst [.non, .int 0, .bl true, .ref q1, .ref q2, .ref q3, .str "", .str "a-", .str "A", .str "a1", .ref q6, .ref q8, .ref q9]) := upd_same
      generalize upd J26 r (.lst [.non, .int 0, .bl true, .ref q1, .ref q2, .ref q3, .str "", .str "a-", .str "A", .str "a1", .ref q6, .ref q8, .ref q9]) = J27 at u27 v27 ⊢
      have dO : DqAll K J27 [.non, .int 0, .bl true, .ref q1, .ref q2, .ref q3, .str "", .str "a-", .str "A", .str "a1", .ref q6, .ref q8, .ref q9] oddH :=
        .cons .non <| .cons (.int _) <| .cons (.bl _) <| .cons (.tup (stOf (u27 _ _ (u26 _ _ (u25 _ _ (u24 _ _ (u23 _ _ (u22 _ _ (u21 _ _ (u20 _ _ (u19 _ _ v18)))))))))) .nil) <| .cons (.lst (sqOf (u27 _ _ (u26 _ _ (u25 _ _ (u24 _ _ (u23 _ _ (u22 _ _ (u21 _ _ (u20 _ _ v19))))))))) .nil) <| .cons (.dic (u27 _ _ (u26 _ _ (u25 _ _ (u24 _ _ (u23 _ _ (u22 _ _ (u21 _ _ v20)))))))) <| .cons (.str _) <| .cons (.str _) <| .cons (.str _) <| .cons (.str _) <|
        .cons (.tup (stOf (u27 _ _ (u26 _ _ (u25 _ _ (u24 _ _ v23))))) (.cons (.tup (stOf (u27 _ _ (u26 _ _ (u25 _ _ (u24 _ _ (u23 _ _ (u22 _ _ v21))))))) (.cons (.str _) (.cons (.str _) .nil))) (.cons (.tup (stOf (u27 _ _ (u26 _ _ (u25 _ _ (u24 _ _ (u23 _ _ v22)))))) (.cons (.str _) (.cons (.str _) .nil))) .nil))) <|
        .cons (.tup (stOf (u27 _ _ (u26 _ _ v25))) (.cons (.tup (stOf (u27 _ _ (u26 _ _ (u25 _ _ v24)))) (.cons (.str _) (.cons (.str _) .nil))) .nil)) <|
        .cons (.tup (stOf (u27 _ _ v26)) (.cons (.str _) .nil)) .nil
      refine ⟨.ref r, rfl, r, rfl, ⟨_, sqOf v27⟩, fun D2 nD2 => ?_⟩
      refine lc_it walk_list (LcP D2 (fun _ H' => Same J27 H') (fun j v => v = none)) (LcP.start (same_upd nD2)) (fun i H' _ p => by obtain ⟨_, _, _, _, sm⟩ := p; exact sqOf (sm _ _ v27)) ?_ ?_
      · rintro j y H8 H9 hj ⟨ws, hl, hR, hD, sm⟩ ⟨rfl, hy⟩
        obtain ⟨d', hd1', hd2'⟩ := dO.at hy
        refine ⟨rfl, y, rfl, y, d', rfl, hd2'.up sm, oddH_told d' (List.mem_of_getElem? hd1'), fun H10 s10 => ⟨_, rfl, ?_⟩⟩
        exact iteF (lcp_none hl hR (s10 _ _ hD) rfl (sm.trans s10))
      · rintro H8 ⟨ws, hl, hR, hD, sm⟩
        rw [nil_of (fun v m => by obtain ⟨j, hj, rfl⟩ := List.mem_iff_getElem.mp m; exact hR j _ (List.getElem?_eq_getElem hj))] at hD
        refine ⟨Nat.zero_le _, fun r2 nr2 => ?_⟩
        refine ⟨D2, r2, _, rfl, rfl, sqOf (by rw [upd_ne (ne_of_none hD nr2)]; exact hD), sqOf upd_same, ?_⟩
        rw [decide_eq_true rfl]
        exact kQ _

end
end KK
namespace KK
open PySem PySem.Spec PyProof.Rows L2 EL
theorem gup {P : Program} {w : World} {K : PySem.W.Frag} {mg : Str → Option Value} {base : Heap} {j k : Nat} {f : Addr} {fd : FuncData} {ps : List Str} {sp : Sp} (F : FnG P w K mg base j f fd ps sp) (h : j ≤ k) : FnG P w K mg base k f fd ps sp := ⟨F.ln, fun hr => F.go (hr.mono h)⟩
theorem none_bent {P : Program} {w : World} {K : PySem.W.Frag} {mg : Str → Option Value} {base : Heap} {k : Nat} {f : Addr} {fd : FuncData} {ps : List Str} : FnOk P w K mg base CX0 k f fd ps (spBent K 0) :=
  ⟨fun vs H Q E h => by obtain ⟨_, _, _, _, _, _, _, _, _, _, hc, _⟩ := h; exact absurd hc.dp (Nat.not_lt_zero _), fun A outer s H args us vs Q E hr he hb hv h => by obtain ⟨_, _, _, _, _, _, _, _, _, _, hc, _⟩ := h; exact absurd hc.dp (Nat.not_lt_zero _)⟩
theorem all_mk {l : PySem.W.OpenLaw} {w : World} {K : PySem.W.Frag} {h : Heap} {mg : Str → Option Value} {fa f0 f1 f2 f3 f4 f5 f6 f7 f8 f9 f10 f11 f12 f13 f14 f15 f16 f17 : Addr} {tL tN : Tok} (X : K.In h) (G : h.Ns mainGlobals mg) (hfa : mg "law" = some (.ref fa))
    {od0 an0 : Option Addr} {sl0 : Array (Option Value)} {oc0 kV0 dc0 pm0 cd0 ct0 : Value} (a0 : PySem.W.nsIn K mainGlobals "is_text" = some (some (.ref f0))) (l0 : K.lookup f0 = some ⟨oc0, od0, .func (PySem.W.fnOf "is_text" "is_text" (defArgs sIsText) (defBody sIsText) (defScope sIsText) .none kV0 dc0 pm0 an0 cd0 ct0), sl0⟩) (c0 : PySem.W.codeIn K cd0 "is_text" = true) (k0 : PySem.W.keepIn K (.ref f0) = true)
    {od1 an1 : Option Addr} {sl1 : Array (Option Value)} {oc1 kV1 dc1 pm1 cd1 ct1 : Value} (a1 : PySem.W.nsIn K mainGlobals "is_sign" = some (some (.ref f1))) (l1 : K.lookup f1 = some ⟨oc1, od1, .func (PySem.W.fnOf "is_sign" "is_sign" (defArgs sIsSign) (defBody sIsSign) (defScope sIsSign) .none kV1 dc1 pm1 an1 cd1 ct1), sl1⟩) (c1 : PySem.W.codeIn K cd1 "is_sign" = true) (k1 : PySem.W.keepIn K (.ref f1) = true)
    {od2 an2 : Option Addr} {sl2 : Array (Option Value)} {oc2 kV2 dc2 pm2 cd2 ct2 : Value} (a2 : PySem.W.nsIn K mainGlobals "is_pair_of_signs" = some (some (.ref f2))) (l2 : K.lookup f2 = some ⟨oc2, od2, .func (PySem.W.fnOf "is_pair_of_signs" "is_pair_of_signs" (defArgs sIsPairOfSigns) (defBody sIsPairOfSigns) (defScope sIsPairOfSigns) .none kV2 dc2 pm2 an2 cd2 ct2), sl2⟩) (c2 : PySem.W.codeIn K cd2 "is_pair_of_signs" = true) (k2 : PySem.W.keepIn K (.ref f2) = true)
    {od3 an3 : Option Addr} {sl3 : Array (Option Value)} {oc3 kV3 dc3 pm3 cd3 ct3 : Value} (a3 : PySem.W.nsIn K mainGlobals "row_of" = some (some (.ref f3))) (l3 : K.lookup f3 = some ⟨oc3, od3, .func (PySem.W.fnOf "row_of" "row_of" (defArgs sRowOf) (defBody sRowOf) (defScope sRowOf) .none kV3 dc3 pm3 an3 cd3 ct3), sl3⟩) (c3 : PySem.W.codeIn K cd3 "row_of" = true) (k3 : PySem.W.keepIn K (.ref f3) = true)
    {od4 an4 : Option Addr} {sl4 : Array (Option Value)} {oc4 kV4 dc4 pm4 cd4 ct4 : Value} (a4 : PySem.W.nsIn K mainGlobals "is_row" = some (some (.ref f4))) (l4 : K.lookup f4 = some ⟨oc4, od4, .func (PySem.W.fnOf "is_row" "is_row" (defArgs sIsRow) (defBody sIsRow) (defScope sIsRow) .none kV4 dc4 pm4 an4 cd4 ct4), sl4⟩) (c4 : PySem.W.codeIn K cd4 "is_row" = true) (k4 : PySem.W.keepIn K (.ref f4) = true)
    {od5 an5 : Option Addr} {sl5 : Array (Option Value)} {oc5 kV5 dc5 pm5 cd5 ct5 : Value} (a5 : PySem.W.nsIn K mainGlobals "pair_of" = some (some (.ref f5))) (l5 : K.lookup f5 = some ⟨oc5, od5, .func (PySem.W.fnOf "pair_of" "pair_of" (defArgs sPairOf) (defBody sPairOf) (defScope sPairOf) .none kV5 dc5 pm5 an5 cd5 ct5), sl5⟩) (c5 : PySem.W.codeIn K cd5 "pair_of" = true) (k5 : PySem.W.keepIn K (.ref f5) = true)
    {od6 an6 : Option Addr} {sl6 : Array (Option Value)} {oc6 kV6 dc6 pm6 cd6 ct6 : Value} (a6 : PySem.W.nsIn K mainGlobals "_law_deck" = some (some (.ref f6))) (l6 : K.lookup f6 = some ⟨oc6, od6, .func (PySem.W.fnOf "_law_deck" "_law_deck" (defArgs sDeck) (defBody sDeck) (defScope sDeck) .none kV6 dc6 pm6 an6 cd6 ct6), sl6⟩) (c6 : PySem.W.codeIn K cd6 "_law_deck" = true) (k6 : PySem.W.keepIn K (.ref f6) = true)
    {od7 an7 : Option Addr} {sl7 : Array (Option Value)} {oc7 kV7 dc7 pm7 cd7 ct7 : Value} (a7 : PySem.W.nsIn K mainGlobals "_law_draw" = some (some (.ref f7))) (l7 : K.lookup f7 = some ⟨oc7, od7, .func (PySem.W.fnOf "_law_draw" "_law_draw" (defArgs sDraw) (defBody sDraw) (defScope sDraw) .none kV7 dc7 pm7 an7 cd7 ct7), sl7⟩) (c7 : PySem.W.codeIn K cd7 "_law_draw" = true) (k7 : PySem.W.keepIn K (.ref f7) = true)
    {od8 an8 : Option Addr} {sl8 : Array (Option Value)} {oc8 kV8 dc8 pm8 cd8 ct8 : Value} (a8 : PySem.W.nsIn K mainGlobals "_law_pick" = some (some (.ref f8))) (l8 : K.lookup f8 = some ⟨oc8, od8, .func (PySem.W.fnOf "_law_pick" "_law_pick" (defArgs sPick) (defBody sPick) (defScope sPick) .none kV8 dc8 pm8 an8 cd8 ct8), sl8⟩) (c8 : PySem.W.codeIn K cd8 "_law_pick" = true) (k8 : PySem.W.keepIn K (.ref f8) = true)
    {od9 an9 : Option Addr} {sl9 : Array (Option Value)} {oc9 kV9 dc9 pm9 cd9 ct9 : Value} (a9 : PySem.W.nsIn K mainGlobals "_law_word" = some (some (.ref f9))) (l9 : K.lookup f9 = some ⟨oc9, od9, .func (PySem.W.fnOf "_law_word" "_law_word" (defArgs sLWord) (defBody sLWord) (defScope sLWord) .none kV9 dc9 pm9 an9 cd9 ct9), sl9⟩) (c9 : PySem.W.codeIn K cd9 "_law_word" = true) (k9 : PySem.W.keepIn K (.ref f9) = true)
    {od10 an10 : Option Addr} {sl10 : Array (Option Value)} {oc10 kV10 dc10 pm10 cd10 ct10 : Value} (a10 : PySem.W.nsIn K mainGlobals "_law_signs" = some (some (.ref f10))) (l10 : K.lookup f10 = some ⟨oc10, od10, .func (PySem.W.fnOf "_law_signs" "_law_signs" (defArgs sLSigns) (defBody sLSigns) (defScope sLSigns) .none kV10 dc10 pm10 an10 cd10 ct10), sl10⟩) (c10 : PySem.W.codeIn K cd10 "_law_signs" = true) (k10 : PySem.W.keepIn K (.ref f10) = true)
    {od11 an11 : Option Addr} {sl11 : Array (Option Value)} {oc11 kV11 dc11 pm11 cd11 ct11 : Value} (a11 : PySem.W.nsIn K mainGlobals "_law_is_text" = some (some (.ref f11))) (l11 : K.lookup f11 = some ⟨oc11, od11, .func (PySem.W.fnOf "_law_is_text" "_law_is_text" (defArgs sLIsText) (defBody sLIsText) (defScope sLIsText) .none kV11 dc11 pm11 an11 cd11 ct11), sl11⟩) (c11 : PySem.W.codeIn K cd11 "_law_is_text" = true) (k11 : PySem.W.keepIn K (.ref f11) = true)
    {od12 an12 : Option Addr} {sl12 : Array (Option Value)} {oc12 kV12 dc12 pm12 cd12 ct12 : Value} (a12 : PySem.W.nsIn K mainGlobals "_law_is_row" = some (some (.ref f12))) (l12 : K.lookup f12 = some ⟨oc12, od12, .func (PySem.W.fnOf "_law_is_row" "_law_is_row" (defArgs sLIsRow) (defBody sLIsRow) (defScope sLIsRow) .none kV12 dc12 pm12 an12 cd12 ct12), sl12⟩) (c12 : PySem.W.codeIn K cd12 "_law_is_row" = true) (k12 : PySem.W.keepIn K (.ref f12) = true)
    {od13 an13 : Option Addr} {sl13 : Array (Option Value)} {oc13 kV13 dc13 pm13 cd13 ct13 : Value} (a13 : PySem.W.nsIn K mainGlobals "_law_odd" = some (some (.ref f13))) (l13 : K.lookup f13 = some ⟨oc13, od13, .func (PySem.W.fnOf "_law_odd" "_law_odd" (defArgs sLOdd) (defBody sLOdd) (defScope sLOdd) .none kV13 dc13 pm13 an13 cd13 ct13), sl13⟩) (c13 : PySem.W.codeIn K cd13 "_law_odd" = true) (k13 : PySem.W.keepIn K (.ref f13) = true)
    {od14 an14 : Option Addr} {sl14 : Array (Option Value)} {oc14 kV14 dc14 pm14 cd14 ct14 : Value} (a14 : PySem.W.nsIn K mainGlobals "_law_bent" = some (some (.ref f14))) (l14 : K.lookup f14 = some ⟨oc14, od14, .func (PySem.W.fnOf "_law_bent" "_law_bent" (defArgs sLBent) (defBody sLBent) (defScope sLBent) .none kV14 dc14 pm14 an14 cd14 ct14), sl14⟩) (c14 : PySem.W.codeIn K cd14 "_law_bent" = true) (k14 : PySem.W.keepIn K (.ref f14) = true)
    {od15 an15 : Option Addr} {sl15 : Array (Option Value)} {oc15 kV15 dc15 pm15 cd15 ct15 : Value} (a15 : PySem.W.nsIn K mainGlobals "_law_are_told" = some (some (.ref f15))) (l15 : K.lookup f15 = some ⟨oc15, od15, .func (PySem.W.fnOf "_law_are_told" "_law_are_told" (defArgs sLAreTold) (defBody sLAreTold) (defScope sLAreTold) .none kV15 dc15 pm15 an15 cd15 ct15), sl15⟩) (c15 : PySem.W.codeIn K cd15 "_law_are_told" = true) (k15 : PySem.W.keepIn K (.ref f15) = true)
    {od16 an16 : Option Addr} {sl16 : Array (Option Value)} {oc16 kV16 dc16 pm16 cd16 ct16 : Value} (a16 : PySem.W.nsIn K mainGlobals "law" = some (some (.ref f16))) (l16 : K.lookup f16 = some ⟨oc16, od16, .func (PySem.W.fnOf "law" "law" (defArgs sLaw) (defBody sLaw) (defScope sLaw) .none kV16 dc16 pm16 an16 cd16 ct16), sl16⟩) (c16 : PySem.W.codeIn K cd16 "law" = true) (k16 : PySem.W.keepIn K (.ref f16) = true)
    {od17 an17 : Option Addr} {sl17 : Array (Option Value)} {oc17 kV17 dc17 pm17 cd17 ct17 : Value} (a17 : PySem.W.nsIn K mainGlobals "is_letter" = some (some (.ref f17))) (l17 : K.lookup f17 = some ⟨oc17, od17, .func (PySem.W.fnOf "is_letter" "is_letter" (defArgs sIsLetter) (defBody sIsLetter) (defScope sIsLetter) .none kV17 dc17 pm17 an17 cd17 ct17), sl17⟩) (c17 : PySem.W.codeIn K cd17 "is_letter" = true) (k17 : PySem.W.keepIn K (.ref f17) = true)
    (z_all : PySem.W.nsIn K mainGlobals "all" = some none)
    (z_isinstance : PySem.W.nsIn K mainGlobals "isinstance" = some none)
    (z_str : PySem.W.nsIn K mainGlobals "str" = some none)
    (z_len : PySem.W.nsIn K mainGlobals "len" = some none)
    (z_tuple : PySem.W.nsIn K mainGlobals "tuple" = some none)
    (z_max : PySem.W.nsIn K mainGlobals "max" = some none)
    (z_zip : PySem.W.nsIn K mainGlobals "zip" = some none)
    (z_range : PySem.W.nsIn K mainGlobals "range" = some none)
    (z_list : PySem.W.nsIn K mainGlobals "list" = some none)
    (z_int : PySem.W.nsIn K mainGlobals "int" = some none)
    (z_repr : PySem.W.nsIn K mainGlobals "repr" = some none)
    (zL : PySem.W.nsIn K mainGlobals "LETTERS" = some (some (.str "abcdefghijklmnopqrstuvwxyz" tL))) (zN : PySem.W.nsIn K mainGlobals "NO_LETTER" = some (some (.str "-" tN))) :
    ∃ fd : FuncData, (∀ (s : Shared) (v : Value), BindsTo s fd ⟨[v], []⟩ [("_law_script", v)]) ∧ ∀ base : Heap, K.In base → base.Ns mainGlobals mg → FnG l.prog w K mg base 8 fa fd ["_law_script"] (spLaw K) := by
  have e := hfa.symm.trans (PySem.W.mg_of X G a16)
  cases e
  have F0 := fun_mk (st := sIsText) l0 c0 k0
  have b0 := F0.binds (ps := ["thing"]) fun _ _ _ _ _ _ us hl => match us, hl with | [_], _ => rfl
  have F1 := fun_mk (st := sIsSign) l1 c1 k1
  have b1 := F1.binds (ps := ["thing"]) fun _ _ _ _ _ _ us hl => match us, hl with | [_], _ => rfl
  have F2 := fun_mk (st := sIsPairOfSigns) l2 c2 k2
  have b2 := F2.binds (ps := ["thing"]) fun _ _ _ _ _ _ us hl => match us, hl with | [_], _ => rfl
  have F3 := fun_mk (st := sRowOf) l3 c3 k3
  have b3 := F3.binds (ps := ["left", "right"]) fun _ _ _ _ _ _ us hl => match us, hl with | [_, _], _ => rfl
  have F4 := fun_mk (st := sIsRow) l4 c4 k4
  have b4 := F4.binds (ps := ["thing"]) fun _ _ _ _ _ _ us hl => match us, hl with | [_], _ => rfl
  have F5 := fun_mk (st := sPairOf) l5 c5 k5
  have b5 := F5.binds (ps := ["row"]) fun _ _ _ _ _ _ us hl => match us, hl with | [_], _ => rfl
  have F6 := fun_mk (st := sDeck) l6 c6 k6
  have b6 := F6.binds (ps := ["_law_script"]) fun _ _ _ _ _ _ us hl => match us, hl with | [_], _ => rfl
  have F7 := fun_mk (st := sDraw) l7 c7 k7
  have b7 := F7.binds (ps := ["_law_deck_here", "_law_below"]) fun _ _ _ _ _ _ us hl => match us, hl with | [_, _], _ => rfl
  have F8 := fun_mk (st := sPick) l8 c8 k8
  have b8 := F8.binds (ps := ["_law_deck_here", "_law_some"]) fun _ _ _ _ _ _ us hl => match us, hl with | [_, _], _ => rfl
  have F9 := fun_mk (st := sLWord) l9 c9 k9
  have b9 := F9.binds (ps := ["_law_deck_here", "_law_top"]) fun _ _ _ _ _ _ us hl => match us, hl with | [_, _], _ => rfl
  have F10 := fun_mk (st := sLSigns) l10 c10 k10
  have b10 := F10.binds (ps := ["_law_x", "_law_y"]) fun _ _ _ _ _ _ us hl => match us, hl with | [_, _], _ => rfl
  have F11 := fun_mk (st := sLIsText) l11 c11 k11
  have b11 := F11.binds (ps := ["_law_it"]) fun _ _ _ _ _ _ us hl => match us, hl with | [_], _ => rfl
  have F12 := fun_mk (st := sLIsRow) l12 c12 k12
  have b12 := F12.binds (ps := ["_law_it"]) fun _ _ _ _ _ _ us hl => match us, hl with | [_], _ => rfl
  have F13 := fun_mk (st := sLOdd) l13 c13 k13
  have b13 := F13.binds (ps := ["_law_deck_here", "_law_it"]) fun _ _ _ _ _ _ us hl => match us, hl with | [_, _], _ => rfl
  have F14 := fun_mk (st := sLBent) l14 c14 k14
  have b14 := F14.binds (ps := ["_law_deck_here", "_law_it"]) fun _ _ _ _ _ _ us hl => match us, hl with | [_, _], _ => rfl
  have F15 := fun_mk (st := sLAreTold) l15 c15 k15
  have b15 := F15.binds (ps := ["_law_it"]) fun _ _ _ _ _ _ us hl => match us, hl with | [_], _ => rfl
  have F16 := fun_mk (st := sLaw) l16 c16 k16
  have F17 := fun_mk (st := sIsLetter) l17 c17 k17
  have b17 := F17.binds (ps := ["thing"]) fun _ _ _ _ _ _ us hl => match us, hl with | [_], _ => rfl
  have n_all := PySem.W.mg_none_of X G z_all
  have n_isinstance := PySem.W.mg_none_of X G z_isinstance
  have n_str := PySem.W.mg_none_of X G z_str
  have n_len := PySem.W.mg_none_of X G z_len
  have n_tuple := PySem.W.mg_none_of X G z_tuple
  have n_max := PySem.W.mg_none_of X G z_max
  have n_zip := PySem.W.mg_none_of X G z_zip
  have n_range := PySem.W.mg_none_of X G z_range
  have n_list := PySem.W.mg_none_of X G z_list
  have n_int := PySem.W.mg_none_of X G z_int
  have n_repr := PySem.W.mg_none_of X G z_repr
  have mL : StrAt mg "LETTERS" "abcdefghijklmnopqrstuvwxyz" := ⟨tL, PySem.W.mg_of X G zL⟩
  have mN : StrAt mg "NO_LETTER" dash := ⟨tN, PySem.W.mg_of X G zN⟩
  refine ⟨PySem.W.fnOf "law" "law" (defArgs sLaw) (defBody sLaw) (defScope sLaw) .none kV16 dc16 pm16 an16 cd16 ct16, fun s v => .of_eq rfl, fun base _ _ => ?_⟩
  have oIsText := ok_IsText (P := l.prog) (w := w) (base := base) (k := 0) F0 n_all n_isinstance n_str mL
  have oIsLetter := ok_IsLetter (P := l.prog) (w := w) (base := base) (k := 1) F17 n_len (⟨f0, _, oIsText, PySem.W.mg_of X G a0, k0, b0⟩ : EL.Cal l.prog w K mg base 1 "is_text" ["thing"] (spLook K isTextD))
  have oIsSign := ok_IsSign (P := l.prog) (w := w) (base := base) (k := 2) F1 mN (⟨f17, _, oIsLetter, PySem.W.mg_of X G a17, k17, b17⟩ : EL.Cal l.prog w K mg base 2 "is_letter" ["thing"] (spLook K isLetterD))
  have oIsPair := ok_IsPairOfSigns (P := l.prog) (w := w) (base := base) (k := 3) F2 n_isinstance n_len n_tuple (⟨f1, _, oIsSign, PySem.W.mg_of X G a1, k1, b1⟩ : EL.Cal l.prog w K mg base 3 "is_sign" ["thing"] (spLook K isSignD))
  have oRowOf := ok_RowOf (P := l.prog) (w := w) (base := base) (k := 0) F3 n_len n_max n_tuple n_zip mN
  have oPairOf := ok_PairOf (P := l.prog) (w := w) (base := base) (k := 0) F5 mN
  have oIsRow := ok_IsRow (P := l.prog) (w := w) (base := base) (k := 4) F4 n_all n_isinstance n_tuple (⟨f2, _, oIsPair, PySem.W.mg_of X G a2, k2, b2⟩ : EL.Cal l.prog w K mg base 4 "is_pair_of_signs" ["thing"] (spLook K isPairD)) (⟨f5, _, FnOk.mono oPairOf (by decide), PySem.W.mg_of X G a5, k5, b5⟩ : EL.Cal l.prog w K mg base 4 "pair_of" ["row"] (spPairOf K)) (⟨f3, _, FnOk.mono oRowOf (by decide), PySem.W.mg_of X G a3, k3, b3⟩ : EL.Cal l.prog w K mg base 4 "row_of" ["left", "right"] (spRow K))
  have oDeck := ok_deck (P := l.prog) (w := w) (base := base) (k := 0) F6 n_list n_int
  have oDraw := ok_draw (P := l.prog) (w := w) (base := base) (k := 0) F7 n_int
  have oPick := ok_pick (P := l.prog) (w := w) (base := base) (k := 0) F8 n_len (⟨f7, _, oDraw, PySem.W.mg_of X G a7, k7, b7⟩ : EL.Cal l.prog w K mg base (0 + 1) "_law_draw" ["_law_deck_here", "_law_below"] spDraw)
  have oWord := ok_LWord (P := l.prog) (w := w) (base := base) (k := 2) F9 n_range (⟨f7, _, FnOk.mono oDraw (by decide), PySem.W.mg_of X G a7, k7, b7⟩ : EL.Cal l.prog w K mg base 2 "_law_draw" ["_law_deck_here", "_law_below"] spDraw) (⟨f8, _, oPick, PySem.W.mg_of X G a8, k8, b8⟩ : EL.Cal l.prog w K mg base 2 "_law_pick" ["_law_deck_here", "_law_some"] (spPick K))
  have oSigns := ok_LSigns (P := l.prog) (w := w) (base := base) (k := 0) F10 n_range n_max n_len n_tuple
  have oLIsText := ok_LIsText (P := l.prog) (w := w) (base := base) (k := 0) F11 n_isinstance n_str
  have oLIsRow := ok_LIsRow (P := l.prog) (w := w) (base := base) (k := 1) F12 n_isinstance n_tuple n_len n_str (⟨f11, _, oLIsText, PySem.W.mg_of X G a11, k11, b11⟩ : EL.Cal l.prog w K mg base 1 "_law_is_text" ["_law_it"] (spLookA K isTextD)) (⟨f10, _, oSigns, PySem.W.mg_of X G a10, k10, b10⟩ : EL.Cal l.prog w K mg base 1 "_law_signs" ["_law_x", "_law_y"] (spRow K))
  have oOdd := ok_LOdd (P := l.prog) (w := w) (base := base) (k := 2) F13 n_isinstance n_str (⟨f8, _, oPick, PySem.W.mg_of X G a8, k8, b8⟩ : EL.Cal l.prog w K mg base 2 "_law_pick" ["_law_deck_here", "_law_some"] (spPick K))
  have oBent1 := ok_LBent (P := l.prog) (w := w) (base := base) (k := 3) (n := 0) F14 n_isinstance n_tuple n_len n_list (⟨f7, _, FnOk.mono oDraw (by decide), PySem.W.mg_of X G a7, k7, b7⟩ : EL.Cal l.prog w K mg base 3 "_law_draw" ["_law_deck_here", "_law_below"] spDraw) (⟨f13, _, FnOk.mono oOdd (by decide), PySem.W.mg_of X G a13, k13, b13⟩ : EL.Cal l.prog w K mg base 3 "_law_odd" ["_law_deck_here", "_law_it"] (spOdd K)) (⟨f14, _, none_bent, PySem.W.mg_of X G a14, k14, b14⟩ : EL.Cal l.prog w K mg base 3 "_law_bent" ["_law_deck_here", "_law_it"] (spBent K 0))
  have oBent2 := ok_LBent (P := l.prog) (w := w) (base := base) (k := 4) (n := 1) F14 n_isinstance n_tuple n_len n_list (⟨f7, _, FnOk.mono oDraw (by decide), PySem.W.mg_of X G a7, k7, b7⟩ : EL.Cal l.prog w K mg base 4 "_law_draw" ["_law_deck_here", "_law_below"] spDraw) (⟨f13, _, FnOk.mono oOdd (by decide), PySem.W.mg_of X G a13, k13, b13⟩ : EL.Cal l.prog w K mg base 4 "_law_odd" ["_law_deck_here", "_law_it"] (spOdd K)) (⟨f14, _, oBent1, PySem.W.mg_of X G a14, k14, b14⟩ : EL.Cal l.prog w K mg base 4 "_law_bent" ["_law_deck_here", "_law_it"] (spBent K 1))
  have oBent3 := ok_LBent (P := l.prog) (w := w) (base := base) (k := 5) (n := 2) F14 n_isinstance n_tuple n_len n_list (⟨f7, _, FnOk.mono oDraw (by decide), PySem.W.mg_of X G a7, k7, b7⟩ : EL.Cal l.prog w K mg base 5 "_law_draw" ["_law_deck_here", "_law_below"] spDraw) (⟨f13, _, FnOk.mono oOdd (by decide), PySem.W.mg_of X G a13, k13, b13⟩ : EL.Cal l.prog w K mg base 5 "_law_odd" ["_law_deck_here", "_law_it"] (spOdd K)) (⟨f14, _, oBent2, PySem.W.mg_of X G a14, k14, b14⟩ : EL.Cal l.prog w K mg base 5 "_law_bent" ["_law_deck_here", "_law_it"] (spBent K 2))
  have oBent4 := ok_LBent (P := l.prog) (w := w) (base := base) (k := 6) (n := 3) F14 n_isinstance n_tuple n_len n_list (⟨f7, _, FnOk.mono oDraw (by decide), PySem.W.mg_of X G a7, k7, b7⟩ : EL.Cal l.prog w K mg base 6 "_law_draw" ["_law_deck_here", "_law_below"] spDraw) (⟨f13, _, FnOk.mono oOdd (by decide), PySem.W.mg_of X G a13, k13, b13⟩ : EL.Cal l.prog w K mg base 6 "_law_odd" ["_law_deck_here", "_law_it"] (spOdd K)) (⟨f14, _, oBent3, PySem.W.mg_of X G a14, k14, b14⟩ : EL.Cal l.prog w K mg base 6 "_law_bent" ["_law_deck_here", "_law_it"] (spBent K 3))
  have oTold := ok_LAreTold (P := l.prog) (w := w) (base := base) (k := 5) F15 n_repr (⟨f11, _, FnOk.mono oLIsText (by decide), PySem.W.mg_of X G a11, k11, b11⟩ : EL.Cal l.prog w K mg base 5 "_law_is_text" ["_law_it"] (spLookA K isTextD)) (⟨f12, _, FnOk.mono oLIsRow (by decide), PySem.W.mg_of X G a12, k12, b12⟩ : EL.Cal l.prog w K mg base 5 "_law_is_row" ["_law_it"] (spLookA K isRowD)) (⟨f0, _, FnOk.mono oIsText (by decide), PySem.W.mg_of X G a0, k0, b0⟩ : EL.Cal l.prog w K mg base 5 "is_text" ["thing"] (spLook K isTextD)) (⟨f4, _, oIsRow, PySem.W.mg_of X G a4, k4, b4⟩ : EL.Cal l.prog w K mg base 5 "is_row" ["thing"] (spLook K isRowD)) (EL.Fun.kw1 F0 fun _ _ _ _ _ _ _ => rfl) (EL.Fun.kw1 F4 fun _ _ _ _ _ _ _ => rfl)
  exact ok_Law (P := l.prog) (w := w) (base := base) (k := 7) F16 n_range n_repr (⟨f6, _, FnOk.mono oDeck (by decide), PySem.W.mg_of X G a6, k6, b6⟩ : EL.Cal l.prog w K mg base 7 "_law_deck" ["_law_script"] (spDeck K)) (⟨f9, _, FnOk.mono oWord (by decide), PySem.W.mg_of X G a9, k9, b9⟩ : EL.Cal l.prog w K mg base 7 "_law_word" ["_law_deck_here", "_law_top"] spWord) (⟨f8, _, FnOk.mono oPick (by decide), PySem.W.mg_of X G a8, k8, b8⟩ : EL.Cal l.prog w K mg base 7 "_law_pick" ["_law_deck_here", "_law_some"] (spPick K)) (⟨f10, _, FnOk.mono oSigns (by decide), PySem.W.mg_of X G a10, k10, b10⟩ : EL.Cal l.prog w K mg base 7 "_law_signs" ["_law_x", "_law_y"] (spRow K)) (⟨f3, _, FnOk.mono oRowOf (by decide), PySem.W.mg_of X G a3, k3, b3⟩ : EL.Cal l.prog w K mg base 7 "row_of" ["left", "right"] (spRow K)) (⟨f5, _, FnOk.mono oPairOf (by decide), PySem.W.mg_of X G a5, k5, b5⟩ : EL.Cal l.prog w K mg base 7 "pair_of" ["row"] (spPairOf K)) (⟨f14, _, FnOk.mono oBent4 (by decide), PySem.W.mg_of X G a14, k14, b14⟩ : EL.Cal l.prog w K mg base 7 "_law_bent" ["_law_deck_here", "_law_it"] (spBent K 4)) (⟨f15, _, gup oTold (by decide), PySem.W.mg_of X G a15, k15, b15⟩ : EL.CalG l.prog w K mg base 7 "_law_are_told" ["_law_it"] (spTold K)) (⟨f0, _, FnOk.mono oIsText (by decide), PySem.W.mg_of X G a0, k0, b0⟩ : EL.Cal l.prog w K mg base 7 "is_text" ["thing"] (spLook K isTextD)) (⟨f4, _, FnOk.mono oIsRow (by decide), PySem.W.mg_of X G a4, k4, b4⟩ : EL.Cal l.prog w K mg base 7 "is_row" ["thing"] (spLook K isRowD)) (EL.Fun.kw2r F3 fun _ _ _ _ _ _ _ _ => rfl) (EL.Fun.kw1 F5 fun _ _ _ _ _ _ _ => rfl)
end KK
open PySem PySem.W PyProof.Rows
set_option maxHeartbeats 0 in
theorem PySem.Challenge.cw_evenlead_k02_texts_and_rows_holds : PySem.Challenge.rw_evenlead_k02_texts_and_rows.Holds := by
  w_on; o_law; k_head; (case hw => w_witness2)
  k_fill
  refine EL.walk_ofG (l := PySem.Challenge.rw_evenlead_k02_texts_and_rows) (n := 63) (k := 8) (x := "_law_script") (sp := fun w => KK.spLaw _) rfl (by decide) rfl ⟨rfl, by decide, by decide⟩ (fun w h Y => PySem.W.kIn_of Y) ?F (fun _ _ a ns hl _ hS => ⟨a, ns, rfl, hS, hl, fun _ => rfl⟩)
  case F =>
    intro w mg fa h KX G hmg
    refine' KK.all_mk KX G hmg ?a0 ?l0 ?c0 ?k0 ?a1 ?l1 ?c1 ?k1 ?a2 ?l2 ?c2 ?k2 ?a3 ?l3 ?c3 ?k3 ?a4 ?l4 ?c4 ?k4 ?a5 ?l5 ?c5 ?k5 ?a6 ?l6 ?c6 ?k6 ?a7 ?l7 ?c7 ?k7 ?a8 ?l8 ?c8 ?k8 ?a9 ?l9 ?c9 ?k9 ?a10 ?l10 ?c10 ?k10 ?a11 ?l11 ?c11 ?k11 ?a12 ?l12 ?c12 ?k12 ?a13 ?l13 ?c13 ?k13 ?a14 ?l14 ?c14 ?k14 ?a15 ?l15 ?c15 ?k15 ?a16 ?l16 ?c16 ?k16 ?a17 ?l17 ?c17 ?k17 ?z_all ?z_isinstance ?z_str ?z_len ?z_tuple ?z_max ?z_zip ?z_range ?z_list ?z_int ?z_repr ?zL ?zN
    (case a0 => k_is); (case l0 => k_is); (case c0 => k_is); (case k0 => k_is); (case a1 => k_is); (case l1 => k_is); (case c1 => k_is); (case k1 => k_is); (case a2 => k_is); (case l2 => k_is); (case c2 => k_is); (case k2 => k_is); (case a3 => k_is); (case l3 => k_is); (case c3 => k_is); (case k3 => k_is); (case a4 => k_is); (case l4 => k_is); (case c4 => k_is); (case k4 => k_is); (case a5 => k_is); (case l5 => k_is); (case c5 => k_is); (case k5 => k_is); (case a6 => k_is); (case l6 => k_is); (case c6 => k_is); (case k6 => k_is); (case a7 => k_is); (case l7 => k_is); (case c7 => k_is); (case k7 => k_is); (case a8 => k_is); (case l8 => k_is); (case c8 => k_is); (case k8 => k_is); (case a9 => k_is); (case l9 => k_is); (case c9 => k_is); (case k9 => k_is); (case a10 => k_is); (case l10 => k_is); (case c10 => k_is); (case k10 => k_is); (case a11 => k_is); (case l11 => k_is); (case c11 => k_is); (case k11 => k_is); (case a12 => k_is); (case l12 => k_is); (case c12 => k_is); (case k12 => k_is); (case a13 => k_is); (case l13 => k_is); (case c13 => k_is); (case k13 => k_is); (case a14 => k_is); (case l14 => k_is); (case c14 => k_is); (case k14 => k_is); (case a15 => k_is); (case l15 => k_is); (case c15 => k_is); (case k15 => k_is); (case a16 => k_is); (case l16 => k_is); (case c16 => k_is); (case k16 => k_is); (case a17 => k_is); (case l17 => k_is); (case c17 => k_is); (case k17 => k_is); (case z_all => k_is); (case z_isinstance => k_is); (case z_str => k_is); (case z_len => k_is); (case z_tuple => k_is); (case z_max => k_is); (case z_zip => k_is); (case z_range => k_is); (case z_list => k_is); (case z_int => k_is); (case z_repr => k_is); (case zL => k_is); (case zN => k_is)
