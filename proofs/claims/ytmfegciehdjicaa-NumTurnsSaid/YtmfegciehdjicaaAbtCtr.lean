/-
  The typed machine: contracts of functions; what a law's run says of the law.
-/
import Derived.Test.YtmfegciehdjicaaAbtFun
set_option linter.unusedVariables false
set_option linter.unusedSimpArgs false
namespace Go.AbsM

/-- An argument: a value by itself, or a slice (nil is an empty one). -/
inductive AT where
  | v (t : VT)
  | l (e : TypeId) (t : VT)
@[reducible] def AT.den : AT → Type
  | .v t => t.den
  | .l _ t => List t.den
def dens : List AT → Type
  | [] => Unit
  | a :: r => a.den × dens r
def AT.t1 : (a : AT) → a.den → T1
  | .v t, x => t.t1 x
  | .l e t, xs => .c (.sl e t (.mk xs))
def t1s : (l : List AT) → dens l → List T1
  | [], _ => []
  | a :: r, d => a.t1 (Prod.fst d) :: t1s r (Prod.snd d)
def AT.dec : (a : AT) → T1 → Option a.den
  | .v t, x => t.ofT1 x
  | .l e t, x => match x with
    | .c (.a .nils) => some []
    | .c (.a .cap0) => some []
    | .c (.sl e' t' x) => if e' = e then if h : t' = t then some (h ▸ x.list) else none else none
    | _ => none
def decs : (l : List AT) → List T1 → Option (dens l)
  | [], [] => some ()
  | a :: r, x :: xs => match a.dec x, decs r xs with
    | some d, some ds => some (d, ds)
    | _, _ => none
  | _, _ => none

/-- The same of what stands below. -/
def mapA {α : Type} (f : AV → Option α) : List AV → Option (List α)
  | [] => some []
  | x :: r => match f x, mapA f r with
    | some a, some l => some (a :: l)
    | _, _ => none
def headA {α : Type} (f : AV → Option α) : List AV → Option (α × List AV)
  | [] => none
  | x :: r => match f x with
    | some a => some (a, r)
    | none => none
def oneA (agg : Bool) {α : Type} (f : List AV → Option (α × List AV)) (x : AV) : Option α := match agg, x with
  | true, .agg cs => match f cs with
    | some (a, []) => some a
    | _ => none
  | true, _ => none
  | false, x => match f [x] with
    | some (a, []) => some a
    | _ => none
def VT.ofAs : (t : VT) → List AV → Option (t.den × List AV)
  | .int k => headA fun x => match x with
    | .x (.int k' n) => if k' = k then some n else none
    | _ => none
  | .bool => headA fun x => match x with
    | .x (.bool b) => some b
    | _ => none
  | .str => headA fun x => match x with
    | .str l => some l
    | _ => none
  | .flt k => headA fun x => match x with
    | .x (.float k' n) => if k' = k then some n else none
    | _ => none
  | .cx k => headA fun x => match x with
    | .x (.complex k' a b) => if k' = k then some ((a, b) : Nat × Nat) else none
    | _ => none
  | .slc e t => headA fun x => match x with
    | .nils => some NL.nil
    | .cap0 => some NL.cap0
    | .sl e' xs => if e' = e then (mapA (oneA t.isAgg t.ofAs) xs).map NL.mk else none
    | _ => none
  | .unit => fun r => some ((), r)
  | .pair a b => fun cs => match a.ofAs cs with
    | some (x, r) => match b.ofAs r with
      | some (y, r') => some ((x, y), r')
      | none => none
    | none => none
def VT.ofA (t : VT) (x : AV) : Option t.den := oneA t.isAgg t.ofAs x
def AT.decA : (a : AT) → AV → Option a.den
  | .v t, x => t.ofA x
  | .l e t, x => match x with
    | .nils => some []
    | .cap0 => some []
    | .sl e' xs => if e' = e then mapA t.ofA xs else none
    | _ => none
def decsA : (l : List AT) → List AV → Option (dens l)
  | [], [] => some ()
  | a :: r, x :: xs => match a.decA x, decsA r xs with
    | some d, some ds => some (d, ds)
    | _, _ => none
  | _, _ => none

theorem ofAs_cells (t : VT) : ∀ (x : t.den) (r : List AV), t.ofAs (t.cells x ++ r) = some (x, r) := by
  induction t with
  | pair a b ha hb =>
    intro x r
    simp only [VT.cells, List.append_assoc, VT.ofAs, ha, hb]; rfl
  | unit => intro x r; rfl
  | slc e t ih =>
    intro x r
    have one : ∀ y, oneA t.isAgg t.ofAs (t.emb y) = some y := by
      intro y
      have := ih y []
      rw [List.append_nil] at this
      unfold VT.emb embOf
      cases h : t.isAgg with
      | true => simp only [oneA, this]
      | false =>
        obtain ⟨c, hc, _⟩ := cells_one h y
        rw [hc] at this ⊢
        simp only [oneA, List.headD_cons, this]
    have all : ∀ l : List t.den, mapA (oneA t.isAgg t.ofAs) (l.map t.emb) = some l := by
      intro l
      induction l with
      | nil => rfl
      | cons y l ihl => simp only [List.map_cons, mapA, one, ihl]
    cases x with
    | nil => rfl
    | cap0 => rfl
    | mk l =>
      have e1 : (VT.slc e t).cells (.mk l) = [.sl e (l.map t.emb)] := rfl
      rw [e1]
      simp only [List.cons_append, List.nil_append, VT.ofAs, headA, if_true, all]
      rfl
  | cx k => intro x r; obtain ⟨a, b⟩ := x; simp [VT.ofAs, VT.cells, headA]
  | _ => intro x r; first | rfl | simp [VT.ofAs, VT.cells, headA]
theorem ofA_emb (t : VT) (x : t.den) : t.ofA (t.emb x) = some x := by
  have := ofAs_cells t x []
  rw [List.append_nil] at this
  unfold VT.ofA VT.emb embOf
  cases h : t.isAgg with
  | true => simp only [oneA, this]
  | false =>
    obtain ⟨c, hc, _⟩ := cells_one h x
    rw [hc] at this ⊢
    simp only [oneA, List.headD_cons, this]
theorem mapA_emb (t : VT) (l : List t.den) : mapA t.ofA (l.map t.emb) = some l := by
  induction l with
  | nil => rfl
  | cons y l ihl => simp only [List.map_cons, mapA, ofA_emb, ihl]

theorem dec_decA {a : AT} {x : T1} {d : a.den} (h : a.dec x = some d) : a.decA (x.emb []) = some d := by
  cases a with
  | v t =>
    have := ofT1_emb [] h
    show t.ofA (x.emb []) = some (show t.den from d)
    rw [← this]; exact ofA_emb t d
  | l e t =>
    simp only [AT.dec] at h
    split at h
    · cases h; rfl
    · cases h; rfl
    · rename_i e' t' y
      split at h
      · rename_i he
        split at h
        · rename_i ht
          subst he; subst ht
          cases h
          cases y with
          | nil => rfl
          | cap0 => rfl
          | mk l =>
            show AT.decA (.l e' t') (.sl e' (l.map t'.emb)) = some l
            simp only [AT.decA, if_true, mapA_emb]
        · cases h
      · cases h
    · cases h
theorem decs_decsA : ∀ {l : List AT} {xs : List T1} {d : dens l}, decs l xs = some d → decsA l (xs.map (T1.emb [])) = some d
  | [], [], d, h => h
  | a :: r, x :: xs, d, h => by
    simp only [decs] at h
    split at h
    · rename_i d1 ds h1 h2
      simp only [List.map_cons, decsA, dec_decA h1, decs_decsA h2]; exact h
    · cases h

theorem headA_inv {α : Type} {f : AV → Option α} {l r : List AV} {x : α} (h : headA f l = some (x, r)) : ∃ c, l = c :: r ∧ f c = some x := by
  cases l with
  | nil => cases h
  | cons c l =>
    simp only [headA] at h
    split at h
    · rename_i a ha
      simp only [Option.some.injEq, Prod.mk.injEq] at h
      obtain ⟨rfl, rfl⟩ := h
      exact ⟨c, rfl, ha⟩
    · cases h

theorem ofAs_inv (t : VT) : ∀ (l r : List AV) (x : t.den), t.ofAs l = some (x, r) → l = t.cells x ++ r := by
  induction t with
  | pair a b ha hb =>
    intro l r x h
    simp only [VT.ofAs] at h
    split at h
    · rename_i x1 r1 h1
      split at h
      · rename_i y r2 h2
        simp only [Option.some.injEq, Prod.mk.injEq] at h
        obtain ⟨rfl, rfl⟩ := h
        rw [ha _ _ _ h1, hb _ _ _ h2]
        simp [VT.cells]
      · cases h
    · cases h
  | unit =>
    intro l r x h
    simp only [VT.ofAs, Option.some.injEq, Prod.mk.injEq] at h
    obtain ⟨rfl, rfl⟩ := h; rfl
  | slc e t ih =>
    intro l r x h
    obtain ⟨c, rfl, hc⟩ := headA_inv h
    have one : ∀ y d, oneA t.isAgg t.ofAs y = some d → y = t.emb d := by
      intro y d hy
      unfold VT.emb embOf
      unfold oneA at hy
      split at hy
      · rename_i cs hag
        split at hy
        · rename_i a ha
          simp only [Option.some.injEq] at hy; subst hy
          have := ih _ _ _ ha
          rw [List.append_nil] at this
          rw [this, hag]
        · cases hy
      · cases hy
      · rename_i hag
        split at hy
        · rename_i a ha
          simp only [Option.some.injEq] at hy; subst hy
          have := ih _ _ _ ha
          rw [List.append_nil] at this
          rw [hag, ← this]; rfl
        · cases hy
    have all : ∀ (xs : List AV) (l : List t.den), mapA (oneA t.isAgg t.ofAs) xs = some l → xs = l.map t.emb := by
      intro xs
      induction xs with
      | nil => intro l h; simp only [mapA, Option.some.injEq] at h; subst h; rfl
      | cons y xs ihx =>
        intro l h
        simp only [mapA] at h
        split at h
        · rename_i d ds h1 h2
          simp only [Option.some.injEq] at h; subst h
          rw [one _ _ h1, ihx _ h2]; rfl
        · cases h
    split at hc
    · cases hc; rfl
    · cases hc; rfl
    · split at hc
      · rename_i he
        subst he
        obtain ⟨l', hl, rfl⟩ := Option.map_eq_some_iff.1 hc
        rw [all _ _ hl]; rfl
      · cases hc
    · cases hc
  | _ =>
    intro l r x h
    obtain ⟨c, rfl, hc⟩ := headA_inv h
    split at hc
    · first
      | (split at hc
         · rename_i hk; subst hk; cases hc; rfl
         · cases hc)
      | (cases hc; rfl)
    · cases hc
theorem ofA_inv {t : VT} {x : AV} {d : t.den} (h : t.ofA x = some d) : x = t.emb d := by
  unfold VT.ofA oneA at h
  unfold VT.emb embOf
  split at h
  · rename_i cs hag
    split at h
    · rename_i a ha
      simp only [Option.some.injEq] at h; subst h
      have := ofAs_inv _ _ _ _ ha
      rw [List.append_nil] at this
      rw [this, hag]
    · cases h
  · cases h
  · rename_i hag
    split at h
    · rename_i a ha
      simp only [Option.some.injEq] at h; subst h
      have := ofAs_inv _ _ _ _ ha
      rw [List.append_nil] at this
      rw [hag, ← this]; rfl
    · cases h
theorem mapA_inv {t : VT} : ∀ {xs : List AV} {l : List t.den}, mapA t.ofA xs = some l → xs = l.map t.emb
  | [], l, h => by simp only [mapA, Option.some.injEq] at h; subst h; rfl
  | y :: xs, l, h => by
    simp only [mapA] at h
    split at h
    · rename_i d ds h1 h2
      simp only [Option.some.injEq] at h; subst h
      rw [ofA_inv h1, mapA_inv h2]; rfl
    · cases h

section
variable {P : Program} {w : World} {g : Gh}

/-- An argument stands for what it is told to be. -/
theorem decA_rep {a : AT} {x : AV} {d : a.den} {v : Value} {S : List Store} (hc : ∀ e t, a = .l e t → 0 < P.cellsOf e) (h : a.decA x = some d) (hv : HRep P w g S x v) : HRep P w g S ((a.t1 d).emb []) v := by
  cases a with
  | v t =>
    have := ofA_inv h
    show HRep P w g S ((t.t1 d).emb []) v
    have h2 : (t.t1 d).emb [] = x := (t1_emb t d []).trans this.symm
    rw [h2]; exact hv
  | l e t =>
    have hc := hc e t rfl
    simp only [AT.decA] at h
    split at h
    · cases h
      have hv : Rep P w g.M .nils v := hv
      show Rep P w g.M (.sl e []) v
      cases hv
      exact .sl (us := []) rfl rfl (Nat.le_refl _) (by unfold maxLen; omega) hc (fun i x u h => by simp at h) (fun u h => by simp at h) (fun h => absurd rfl h)
    · cases h
      have hv : Rep P w g.M .cap0 v := hv
      show Rep P w g.M (.sl e []) v
      cases hv
      exact .sl (us := []) rfl rfl (Nat.le_refl _) (by unfold maxLen; omega) hc (fun i x u h => by simp at h) (fun u h => by simp at h) (fun h => absurd rfl h)
    · split at h
      · rename_i he
        subst he
        have := mapA_inv h
        show HRep P w g S (.sl _ (List.map t.emb d)) v
        rw [← this]; exact hv
      · cases h
    · cases h

theorem decsA_rep {S : List Store} : ∀ {l : List AT} {as : List AV} {d : dens l}, (∀ e t, AT.l e t ∈ l → 0 < P.cellsOf e) → decsA l as = some d → ((t1s l d).map (T1.emb [])).length = as.length ∧ ∀ (i : Nat) (x y : AV) (v : Value), as[i]? = some x → ((t1s l d).map (T1.emb []))[i]? = some y → HRep P w g S x v → HRep P w g S y v
  | [], [], d, _, h => ⟨rfl, fun i x y v hx => by simp at hx⟩
  | a :: r, z :: zs, d, hc, h => by
    simp only [decsA] at h
    split at h
    · rename_i d1 ds h1 h2
      cases h
      obtain ⟨q1, q2⟩ := decsA_rep (fun e t hm => hc e t (List.mem_cons_of_mem _ hm)) h2
      refine ⟨by simpa [t1s] using q1, fun i x y v hx hy hv => ?_⟩
      cases i with
      | zero =>
        simp only [List.getElem?_cons_zero, Option.some.injEq] at hx
        subst hx
        simp only [t1s, List.map_cons, List.getElem?_cons_zero, Option.some.injEq] at hy
        subst hy
        exact decA_rep (fun e t he => hc e t (by rw [he]; exact List.mem_cons_self)) h1 hv
      | succ i =>
        simp only [t1s, List.map_cons, List.getElem?_cons_succ] at hx hy
        exact q2 i x y v hx hy hv
    · cases h
end

theorem t1_noH (t : VT) (x : t.den) : (t.t1 x).noH = true := by
  unfold VT.t1
  cases h : t.isAgg with
  | true => exact List.all_eq_true.2 fun c hc => tc_val t x c hc
  | false =>
    show TC.isVal _ = true
    cases hl : t.tc x with
    | nil =>
      have := cells_length t x
      obtain ⟨c, hc, _⟩ := cells_one h x
      rw [hc, hl] at this; simp at this
    | cons a r => exact tc_val t x a (by rw [hl]; exact List.mem_cons_self)
theorem t1s_noH : ∀ (l : List AT) (d : dens l) (a : T1), a ∈ t1s l d → a.noH = true
  | [], d, a, h => by cases h
  | x :: r, d, a, h => by
    rcases List.mem_cons.1 h with rfl | h
    · cases x with
      | v t => exact t1_noH t _
      | l e t => rfl
    · exact t1s_noH r _ a h

/-- **A contract**: what a function answers, where that may be asked. -/
structure TCtr where
  f : FuncId
  sig : List AT
  pre : dens sig → Prop
  out : dens sig → TV
  /-- by cases, where the answer's form hangs on the argument -/
  outK : dens sig → (TV → Prop) → Prop
  outK_ok : ∀ d K, outK d K → K (out d)
  outOk : ∀ d, (out d).outOk = true

def TCtr.det (f : FuncId) (sig : List AT) (pre : dens sig → Prop) (out : dens sig → TV) (h : ∀ d, (out d).outOk = true) : TCtr :=
  { f, sig, pre, out, outK := fun d K => K (out d), outK_ok := fun _ _ h => h, outOk := h }

def findC : List TCtr → FuncId → Option TCtr
  | [], _ => none
  | c :: r, f => if c.f = f then some c else findC r f
theorem findC_mem {L : List TCtr} {f : FuncId} {c : TCtr} (h : findC L f = some c) : c ∈ L ∧ c.f = f := by
  induction L with
  | nil => cases h
  | cons a r ih =>
    simp only [findC] at h
    split at h
    · rename_i he
      simp only [Option.some.injEq] at h; subst h
      exact ⟨List.mem_cons_self, he⟩
    · exact ⟨List.mem_cons_of_mem _ (ih h).1, (ih h).2⟩

def soloK (o : Oper) : Bool :=
  match o.op with
  | .store .. | .alloc .. | .box .. | .buildSlice .. | .makeSlice .. => true
  | .call c => match c.callee with
    | .builtin .append | .builtin .copy | .builtin .clear => true
    | _ => false
  | _ => false

open Classical in
noncomputable def envL (L : List TCtr) : Env where
  Φ := fun _ => none
  Γ := fun f as => match findC L f with
    | some c => match decsA c.sig as with
      | some d => if c.pre d then some ((c.out d).emb []) else none
      | none => none
    | none => none
  lend := fun _ _ => false
  solo := soloK
  ok := fun ops => drawM soloK ops

def knownL (L : List TCtr) (blk lab : Nat → Option Piece) : Known where
  solo := soloK
  ok := fun ops => drawM soloK ops
  G := fun f as K => match findC L f with
    | some c => match decs c.sig as with
      | some d => c.pre d ∧ c.outK d K
      | none => False
    | none => False
  blk := blk
  lab := lab

/-- A contract that holds. -/
structure GoodC (P : Program) (c : TCtr) : Prop where
  there : ∃ fn cd, P.funcs[c.f]? = some fn ∧ fn.body = some cd ∧ (fn.name == "runtime.NumGoroutine") = false
  cells : ∀ e t, AT.l e t ∈ c.sig → 0 < P.cellsOf e
  call : ∀ d, c.pre d → ∀ S, CallC P c.f ((t1s c.sig d).map (T1.emb [])) S S ((c.out d).emb [])
def Goods (P : Program) (L : List TCtr) : Prop := ∀ c, c ∈ L → GoodC P c
theorem Goods.nil {P : Program} : Goods P [] := fun c h => by cases h
theorem Goods.cons {P : Program} {c : TCtr} {L : List TCtr} (h : GoodC P c) (k : Goods P L) : Goods P (c :: L) := fun x hx => by
  rcases List.mem_cons.1 hx with rfl | hx
  · exact h
  · exact k x hx

theorem CallC.args {P : Program} {f : FuncId} {as bs : List AV} {S : List Store} {r : AV} (h : CallC P f bs S S r) (hl : bs.length = as.length)
    (hr : ∀ (w : World) (g : Gh) (S : List Store) (i : Nat) (x y : AV) (v : Value), as[i]? = some x → bs[i]? = some y → HRep P w g S x v → HRep P w g S y v) : CallC P f as S S r := by
  intro may w g vs hi hm hlen hargs
  refine h may w g vs hi hm (by omega) fun i y v hy hv => ?_
  have hlt : i < as.length := by
    have := (List.getElem?_eq_some_iff.1 hy).1; omega
  exact hr w g.push ([] :: S) i as[i] y v (List.getElem?_eq_getElem hlt) hy (hargs i as[i] v (List.getElem?_eq_getElem hlt) hv)

theorem knownL_ok {P : Program} {L : List TCtr} (hw : P.follows .mixedOrders = true) (hL : Goods P L) (blk lab : Nat → Option Piece) : KnownOk P (envL L) (knownL L blk lab) where
  env := {
    fn := fun f fn h => by cases h
    ga := fun f as r h => by
      simp only [envL] at h
      split at h
      · rename_i c hc
        split at h
        · rename_i d hd
          split at h
          · rename_i hp
            simp only [Option.some.injEq] at h; subst h
            obtain ⟨hm, rfl⟩ := findC_mem hc
            have hg := hL c hm
            refine ⟨hg.there, fun S => ?_⟩
            exact (hg.call d hp S).args (decsA_rep (P := P) (w := default) (g := ⟨fun _ _ => False, fun _ _ => 0, fun _ _ => 0⟩) (S := []) hg.cells hd).1 fun w g S' i x y v hx hy hv => (decsA_rep (P := P) (w := w) (g := g) (S := S') hg.cells hd).2 i x y v hx hy hv
          · cases h
        · cases h
      · cases h
    wide := hw
    draw := fun ops h rec s s1 t hr => draw_okM (E := envL L) h rec s s1 t hr }
  lend := fun _ _ => rfl
  ctr := fun f args K h hn => by
    simp only [knownL] at h
    split at h
    · rename_i c hc
      split at h
      · rename_i d hd
        refine ⟨c.out d, ?_, c.outOk d, c.outK_ok d K h.2⟩
        simp only [envL, hc, decs_decsA hd, if_pos h.1]
      · exact h.elim
    · exact h.elim
  solo := rfl
  draw := fun ops h => h

/-- **The way to a good contract**: the body's run, with what is known of its loops and callees. -/
theorem good_of {P : Program} {L : List TCtr} {blk lab : Nat → Option Piece} (hw : P.follows .mixedOrders = true) (hL : Goods P L) {c : TCtr} {fn : Func} {cd : Code} (hf : P.funcs[c.f]? = some fn) (hb : fn.body = some cd) (hname : (fn.name == "runtime.NumGoroutine") = false)
    (hc : ∀ e t, AT.l e t ∈ c.sig → 0 < P.cellsOf e) (hLam : LamOk P (knownL L blk lab) cd) (run : ∀ d, c.pre d → wpFn P (knownL L blk lab) fn (t1s c.sig d) (fun x => x = c.out d)) : GoodC P c where
  there := ⟨fn, cd, hf, hb, hname⟩
  cells := hc
  call := fun d hp S => fn_call (knownL_ok hw hL blk lab) hf hb hLam (fun a ha => t1s_noH c.sig d a ha) (run d hp) S
end Go.AbsM
