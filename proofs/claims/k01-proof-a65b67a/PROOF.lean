import PyProof.Rows.All
import HandS.ForMost
import HandS.TupAny
import HandS.Flow
import HandS.IsInst
import HandS.Wide
import HandS.Walk
import HandS.Zip
import HandS.Deep
import KE.LtData
import HandS.ListItems
import HandS.DictComp
import HandS.Words
import HandS.Text
import PySem.Challenge.RW_unlikekeys_k01_worlds_as_they_were_made
import HandS.Star
import KE.SortData
import HandS.Sort
import KE.GoesEnum
import HandS.Strs
import HandS.SetKeys
import HandS.OwnEq
import HandS.Style
import HandS.Ends
import HandS.TupSets
import KE.KeyNested
set_option Elab.async false
set_option linter.all false
set_option maxRecDepth 100000
/-! Values without a heap over the hand layer: W, the cells that change (M), judgements by what is wanted behind. -/
namespace Dv
open PySem L2

/-- a value: plain data with tuples, and references (lists, dicts, instances, the script) -/
inductive W where
  | non | bl (b : Bool) | int (i : Int) | str (x : Str) | tup (ws : List W) | m (a : Addr)
/-- what a cell holds -/
inductive C where
  | lst (ws : List W)
  | dic (kvs : List (Key × W))
  | ins (Cl : Addr) (fs : List (Str × W))
abbrev Mu := Addr → Option C
def setM (mu : Mu) (a : Addr) (c : C) : Mu := fun b => if b = a then some c else mu b
theorem setM_same {mu : Mu} {a : Addr} {c : C} : setM mu a c a = some c := by unfold setM; rw [if_pos rfl]
theorem setM_ne {mu : Mu} {a b : Addr} {c : C} (h : b ≠ a) : setM mu a c b = mu b := by unfold setM; rw [if_neg h]
theorem setM_set {mu : Mu} {a : Addr} {c d : C} : setM (setM mu a c) a d = setM mu a d := by
  funext b; unfold setM; split <;> rfl

section
variable (K : PySem.W.Frag) (H : Hp)
mutual
def Den : W → V → Prop
  | .non, v => v = .non
  | .bl b, v => v = .bl b
  | .int i, v => v = .int i
  | .str x, v => v = .str x
  | .m a, v => v = .ref a
  | .tup ws, v => ∃ a xs, v = .ref a ∧ SqT K H a xs ∧ DenAll ws xs
def DenAll : List W → List V → Prop
  | [], xs => xs = []
  | w :: ws, xs => ∃ v vs, xs = v :: vs ∧ Den w v ∧ DenAll ws vs
end
def CellOk (a : Addr) : C → Prop
  | .lst ws => ∃ xs, H a = some (.lst xs) ∧ DenAll K H ws xs
  | .dic kvs => ∃ vs, H a = some (.dK vs) ∧ kvs.map (·.1) = vs.map (·.1) ∧ DenAll K H (kvs.map (·.2)) (vs.map (·.2))
  | .ins Cl fs => ∃ dx vs, H a = some (.ins Cl dx vs) ∧ fs.map (·.1) = vs.map (·.1) ∧ DenAll K H (fs.map (·.2)) (vs.map (·.2))
def HM (mu : Mu) : Prop := ∀ a c, mu a = some c → CellOk K H a c
def DenG (G : List (Option W)) (σ : St) : Prop := G.length = σ.length ∧ ∀ (i : Nat) (w : W), G[i]? = some (some w) → ∃ v, σ[i]? = some (some v) ∧ Den K H w v
end

section
variable {K : PySem.W.Frag} {H H' H'' : Hp} {mu mu' mu'' : Mu}
mutual
theorem Den.mono (h : ∀ a xs, SqT K H a xs → SqT K H' a xs) : ∀ (w : W) {v : V}, Den K H w v → Den K H' w v
  | .non, _, e => e
  | .bl _, _, e => e
  | .int _, _, e => e
  | .str _, _, e => e
  | .m _, _, e => e
  | .tup ws, _, ⟨a, xs, e, s, d⟩ => ⟨a, xs, e, h a xs s, DenAll.mono h ws d⟩
theorem DenAll.mono (h : ∀ a xs, SqT K H a xs → SqT K H' a xs) : ∀ (ws : List W) {vs : List V}, DenAll K H ws vs → DenAll K H' ws vs
  | [], _, e => e
  | w :: ws, _, ⟨v, vs, e, d, r⟩ => ⟨v, vs, e, Den.mono h w d, DenAll.mono h ws r⟩
end
theorem DenAll.length : ∀ {ws : List W} {vs : List V}, DenAll K H ws vs → ws.length = vs.length
  | [], _, e => by have e : _ = _ := e; subst e; rfl
  | w :: ws, _, ⟨v, vs, e, d, r⟩ => by subst e; simp [DenAll.length r]
theorem DenAll.get : ∀ {ws : List W} {vs : List V} {i : Nat} {v : V}, DenAll K H ws vs → vs[i]? = some v → ∃ w, ws[i]? = some w ∧ Den K H w v
  | [], _, i, v, e, h => by have e : _ = _ := e; subst e; simp at h
  | w :: ws, _, 0, v, ⟨v', vs, e, d, r⟩, h => by subst e; simp at h; subst h; exact ⟨w, rfl, d⟩
  | w :: ws, _, i + 1, v, ⟨v', vs, e, d, r⟩, h => by
    subst e
    obtain ⟨w', h1, h2⟩ := DenAll.get (i := i) (v := v) r (by simpa using h)
    exact ⟨w', by simpa using h1, h2⟩
theorem DenAll.get' : ∀ {ws : List W} {vs : List V} {i : Nat} {w : W}, DenAll K H ws vs → ws[i]? = some w → ∃ v, vs[i]? = some v ∧ Den K H w v
  | [], _, i, v, e, h => by simp at h
  | w :: ws, _, 0, v, ⟨v', vs, e, d, r⟩, h => by subst e; simp at h; subst h; exact ⟨v', rfl, d⟩
  | w :: ws, _, i + 1, v, ⟨v', vs, e, d, r⟩, h => by
    subst e
    obtain ⟨w', h1, h2⟩ := DenAll.get' (i := i) (w := v) r (by simpa using h)
    exact ⟨w', by simpa using h1, h2⟩
theorem DenAll.append : ∀ {ws ws' : List W} {vs vs' : List V}, DenAll K H ws vs → DenAll K H ws' vs' → DenAll K H (ws ++ ws') (vs ++ vs')
  | [], _, _, _, e, r => by have e : _ = _ := e; subst e; exact r
  | w :: ws, _, _, _, ⟨v, vs, e, d, r⟩, r' => by subst e; exact ⟨v, _, rfl, d, DenAll.append r r'⟩
theorem DenAll.take : ∀ {ws : List W} {vs : List V} (n : Nat), DenAll K H ws vs → DenAll K H (ws.take n) (vs.take n)
  | _, _, 0, _ => by simp [DenAll]
  | [], _, n + 1, e => by have e : _ = _ := e; subst e; simp [DenAll]
  | w :: ws, _, n + 1, ⟨v, vs, e, d, r⟩ => by subst e; exact ⟨v, _, rfl, d, DenAll.take n r⟩
theorem DenAll.drop : ∀ {ws : List W} {vs : List V} (n : Nat), DenAll K H ws vs → DenAll K H (ws.drop n) (vs.drop n)
  | _, _, 0, r => r
  | [], _, n + 1, e => by have e : _ = _ := e; subst e; simp [DenAll]
  | w :: ws, _, n + 1, ⟨v, vs, e, d, r⟩ => by subst e; exact DenAll.drop n r
theorem DenAll.reverse : ∀ {ws : List W} {vs : List V}, DenAll K H ws vs → DenAll K H ws.reverse vs.reverse
  | [], _, e => by have e : _ = _ := e; subst e; rfl
  | w :: ws, _, ⟨v, vs, e, d, r⟩ => by
    subst e
    rw [List.reverse_cons, List.reverse_cons]
    exact DenAll.append (DenAll.reverse r) ⟨v, [], rfl, d, rfl⟩
theorem DenAll.set : ∀ {ws : List W} {vs : List V} (i : Nat) {w : W} {v : V}, DenAll K H ws vs → Den K H w v → DenAll K H (ws.set i w) (vs.set i v)
  | [], _, i, _, _, e, _ => by have e : _ = _ := e; subst e; simp [DenAll]
  | w :: ws, _, 0, _, _, ⟨v, vs, e, d, r⟩, q => by subst e; exact ⟨_, _, rfl, q, r⟩
  | w :: ws, _, i + 1, _, _, ⟨v, vs, e, d, r⟩, q => by subst e; exact ⟨_, _, rfl, d, DenAll.set i r q⟩
theorem DenAll.nil_iff {vs : List V} (d : DenAll K H [] vs) : vs = [] := d

structure Chg (mu : Mu) (H : Hp) (mu' : Mu) (H' : Hp) : Prop where
  keep : ∀ b o, H b = some o → mu b = none → H' b = some o
  old : ∀ b c, mu b = some c → ∃ c', mu' b = some c'
  new : ∀ b o, H b = some o → mu b = none → mu' b = none
theorem Chg.refl : Chg mu H mu H := ⟨fun _ _ h _ => h, fun _ c h => ⟨c, h⟩, fun _ _ _ h => h⟩
theorem Chg.trans (a : Chg mu H mu' H') (b : Chg mu' H' mu'' H'') : Chg mu H mu'' H'' :=
  ⟨fun c o h n => b.keep c o (a.keep c o h n) (a.new c o h n), fun c d h => let ⟨d', e⟩ := a.old c d h; b.old c d' e, fun c o h n => b.new c o (a.keep c o h n) (a.new c o h n)⟩
theorem HM.notup (hm : HM K H mu) {a : Addr} {xs : List V} (h : H a = some (.tup xs)) : mu a = none := by
  cases e : mu a with
  | none => rfl
  | some c =>
    have := hm a c e
    cases c with
    | lst ws => obtain ⟨xs', q, _⟩ := this; rw [h] at q; cases q
    | dic ws => obtain ⟨xs', q, _⟩ := this; rw [h] at q; cases q
    | ins Cl ws => obtain ⟨dx, xs', q, _⟩ := this; rw [h] at q; cases q
theorem HM.nofrz (hm : HM K H mu) {a : Addr} {o : Obj} {u : HO} (h : H a = some (.frz o u)) : mu a = none := by
  cases e : mu a with
  | none => rfl
  | some c =>
    have := hm a c e
    cases c with
    | lst ws => obtain ⟨xs', q, _⟩ := this; rw [h] at q; cases q
    | dic ws => obtain ⟨xs', q, _⟩ := this; rw [h] at q; cases q
    | ins Cl ws => obtain ⟨dx, xs', q, _⟩ := this; rw [h] at q; cases q
theorem Chg.sqt (c : Chg mu H mu' H') (hm : HM K H mu) : ∀ a xs, SqT K H a xs → SqT K H' a xs := fun a xs h => by
  rcases h with (h | ⟨o, h⟩) | h
  · exact .inl (.inl (c.keep _ _ h (hm.notup h)))
  · exact .inl (.inr ⟨o, c.keep _ _ h (hm.nofrz h)⟩)
  · exact .inr h
theorem Chg.den (c : Chg mu H mu' H') (hm : HM K H mu) {w : W} {v : V} (d : Den K H w v) : Den K H' w v := Den.mono (c.sqt hm) w d
theorem Chg.denAll (c : Chg mu H mu' H') (hm : HM K H mu) {w : List W} {v : List V} (d : DenAll K H w v) : DenAll K H' w v := DenAll.mono (c.sqt hm) w d
theorem Chg.denG (c : Chg mu H mu' H') (hm : HM K H mu) {G : List (Option W)} {σ : St} (d : DenG K H G σ) : DenG K H' G σ :=
  ⟨d.1, fun i w h => let ⟨v, e, q⟩ := d.2 i w h; ⟨v, e, c.den hm q⟩⟩
theorem HM.dom (hm : HM K H mu) {a : Addr} (h : H a = none) : mu a = none := by
  cases e : mu a with
  | none => rfl
  | some c =>
    have := hm a c e
    cases c with
    | lst ws => obtain ⟨xs', q, _⟩ := this; rw [h] at q; cases q
    | dic ws => obtain ⟨xs', q, _⟩ := this; rw [h] at q; cases q
    | ins Cl ws => obtain ⟨dx, xs', q, _⟩ := this; rw [h] at q; cases q
theorem HM.some (hm : HM K H mu) {a : Addr} {c : C} (h : mu a = some c) : ∃ o, H a = some o := by
  have := hm a c h
  cases c with
  | lst ws => obtain ⟨xs', q, _⟩ := this; exact ⟨_, q⟩
  | dic ws => obtain ⟨xs', q, _⟩ := this; exact ⟨_, q⟩
  | ins Cl ws => obtain ⟨dx, xs', q, _⟩ := this; exact ⟨_, q⟩
theorem CellOk.mono (h : ∀ a xs, SqT K H a xs → SqT K H' a xs) {a : Addr} {c : C} (hc : CellOk K H a c) (e : H' a = H a) : CellOk K H' a c := by
  cases c with
  | lst ws => obtain ⟨xs, q, d⟩ := hc; exact ⟨xs, e.trans q, DenAll.mono h _ d⟩
  | dic ws => obtain ⟨xs, q, k, d⟩ := hc; exact ⟨xs, e.trans q, k, DenAll.mono h _ d⟩
  | ins Cl ws => obtain ⟨dx, xs, q, k, d⟩ := hc; exact ⟨dx, xs, e.trans q, k, DenAll.mono h _ d⟩
/-- a new untracked-so-far address gets an object that is no cell (a tuple) -/
theorem laid {o : HO} {p : Addr} (hm : HM K H mu) (hp : H p = none) : Chg mu H mu (upd H p o) ∧ HM K (upd H p o) mu := by
  have c : Chg mu H mu (upd H p o) := ⟨fun b o' h _ => by rw [upd_ne (ne_of_none h hp)]; exact h, fun b c h => ⟨c, h⟩, fun _ _ _ h => h⟩
  refine ⟨c, fun a d h => CellOk.mono (c.sqt hm) (hm a d h) ?_⟩
  obtain ⟨o', q⟩ := hm.some h
  rw [upd_ne (ne_of_none q hp)]
/-- a new cell -/
theorem laidC {o : HO} {p : Addr} {c : C} (hm : HM K H mu) (hp : H p = none) (hc : ∀ H', (∀ a xs, SqT K H a xs → SqT K H' a xs) → H' p = some o → CellOk K H' p c) : Chg mu H (setM mu p c) (upd H p o) ∧ HM K (upd H p o) (setM mu p c) := by
  have c1 : Chg mu H (setM mu p c) (upd H p o) := ⟨fun b o' h _ => by rw [upd_ne (ne_of_none h hp)]; exact h,
    fun b d h => by
      by_cases e : b = p
      · subst e; exact ⟨_, setM_same⟩
      · exact ⟨d, by rw [setM_ne e]; exact h⟩, fun b o' h n => by rw [setM_ne (ne_of_none h hp)]; exact n⟩
  refine ⟨c1, fun a d h => ?_⟩
  by_cases e : a = p
  · subst e
    rw [setM_same] at h
    cases h
    exact hc _ (c1.sqt hm) upd_same
  · rw [setM_ne e] at h
    exact CellOk.mono (c1.sqt hm) (hm a d h) (upd_ne e)
/-- a cell is written -/
theorem wrote {o : HO} {p : Addr} {c c0 : C} (hm : HM K H mu) (hp : mu p = some c0) (hc : ∀ H', (∀ a xs, SqT K H a xs → SqT K H' a xs) → H' p = some o → CellOk K H' p c) : Chg mu H (setM mu p c) (upd H p o) ∧ HM K (upd H p o) (setM mu p c) := by
  have ne : ∀ b, mu b = none → b ≠ p := fun b n z => by subst z; rw [hp] at n; cases n
  have c1 : Chg mu H (setM mu p c) (upd H p o) := ⟨fun b o' h n => by rw [upd_ne (ne b n)]; exact h,
    fun b d h => by
      by_cases e : b = p
      · subst e; exact ⟨_, setM_same⟩
      · exact ⟨d, by rw [setM_ne e]; exact h⟩, fun b o' h n => by rw [setM_ne (ne b n)]; exact n⟩
  refine ⟨c1, fun a d h => ?_⟩
  by_cases e : a = p
  · subst e
    rw [setM_same] at h
    cases h
    exact hc _ (c1.sqt hm) upd_same
  · rw [setM_ne e] at h
    exact CellOk.mono (c1.sqt hm) (hm a d h) (upd_ne e)
end

/-! ### the judgements -/
abbrev Gs := List (Option W)
abbrev PW1 := W → Mu → Prop
def Kont (K : PySem.W.Frag) (mu : Mu) (H : Hp) (Post : PW1) (Q : VK) : Prop := ∀ v w mu' H', Post w mu' → Chg mu H mu' H' → Den K H' w v → HM K H' mu' → Q v H'
def KontB (K : PySem.W.Frag) (mu : Mu) (H : Hp) (Post : Bool → Mu → Prop) (Q : Bool → Hp → Prop) : Prop := ∀ b mu' H', Post b mu' → Chg mu H mu' H' → HM K H' mu' → Q b H'
def KontA (K : PySem.W.Frag) (mu : Mu) (H : Hp) (Post : List W → Mu → Prop) (Q : List V → Hp → Prop) : Prop := ∀ vs ws mu' H', Post ws mu' → Chg mu H mu' H' → DenAll K H' ws vs → HM K H' mu' → Q vs H'
structure WE where
  nx : Gs → Mu → Prop
  rt : PW1
  bk : Gs → Mu → Prop := fun _ _ => False
  ct : Gs → Mu → Prop := fun _ _ => False
def KontG (K : PySem.W.Frag) (mu : Mu) (H : Hp) (Post : Gs → Mu → Prop) (Q : St → Hp → Prop) : Prop := ∀ σ G mu' H', Post G mu' → Chg mu H mu' H' → DenG K H' G σ → HM K H' mu' → Q σ H'
structure KontS (K : PySem.W.Frag) (mu : Mu) (H : Hp) (E : WE) (D : Ends) : Prop where
  nx : KontG K mu H E.nx D.nx
  rt : Kont K mu H E.rt D.rt
  bk : KontG K mu H E.bk D.bk
  ct : KontG K mu H E.ct D.ct

section
variable (X : Cx)
def tE (e : Expr) : TE := fun σ H Q => ∀ pins s, Inv X pins σ H s → wpAny (model X.prog X.w) X.A (eval e X.env) (EP X pins σ Q) X.xe s
def tT (e : Expr) : TT := fun σ H Q => ∀ pins s, Inv X pins σ H s → wpAny (model X.prog X.w) X.A (isTrue e X.env (eval e X.env)) (TP X pins σ Q) X.xe s
def tA (es : List Expr) : TA := fun σ H Q => ∀ pos pins s, Inv X pins σ H s → wpAny (model X.prog X.w) X.A (spliced (backTo pos (starEach es X.env))) (AP X pins σ Q) X.xe s
def tS (st : Stmt) : TS := fun D σ H => ∀ pins s, Inv X pins σ H s → wpAny (model X.prog X.w) X.A (exec st X.env) (SP X pins D) X.xe s
def tSs (st : List Stmt) : TS := fun D σ H => ∀ pins s, Inv X pins σ H s → wpAny (model X.prog X.w) X.A (execs st X.env) (SP X pins D) X.xe s
def SE (e : Expr) (G : Gs) (mu : Mu) (Post : PW1) : Prop := ∀ σ H Q, DenG X.K H G σ → HM X.K H mu → Kont X.K mu H Post Q → tE X e σ H Q
def ST (e : Expr) (G : Gs) (mu : Mu) (Post : Bool → Mu → Prop) : Prop := ∀ σ H Q, DenG X.K H G σ → HM X.K H mu → KontB X.K mu H Post Q → tT X e σ H Q
def SA (es : List Expr) (G : Gs) (mu : Mu) (Post : List W → Mu → Prop) : Prop := ∀ σ H Q, DenG X.K H G σ → HM X.K H mu → KontA X.K mu H Post Q → tA X es σ H Q
def SS (st : Stmt) (G : Gs) (mu : Mu) (E : WE) : Prop := ∀ σ H D, DenG X.K H G σ → HM X.K H mu → KontS X.K mu H E D → tS X st D σ H
def SSs (st : List Stmt) (G : Gs) (mu : Mu) (E : WE) : Prop := ∀ σ H D, DenG X.K H G σ → HM X.K H mu → KontS X.K mu H E D → tSs X st D σ H
end
section
variable {X : Cx} {e a b : Expr} {es : List Expr} {st : Stmt} {sts : List Stmt} {G : Gs} {mu mu' : Mu} {H H' : Hp} {σ : St} {K : PySem.W.Frag}
theorem peE : PE X e (tE X e) := ⟨fun pins s _ _ _ I h => h pins s I⟩
theorem ptT : PT X e (tT X e) := ⟨fun pins s _ _ _ I h => h pins s I⟩
theorem paA : PA X es (tA X es) := ⟨fun pos pins s _ _ _ I h => h pos pins s I⟩
theorem psS : PS X st (tS X st) := ⟨fun pins s _ _ _ I h => h pins s I⟩
theorem pssS : PSs X sts (tSs X sts) := ⟨fun pins s _ _ _ I h => h pins s I⟩
theorem SE.mk {t : TE} {Post : PW1} (p : PE X e t) (r : ∀ σ H Q, DenG X.K H G σ → HM X.K H mu → Kont X.K mu H Post Q → t σ H Q) : SE X e G mu Post := fun σ H Q d m k pins s I => p.run pins s σ H Q I (r σ H Q d m k)
theorem ST.mk {t : TT} {Post : Bool → Mu → Prop} (p : PT X e t) (r : ∀ σ H Q, DenG X.K H G σ → HM X.K H mu → KontB X.K mu H Post Q → t σ H Q) : ST X e G mu Post := fun σ H Q d m k pins s I => p.run pins s σ H Q I (r σ H Q d m k)
theorem SA.mk {t : TA} {Post : List W → Mu → Prop} (p : PA X es t) (r : ∀ σ H Q, DenG X.K H G σ → HM X.K H mu → KontA X.K mu H Post Q → t σ H Q) : SA X es G mu Post := fun σ H Q d m k pos pins s I => p.run pos pins s σ H Q I (r σ H Q d m k)
theorem SS.mk {t : TS} {E : WE} (p : PS X st t) (r : ∀ σ H D, DenG X.K H G σ → HM X.K H mu → KontS X.K mu H E D → t D σ H) : SS X st G mu E := fun σ H D d m k pins s I => p.run pins s σ H D I (r σ H D d m k)
theorem SSs.mk {t : TS} {E : WE} (p : PSs X sts t) (r : ∀ σ H D, DenG X.K H G σ → HM X.K H mu → KontS X.K mu H E D → t D σ H) : SSs X sts G mu E := fun σ H D d m k pins s I => p.run pins s σ H D I (r σ H D d m k)
theorem Kont.step {Post : PW1} {Q : VK} (k : Kont K mu H Post Q) (c : Chg mu H mu' H') : Kont K mu' H' Post Q := fun v w m2 H2 p c2 d m => k v w m2 H2 p (c.trans c2) d m
theorem KontB.step {Post : Bool → Mu → Prop} {Q : Bool → Hp → Prop} (k : KontB K mu H Post Q) (c : Chg mu H mu' H') : KontB K mu' H' Post Q := fun w m2 H2 p c2 m => k w m2 H2 p (c.trans c2) m
theorem KontA.step {Post : List W → Mu → Prop} {Q : List V → Hp → Prop} (k : KontA K mu H Post Q) (c : Chg mu H mu' H') : KontA K mu' H' Post Q := fun v w m2 H2 p c2 d m => k v w m2 H2 p (c.trans c2) d m
theorem KontG.step {Post : Gs → Mu → Prop} {Q : St → Hp → Prop} (k : KontG K mu H Post Q) (c : Chg mu H mu' H') : KontG K mu' H' Post Q := fun v w m2 H2 p c2 d m => k v w m2 H2 p (c.trans c2) d m
theorem KontS.step {E : WE} {D : Ends} (k : KontS K mu H E D) (c : Chg mu H mu' H') : KontS K mu' H' E D := ⟨k.nx.step c, k.rt.step c, k.bk.step c, k.ct.step c⟩
theorem Kont.now {Post : PW1} {Q : VK} (k : Kont K mu H Post Q) {w : W} {v : V} (p : Post w mu) (d : Den K H w v) (m : HM K H mu) : Q v H := k v w mu H p Chg.refl d m
/-- a part's end: what comes next, at the state behind it -/
theorem Kont.of {Post : PW1} {Q : VK} (f : ∀ v w mu' H', Post w mu' → Chg mu H mu' H' → Den K H' w v → HM K H' mu' → Q v H') : Kont K mu H Post Q := f
end
end Dv
set_option Elab.async false
set_option linter.all false
set_option maxRecDepth 100000
/-! Rules by values: names, constants, displays, operators, comparisons, tests, statements, loops. -/
namespace Dv
open PySem L2
section
variable {X : Cx} {e a b c : Expr} {es : List Expr} {st : Stmt} {sts : List Stmt} {G : Gs} {mu mu' : Mu} {pos : Pos} {P : PW1}

/-! ### atoms -/
theorem se_var {i : Nat} {x : Str} {w : W} (hG : G[i]? = some (some w)) (h : P w mu) (hN : X.N[i]? = some x := by rfl) (hv : Vis X.env.scope x := by first | exact Or.inl rfl | exact Or.inr (Or.inl rfl) | exact Or.inr (Or.inr rfl))
    (hd : (x == ("__debug__" : Str)) = false := by decide) (hcd : (x == ("__classdict__" : Str)) = false := by decide) : SE X (.Name x pos) G mu P :=
  SE.mk (pe_var hN hv hd hcd) fun σ H Q d m k => let ⟨v, e, q⟩ := d.2 i w hG; ⟨v, e, k.now h q m⟩
theorem se_int {i j} (h : P (.int i) mu) : SE X (.Constant (.int i) j pos) G mu P := SE.mk pe_int fun σ H Q d m k => k.now h rfl m
theorem se_bl {i j} (h : P (.bl i) mu) : SE X (.Constant (.bool i) j pos) G mu P := SE.mk pe_bl fun σ H Q d m k => k.now h rfl m
theorem se_non {j} (h : P .non mu) : SE X (.Constant .none j pos) G mu P := SE.mk pe_non fun σ H Q d m k => k.now h rfl m
theorem se_str {i j} (h : P (.str i) mu) : SE X (.Constant (.str i) j pos) G mu P := SE.mk pe_str fun σ H Q d m k => k.now h rfl m
/-- a module's constant -/
theorem se_glob {x : Str} {w : W} {v : V} {u : Value} (hm : X.mg x = some u) (r : RelV v u) (hw : ∀ K H, Den K H w v) (h : P w mu) (hg : Gl X x := by rfl) (hd : (x == ("__debug__" : Str)) = false := by decide) : SE X (.Name x pos) G mu P :=
  SE.mk (pe_glob hg hm r hd) fun σ H Q d m k => k.now h (hw _ _) m

/-! ### arguments, displays -/
theorem sa_nil {P : List W → Mu → Prop} (h : P [] mu) : SA X [] G mu P := SA.mk pa_nil fun σ H Q d m k => k [] [] mu H h Chg.refl rfl m
theorem sa_cons {P : List W → Mu → Prop} (h : SE X e G mu fun w mu1 => SA X es G mu1 fun ws mu2 => P (w :: ws) mu2) (hs : starEach (e :: es) X.env = (false, eval e X.env) :: starEach es X.env := by rfl) : SA X (e :: es) G mu P :=
  SA.mk (pa_cons peE paA hs) fun σ H Q d m k => h σ H _ d m fun v w mu1 H1 h1 c1 d1 m1 => h1 σ H1 _ (c1.denG m d) m1 fun vs ws mu2 H2 h2 c2 d2 m2 => k _ _ mu2 H2 h2 (c1.trans c2) ⟨v, vs, rfl, c2.den m1 d1, d2⟩ m2
theorem se_tup {x1} (h : SA X es G mu fun ws mu1 => ws.length ≤ sizeLine ∧ P (.tup ws) mu1) : SE X (.Tuple es x1 pos) G mu P :=
  SE.mk (pe_tup paA) fun σ H Q d m k => h σ H _ d m fun vs ws mu1 H1 ⟨hl, h1⟩ c1 d1 m1 => ⟨by rw [← d1.length]; exact hl, fun p hp => by
    obtain ⟨c2, m2⟩ := laid (o := .tup vs) m1 hp
    exact k _ _ mu1 _ h1 (c1.trans c2) ⟨p, vs, rfl, SqT.of upd_same, c2.denAll m1 d1⟩ m2⟩
theorem newLst {K : PySem.W.Frag} {H : Hp} {p : Addr} {vs : List V} {ws : List W} (d : DenAll K H ws vs) : ∀ H', (∀ a xs, SqT K H a xs → SqT K H' a xs) → H' p = some (.lst vs) → CellOk K H' p (.lst ws) := fun H' st h => ⟨vs, h, DenAll.mono st _ d⟩
theorem se_lst (h : SA X es G mu fun ws mu1 => ws.length ≤ sizeLine ∧ ∀ p, mu1 p = none → P (.m p) (setM mu1 p (.lst ws))) : SE X (.List es pos) G mu P :=
  SE.mk (pe_lst paA) fun σ H Q d m k => h σ H _ d m fun vs ws mu1 H1 ⟨hl, h1⟩ c1 d1 m1 => ⟨by rw [← d1.length]; exact hl, fun p hp => by
    obtain ⟨c2, m2⟩ := laidC (o := .lst vs) (c := .lst ws) m1 hp (newLst d1)
    exact k _ _ _ _ (h1 p (m1.dom hp)) (c1.trans c2) rfl m2⟩

/-! ### operators -/
theorem opr_or {f : Value → Value → Sem Value} {r1 r2 : R2} (h1 : OpR X f r1) (h2 : OpR X f r2) : OpR X f fun x y H Q => r1 x y H Q ∨ r2 x y H Q :=
  fun pins s σ H x y v u Q I rx ry h => h.elim (h1 pins s σ H x y v u Q I rx ry) (h2 pins s σ H x y v u Q I rx ry)
/-- a rule by values of a rule over the heap -/
def OpW (X : Cx) (r : R2) (f : W → W → Mu → PW1 → Prop) : Prop := ∀ w1 w2 x y mu H P Q, Den X.K H w1 x → Den X.K H w2 y → HM X.K H mu → f w1 w2 mu P → Kont X.K mu H P Q → r x y H Q
theorem se_bin {op : Operator} {r : R2} {f : W → W → Mu → PW1 → Prop} (ho : OpR X (binaryOp op) r) (hw : OpW X r f)
    (h : SE X a G mu fun w1 mu1 => SE X b G mu1 fun w2 mu2 => f w1 w2 mu2 P) : SE X (.BinOp a op b pos) G mu P :=
  SE.mk (pe_op ho peE peE) fun σ H Q d m k => h σ H _ d m fun x w1 mu1 H1 h1 c1 d1 m1 => h1 σ H1 _ (c1.denG m d) m1 fun y w2 mu2 H2 h2 c2 d2 m2 =>
    hw _ _ _ _ _ _ _ _ (c2.den m1 d1) d2 m2 h2 (k.step (c1.trans c2))
theorem se_cmp {op : CmpOp} {r : R2} {f : W → W → Mu → PW1 → Prop} (ho : OpR X (compareOp op) r) (hw : OpW X r f) (hb : behindInMarks op b = false)
    (h : SE X a G mu fun w1 mu1 => SE X b G mu1 fun w2 mu2 => f w1 w2 mu2 P) : SE X (.Compare a [op] [b] pos) G mu P :=
  SE.mk (pe_cmpR ho peE peE hb) fun σ H Q d m k => h σ H _ d m fun x w1 mu1 H1 h1 c1 d1 m1 => h1 σ H1 _ (c1.denG m d) m1 fun y w2 mu2 H2 h2 c2 d2 m2 =>
    hw _ _ _ _ _ _ _ _ (c2.den m1 d1) d2 m2 h2 (k.step (c1.trans c2))
/-- a bool as the end of a test -/
abbrev isB (P : Bool → Mu → Prop) : PW1 := fun w mu => match w with | .bl k => P k mu | _ => False
theorem isB_den {K : PySem.W.Frag} {H : Hp} {mu : Mu} {P : Bool → Mu → Prop} {w : W} {v : V} (h : isB P w mu) (d : Den K H w v) : ∃ k, w = .bl k ∧ v = .bl k ∧ P k mu := by
  cases w with
  | bl k => exact ⟨k, rfl, d, h⟩
  | _ => exact h.elim
theorem st_cmp {op : CmpOp} {r : R2} {f : W → W → Mu → PW1 → Prop} {P : Bool → Mu → Prop} (ho : OpR X (compareOp op) r) (hw : OpW X r f) (hb : behindInMarks op b = false)
    (h : SE X a G mu fun w1 mu1 => SE X b G mu1 fun w2 mu2 => f w1 w2 mu2 (isB P)) : ST X (.Compare a [op] [b] pos) G mu P :=
  ST.mk (pt_cmpR ho peE peE hb) fun σ H Q d m k => h σ H _ d m fun x w1 mu1 H1 h1 c1 d1 m1 => h1 σ H1 _ (c1.denG m d) m1 fun y w2 mu2 H2 h2 c2 d2 m2 =>
    hw _ _ _ _ _ _ _ _ (c2.den m1 d1) d2 m2 h2 fun v w mu3 H3 h3 c3 d3 m3 => let ⟨kk, e1, e2, h4⟩ := isB_den h3 d3; ⟨kk, e2, k _ _ _ h4 ((c1.trans c2).trans c3) m3⟩
theorem st_val {P : Bool → Mu → Prop} (h : SE X e G mu (isB P)) (he : ∀ whole, isTrue e X.env whole = (do let v ← whole; standAt e.pos; holding [v] (truthy v)) := by intro _; rfl) : ST X e G mu P :=
  ST.mk (pt_val peE he) fun σ H Q d m k => h σ H _ d m fun v w mu1 H1 h1 c1 d1 m1 => let ⟨kk, e1, e2, h4⟩ := isB_den h1 d1; ⟨kk, e2, k _ _ _ h4 c1 m1⟩
theorem st_not {P : Bool → Mu → Prop} (h : ST X a G mu fun k mu1 => P (!k) mu1) : ST X (.UnaryOp .Not a pos) G mu P :=
  ST.mk (pt_not ptT) fun σ H Q d m k => h σ H _ d m fun b mu1 H1 h1 c1 m1 => k _ _ _ h1 c1 m1
/-! tests: and, or -/
def tW (X : Cx) (e : Expr) : TT := fun σ H Q => ∀ (whole : Sem Value) pins s, Inv X pins σ H s → wpAny (model X.prog X.w) X.A (isTrue e X.env whole) (TP X pins σ Q) X.xe s
def SW (X : Cx) (e : Expr) (G : Gs) (mu : Mu) (Post : Bool → Mu → Prop) : Prop := ∀ σ H Q, DenG X.K H G σ → HM X.K H mu → KontB X.K mu H Post Q → tW X e σ H Q
theorem pwW : PW X e (tW X e) := ⟨fun whole pins s _ _ _ I h => h whole pins s I⟩
theorem SW.mk {t : TT} {Post : Bool → Mu → Prop} (p : PW X e t) (r : ∀ σ H Q, DenG X.K H G σ → HM X.K H mu → KontB X.K mu H Post Q → t σ H Q) : SW X e G mu Post := fun σ H Q d m k whole pins s I => p.run whole pins s σ H Q I (r σ H Q d m k)
theorem st_of_w {P : Bool → Mu → Prop} (h : SW X e G mu P) : ST X e G mu P := ST.mk (PW.pt pwW) fun σ H Q d m k => h σ H Q d m k
theorem sw_and1 {P : Bool → Mu → Prop} (h : ST X a G mu P) : SW X (.BoolOp .And [a] pos) G mu P := SW.mk (pw_and1 ptT) fun σ H Q d m k => h σ H Q d m k
theorem sw_or1 {P : Bool → Mu → Prop} (h : ST X a G mu P) : SW X (.BoolOp .Or [a] pos) G mu P := SW.mk (pw_or1 ptT) fun σ H Q d m k => h σ H Q d m k
abbrev if2 (k : Bool) (A B : Prop) : Prop := match k with | true => A | false => B
theorem sw_and {P : Bool → Mu → Prop} {rest : List Expr} (h : ST X a G mu fun k mu1 => if2 k (SW X (.BoolOp .And (b :: rest) pos) G mu1 P) (P false mu1)) : SW X (.BoolOp .And (a :: b :: rest) pos) G mu P :=
  SW.mk (pw_and ptT pwW) fun σ H Q d m k => h σ H _ d m fun b mu1 H1 h1 c1 m1 => by
    cases b with
    | true => exact iteT (h1 σ H1 Q (c1.denG m d) m1 (k.step c1))
    | false => exact iteF (k _ _ _ h1 c1 m1)
theorem sw_or {P : Bool → Mu → Prop} {rest : List Expr} (h : ST X a G mu fun k mu1 => if2 k (P true mu1) (SW X (.BoolOp .Or (b :: rest) pos) G mu1 P)) : SW X (.BoolOp .Or (a :: b :: rest) pos) G mu P :=
  SW.mk (pw_or ptT pwW) fun σ H Q d m k => h σ H _ d m fun b mu1 H1 h1 c1 m1 => by
    cases b with
    | false => exact iteF (h1 σ H1 Q (c1.denG m d) m1 (k.step c1))
    | true => exact iteT (k _ _ _ h1 c1 m1)
/-! values: and, or, not, if else -/
abbrev bW (w : W) (A B : Prop) : Prop := match w with | .bl true => A | .bl false => B | _ => False
theorem bW_den {K : PySem.W.Frag} {H : Hp} {A B : Prop} {w : W} {v : V} (h : bW w A B) (d : Den K H w v) : ∃ k, v = .bl k ∧ w = .bl k ∧ if k = true then A else B := by
  cases w with
  | bl k => cases k with
    | true => exact ⟨true, d, rfl, iteT h⟩
    | false => exact ⟨false, d, rfl, iteF h⟩
  | _ => exact h.elim
theorem se_one {op} (h : SE X a G mu P) : SE X (.BoolOp op [a] pos) G mu P := SE.mk (pe_one peE) fun σ H Q d m k => h σ H Q d m k
theorem se_and {rest : List Expr} (h : SE X a G mu fun w mu1 => bW w (SE X (.BoolOp .And (b :: rest) pos) G mu1 P) (P (.bl false) mu1)) : SE X (.BoolOp .And (a :: b :: rest) pos) G mu P :=
  SE.mk (pe_and peE peE) fun σ H Q d m k => h σ H _ d m fun v w mu1 H1 h1 c1 d1 m1 => by
    obtain ⟨kk, e1, e2, q⟩ := bW_den h1 d1
    refine ⟨kk, e1, ?_⟩
    cases kk with
    | true => exact iteT ((show SE X _ G mu1 P from q) σ H1 Q (c1.denG m d) m1 (k.step c1))
    | false => exact iteF (k _ _ _ _ (show P (.bl false) mu1 from q) c1 rfl m1)
theorem se_or {rest : List Expr} (h : SE X a G mu fun w mu1 => bW w (P (.bl true) mu1) (SE X (.BoolOp .Or (b :: rest) pos) G mu1 P)) : SE X (.BoolOp .Or (a :: b :: rest) pos) G mu P :=
  SE.mk (pe_or peE peE) fun σ H Q d m k => h σ H _ d m fun v w mu1 H1 h1 c1 d1 m1 => by
    obtain ⟨kk, e1, e2, q⟩ := bW_den h1 d1
    refine ⟨kk, e1, ?_⟩
    cases kk with
    | false => exact iteF ((show SE X _ G mu1 P from q) σ H1 Q (c1.denG m d) m1 (k.step c1))
    | true => exact iteT (k _ _ _ _ (show P (.bl true) mu1 from q) c1 rfl m1)
theorem se_not (h : SE X a G mu (isB fun k mu1 => P (.bl !k) mu1)) : SE X (.UnaryOp .Not a pos) G mu P :=
  SE.mk (pe_not peE) fun σ H Q d m k => h σ H _ d m fun v w mu1 H1 h1 c1 d1 m1 => let ⟨kk, e1, e2, h4⟩ := isB_den h1 d1; ⟨kk, e2, k _ _ _ _ h4 c1 rfl m1⟩
theorem se_if (h : ST X c G mu fun k mu1 => if2 k (SE X a G mu1 P) (SE X b G mu1 P)) : SE X (.IfExp c a b pos) G mu P :=
  SE.mk (pe_ifExp ptT peE peE) fun σ H Q d m k => h σ H _ d m fun kk mu1 H1 h1 c1 m1 => by
    cases kk with
    | true => exact iteT (h1 σ H1 Q (c1.denG m d) m1 (k.step c1))
    | false => exact iteF (h1 σ H1 Q (c1.denG m d) m1 (k.step c1))
/-! two comparisons in a chain -/
theorem se_chain {op op' : CmpOp} {r r' : R2} {f f' : W → W → Mu → PW1 → Prop} (ho : OpR X (compareOp op) r) (hw : OpW X r f) (ho' : OpR X (compareOp op') r') (hw' : OpW X r' f')
    (h : SE X a G mu fun w1 mu1 => SE X b G mu1 fun w2 mu2 => f w1 w2 mu2 fun z mu3 => bW z (SE X c G mu3 fun w3 mu4 => f' w2 w3 mu4 P) (P (.bl false) mu3)) (hb : lastMarks [op, op'] [b, c] = false := by rfl) : SE X (.Compare a [op, op'] [b, c] pos) G mu P :=
  SE.mk (pe_chain ho ho' peE peE peE hb) fun σ H Q d m k => h σ H _ d m fun x w1 mu1 H1 h1 c1 d1 m1 => h1 σ H1 _ (c1.denG m d) m1 fun y w2 mu2 H2 h2 c2 d2 m2 =>
    hw _ _ _ _ _ _ _ _ (c2.den m1 d1) d2 m2 h2 fun v w mu3 H3 h3 c3 d3 m3 => by
      have c123 := (c1.trans c2).trans c3
      obtain ⟨kk, e1, e2, q⟩ := bW_den h3 d3
      refine ⟨kk, e1, ?_⟩
      cases kk with
      | true => exact iteT ((show SE X c G mu3 _ from q) σ H3 _ (c123.denG m d) m3 fun v w mu4 H4 h4 c4 d4 m4 => hw' _ _ _ _ _ _ _ _ (c4.den m3 (c3.den m2 d2)) d4 m4 h4 (k.step (c123.trans c4)))
      | false => exact iteF (k _ _ _ _ (show P (.bl false) mu3 from q) c123 rfl m3)
theorem st_chain {op op' : CmpOp} {r r' : R2} {f f' : W → W → Mu → PW1 → Prop} {P : Bool → Mu → Prop} (ho : OpR X (compareOp op) r) (hw : OpW X r f) (ho' : OpR X (compareOp op') r') (hw' : OpW X r' f')
    (h : SE X a G mu fun w1 mu1 => SE X b G mu1 fun w2 mu2 => f w1 w2 mu2 fun z mu3 => bW z (SE X c G mu3 fun w3 mu4 => f' w2 w3 mu4 (isB P)) (P false mu3)) (hb : lastMarks [op, op'] [b, c] = false := by rfl) : ST X (.Compare a [op, op'] [b, c] pos) G mu P :=
  ST.mk (pt_chain ho ho' peE peE peE hb) fun σ H Q d m k => h σ H _ d m fun x w1 mu1 H1 h1 c1 d1 m1 => h1 σ H1 _ (c1.denG m d) m1 fun y w2 mu2 H2 h2 c2 d2 m2 =>
    hw _ _ _ _ _ _ _ _ (c2.den m1 d1) d2 m2 h2 fun v w mu3 H3 h3 c3 d3 m3 => by
      have c123 := (c1.trans c2).trans c3
      obtain ⟨kk, e1, e2, q⟩ := bW_den h3 d3
      refine ⟨kk, e1, ?_⟩
      cases kk with
      | true => exact iteT ((show SE X c G mu3 _ from q) σ H3 _ (c123.denG m d) m3 fun v w mu4 H4 h4 c4 d4 m4 => hw' _ _ _ _ _ _ _ _ (c4.den m3 (c3.den m2 d2)) d4 m4 h4 fun v w mu5 H5 h5 c5 d5 m5 => let ⟨kk, e1, e2, h6⟩ := isB_den h5 d5; ⟨kk, e2, k _ _ _ h6 ((c123.trans c4).trans c5) m5⟩)
      | false => exact iteF ⟨false, rfl, k _ _ _ (show P false mu3 from q) c123 m3⟩

/-! ### statements -/
theorem sss_nil {E : WE} (h : E.nx G mu) : SSs X [] G mu E := SSs.mk pss_nil fun σ H D d m k => k.nx _ _ _ _ h Chg.refl d m
theorem sss_cons {E : WE} (h : SS X st G mu { E with nx := fun G1 mu1 => SSs X sts G1 mu1 E }) : SSs X (st :: sts) G mu E :=
  SSs.mk (pss_cons psS pssS) fun σ H D d m k => h σ H _ d m ⟨fun σ1 G1 mu1 H1 h1 c1 d1 m1 => h1 σ1 H1 D d1 m1 (k.step c1), k.rt, k.bk, k.ct⟩
theorem ss_ret {E : WE} (h : SE X e G mu E.rt) : SS X (.Return (some e) pos) G mu E := SS.mk (ps_ret peE) fun σ H D d m k => h σ H _ d m k.rt
theorem ss_pass {E : WE} (h : E.nx G mu) : SS X (.Pass pos) G mu E := SS.mk ps_pass fun σ H D d m k => k.nx _ _ _ _ h Chg.refl d m
theorem ss_expr {E : WE} (h : SE X e G mu fun _ mu1 => E.nx G mu1) (hs : swapsWith e none pos.line X.env = pure false := by rfl) : SS X (.Expr e pos) G mu E :=
  SS.mk (ps_expr peE hs) fun σ H D d m k => h σ H _ d m fun v w mu1 H1 h1 c1 d1 m1 => k.nx _ _ _ _ h1 c1 (c1.denG m d) m1
theorem ss_if {E : WE} {u t : List Stmt} (h : ST X c G mu fun k mu1 => if2 k (SSs X t G mu1 E) (SSs X u G mu1 E)) : SS X (.If c t u pos) G mu E :=
  SS.mk (ps_if ptT pssS pssS) fun σ H D d m k => h σ H _ d m fun kk mu1 H1 h1 c1 m1 => by
    cases kk with
    | true => exact iteT (h1 σ H1 D (c1.denG m d) m1 (k.step c1))
    | false => exact iteF (h1 σ H1 D (c1.denG m d) m1 (k.step c1))
theorem DenG.set {K : PySem.W.Frag} {H : Hp} {G : Gs} {σ : St} {i : Nat} {w : W} {v : V} (d : DenG K H G σ) (q : Den K H w v) : DenG K H (G.set i (some w)) (σ.set i (some v)) := by
  refine ⟨by rw [List.length_set, List.length_set]; exact d.1, fun j w' h => ?_⟩
  by_cases e : i = j
  · subst e
    by_cases hl : i < G.length
    · rw [List.getElem?_set_self hl] at h
      cases h
      exact ⟨v, List.getElem?_set_self (by rw [← d.1]; exact hl), q⟩
    · rw [List.getElem?_eq_none (by simpa using hl)] at h
      cases h
  · rw [List.getElem?_set_ne e] at h
    rw [List.getElem?_set_ne e]
    exact d.2 j w' h
/-! targets -/
def tG (X : Cx) (e : Expr) : TG := fun v σ H Q => ∀ (u : Value) pins s, RelV v u → Inv X pins σ H s → wpAny (model X.prog X.w) X.A (assign e X.env u) (fun _ s' => ∃ σ' H', Inv X pins σ' H' s' ∧ Q σ' H') X.xe s
def tGs (X : Cx) (es : List Expr) : TGs := fun vs σ H Q => ∀ (us : List Value) pins s, Vals vs us → Inv X pins σ H s → wpAny (model X.prog X.w) X.A (assignInOrder ((assignEach es X.env).map (·.2)) us) (fun _ s' => ∃ σ' H', Inv X pins σ' H' s' ∧ Q σ' H') X.xe s
theorem pgG : PG X e (tG X e) := ⟨fun pins s σ H v u Q I r h => h u pins s r I⟩
theorem pgsG : PGs X es (tGs X es) := ⟨fun pins s σ H v u Q I r h => h u pins s r I⟩
def SG (X : Cx) (e : Expr) (w : W) (G : Gs) (mu : Mu) (Post : Gs → Mu → Prop) : Prop := ∀ σ H v Q, DenG X.K H G σ → HM X.K H mu → Den X.K H w v → KontG X.K mu H Post Q → tG X e v σ H Q
def SGs (X : Cx) (es : List Expr) (ws : List W) (G : Gs) (mu : Mu) (Post : Gs → Mu → Prop) : Prop := ∀ σ H vs Q, DenG X.K H G σ → HM X.K H mu → DenAll X.K H ws vs → KontG X.K mu H Post Q → tGs X es vs σ H Q
theorem SG.mk {t : TG} {w : W} {Post : Gs → Mu → Prop} (p : PG X e t) (r : ∀ σ H v Q, DenG X.K H G σ → HM X.K H mu → Den X.K H w v → KontG X.K mu H Post Q → t v σ H Q) : SG X e w G mu Post :=
  fun σ H v Q d m dv k u pins s rv I => p.run pins s σ H v u Q I rv (r σ H v Q d m dv k)
theorem SGs.mk {t : TGs} {ws : List W} {Post : Gs → Mu → Prop} (p : PGs X es t) (r : ∀ σ H v Q, DenG X.K H G σ → HM X.K H mu → DenAll X.K H ws v → KontG X.K mu H Post Q → t v σ H Q) : SGs X es ws G mu Post :=
  fun σ H v Q d m dv k u pins s rv I => p.run pins s σ H v u Q I rv (r σ H v Q d m dv k)
theorem sg_name {i : Nat} {x : Str} {w : W} {Post : Gs → Mu → Prop} (h : Post (G.set i (some w)) mu) (hN : X.N.Nodup) (hi : X.N[i]? = some x := by rfl) (hx : Loc X.env.scope x := by first | exact .inl rfl | exact .inr rfl)
    (hf : X.fn x = true ∨ X.env.scope.names.lookup x = some .local := by first | exact .inl rfl | exact .inr rfl) : SG X (.Name x pos) w G mu Post :=
  SG.mk (pg_name hN hi hx hf) fun σ H v Q d m dv k => k _ _ _ _ h Chg.refl (DenG.set d dv) m
theorem sgs_nil {Post : Gs → Mu → Prop} (h : Post G mu) : SGs X [] [] G mu Post := SGs.mk pgs_nil fun σ H vs Q d m dv k => ⟨dv, k _ _ _ _ h Chg.refl d m⟩
theorem sgs_cons {w : W} {ws : List W} {Post : Gs → Mu → Prop} (h : SG X e w G mu fun G1 mu1 => SGs X es ws G1 mu1 Post) (ha : (assignEach (e :: es) X.env).map (·.2) = assign e X.env :: (assignEach es X.env).map (·.2) := by rfl) : SGs X (e :: es) (w :: ws) G mu Post :=
  SGs.mk (pgs_cons pgG pgsG ha) fun σ H vs Q d m dv k => by
    obtain ⟨v, r, e1, dv1, dr⟩ := dv
    exact ⟨v, r, e1, h σ H v _ d m dv1 fun σ1 G1 mu1 H1 h1 c1 d1 m1 => h1 σ1 H1 r Q d1 m1 (c1.denAll m dr) (k.step c1)⟩
theorem sg_tup {n : Nat} {kk : Nat} {ws : List W} {Post : Gs → Mu → Prop} (h : SGs X es ws G mu Post) (hc : X.calm = true := by rfl) (hn : ws.length = n := by rfl)
    (ht : ∀ {t : TGs}, PGs X es t → PG X (.Tuple es kk pos) (gTup X.K n t) := by exact fun h => pg_tup rfl h) : SG X (.Tuple es kk pos) (.tup ws) G mu Post :=
  SG.mk (ht pgsG) fun σ H v Q d m dv k => by
    obtain ⟨a, xs, e1, s1, dv1⟩ := dv
    exact ⟨a, xs, e1, s1, by rw [← dv1.length]; exact hn, h σ H xs Q d m dv1 k⟩
theorem ss_asg {tg : Expr} {E : WE} (h : SE X e G mu fun w mu1 => SG X tg w G mu1 E.nx) (hs : swapsWithSole [tg] e pos.line X.env = pure false := by rfl) (hw : swappedStores [tg] e X.env = pure none := by rfl)
    (ha : (assignEach [tg] X.env).map (·.2) = [assign tg X.env] := by rfl) : SS X (.Assign [tg] e pos) G mu E :=
  SS.mk (ps_asg peE pgG hs hw ha) fun σ H D d m k => h σ H _ d m fun v w mu1 H1 h1 c1 d1 m1 => h1 σ H1 v _ (c1.denG m d) m1 d1 (k.nx.step c1)
end
end Dv
set_option Elab.async false
set_option linter.all false
set_option maxRecDepth 100000
/-! Loops and comprehensions by values. -/
namespace Dv
open PySem L2

/-- what a for walks, by values: ws in turn, while Gm holds of the cells -/
def ItW (K : PySem.W.Frag) (J : It) (ws : List W) (Gm : Mu → Prop) (mu1 : Mu) (H1 : Hp) : Prop :=
  ∃ (Gh : Hp → Prop) (Y : Nat → Hp → V → Hp → Prop), Walk J ws.length Gh Y ∧ (∀ mu' H', Chg mu1 H1 mu' H' → HM K H' mu' → Gm mu' → Gh H') ∧
    ∀ i H x H' mu', i < ws.length → Chg mu1 H1 mu' H → HM K H mu' → Gm mu' → Y i H x H' → ∃ w, ws[i]? = some w ∧ Chg mu' H mu' H' ∧ HM K H' mu' ∧ Den K H' w x

section
variable {X : Cx} {e a b c : Expr} {es : List Expr} {st : Stmt} {sts : List Stmt} {G : Gs} {mu mu' : Mu} {pos : Pos} {P : PW1}
def tI (X : Cx) (tg iter : Expr) : TI := fun σ H R => ∀ pins s, Inv X pins σ H s → wpAny (model X.prog X.w) X.A (eval iter X.env) (fun v s1 => wpAny (model X.prog X.w) X.A (pyIter v) (PIE X pins σ tg R) X.xe s1) X.xe s
theorem piI {tg iter : Expr} : PI X tg iter (tI X tg iter) := ⟨fun pins s σ H R I h => h pins s I⟩
def SI (X : Cx) (tg iter : Expr) (G : Gs) (mu : Mu) (Post : List W → (Mu → Prop) → Mu → Prop) : Prop := ∀ σ H R, DenG X.K H G σ → HM X.K H mu →
  (∀ J ws Gm mu1 H1, Post ws Gm mu1 → Chg mu H mu1 H1 → HM X.K H1 mu1 → ItW X.K J ws Gm mu1 H1 → R J H1) → tI X tg iter σ H R
theorem SI.mk {tg iter : Expr} {wi : TI} {Post : List W → (Mu → Prop) → Mu → Prop} (p : PI X tg iter wi) (r : ∀ σ H R, DenG X.K H G σ → HM X.K H mu →
  (∀ J ws Gm mu1 H1, Post ws Gm mu1 → Chg mu H mu1 H1 → HM X.K H1 mu1 → ItW X.K J ws Gm mu1 H1 → R J H1) → wi σ H R) : SI X tg iter G mu Post := fun σ H R d m k pins s I => p.run pins s σ H R I (r σ H R d m k)

theorem itw_tup {K : PySem.W.Frag} {H : Hp} {mu : Mu} {a : Addr} {xs : List V} {ws : List W} (m : HM K H mu) (s : SqT K H a xs) (d : DenAll K H ws xs) : ItW K (Itt K a) ws (fun _ => True) mu H := by
  refine ⟨fun H' => SqT K H' a xs, YAt xs, by rw [d.length]; exact walk_tup, fun mu' H' c m' _ => c.sqt m a xs s, fun i H1 x H2 mu' hi c m' _ ⟨e, y⟩ => ?_⟩
  subst e
  obtain ⟨w, h1, h2⟩ := (c.denAll m d).get y
  exact ⟨w, h1, Chg.refl, m', h2⟩
theorem itw_lst {K : PySem.W.Frag} {H : Hp} {mu : Mu} {a : Addr} {ws : List W} (m : HM K H mu) (h : mu a = some (.lst ws)) : ItW K (Itl K a) ws (fun mu' => mu' a = some (.lst ws)) mu H := by
  obtain ⟨xs, hx, d⟩ := m a _ h
  refine ⟨fun H' => ∃ ys, SqL K H' a ys ∧ DenAll K H' ws ys, fun i H1 x H2 => H2 = H1 ∧ ∃ ys, DenAll K H1 ws ys ∧ ys[i]? = some x, ⟨fun i H' hi ⟨ys, s, d'⟩ => ?_, fun H' ⟨ys, s, d'⟩ => ?_, fun i H' x H'' hi ⟨ys, s, d'⟩ y => ?_⟩,
    fun mu' H' c m' g => ?_, fun i H1 x H2 mu' hi c m' _ ⟨e, ys, d', y⟩ => ?_⟩
  · have hl : i < ys.length := by rw [← d'.length]; exact hi
    exact ⟨ys, ys[i], s, by simp [hl]⟩
  · exact ⟨ys, s, by rw [d'.length]; exact Nat.le_refl _⟩
  · obtain ⟨e, y⟩ := y
    exact ⟨e, ys, d', y ys s⟩
  · obtain ⟨ys, h1, h2⟩ := m' a _ g
    exact ⟨ys, SqL.of h1, h2⟩
  · subst e
    obtain ⟨w, h1, h2⟩ := d'.get y
    exact ⟨w, h1, Chg.refl, m', h2⟩
/-- the items of a tuple or a list -/
abbrev itemsW (w : W) (mu : Mu) (P : List W → (Mu → Prop) → Mu → Prop) : Prop := match w with
  | .tup ws => P ws (fun _ => True) mu
  | .m a => ∃ ws, mu a = some (.lst ws) ∧ P ws (fun mu' => mu' a = some (.lst ws)) mu
  | _ => False
theorem si_tup {tg iter : Expr} {Post : List W → (Mu → Prop) → Mu → Prop} (h : SE X iter G mu fun w mu1 => match w with | .tup ws => Post ws (fun _ => True) mu1 | _ => False) : SI X tg iter G mu Post :=
  SI.mk (pi_tup peE) fun σ H R d m k => h σ H _ d m fun v w mu1 H1 h1 c1 d1 m1 => by
    cases w with
    | tup ws =>
      obtain ⟨a, xs, e, s, d2⟩ := d1
      exact ⟨a, e, ⟨xs, s⟩, k _ _ _ _ _ h1 c1 m1 (itw_tup m1 s d2)⟩
    | _ => exact h1.elim
theorem si_lst {tg iter : Expr} {Post : List W → (Mu → Prop) → Mu → Prop} (h : SE X iter G mu fun w mu1 => match w with | .m a => ∃ ws, mu1 a = some (.lst ws) ∧ Post ws (fun mu' => mu' a = some (.lst ws)) mu1 | _ => False) : SI X tg iter G mu Post :=
  SI.mk (pi_list peE) fun σ H R d m k => h σ H _ d m fun v w mu1 H1 h1 c1 d1 m1 => by
    cases w with
    | m a =>
      obtain ⟨ws, h2, h3⟩ := h1
      obtain ⟨xs, hx, d2⟩ := m1 a _ h2
      have d1 : v = .ref a := d1
      subst d1
      exact ⟨a, rfl, ⟨xs, SqL.of hx⟩, k _ _ _ _ _ h3 c1 m1 (itw_lst m1 h2)⟩
    | _ => exact h1.elim
theorem itw_range {K : PySem.W.Frag} {H : Hp} {mu : Mu} {n : Nat} : ItW K (Itr 0 n) ((List.range n).map fun i => W.int (i : Nat)) (fun _ => True) mu H := by
  refine ⟨fun _ => True, YFn fun i => .int (0 + i), by rw [List.length_map, List.length_range]; exact walk_range, fun _ _ _ _ _ => trivial, fun i H1 x H2 mu' hi c m' _ ⟨e, y⟩ => ?_⟩
  subst e
  rw [List.length_map, List.length_range] at hi
  refine ⟨.int (i : Nat), by simp [hi], Chg.refl, m', ?_⟩
  have y : x = .int (0 + (i : Nat)) := y
  show x = .int (i : Nat)
  rw [y]
  congr 1
  omega
theorem si_range {tg : Expr} {p : Pos} {Post : List W → (Mu → Prop) → Mu → Prop} (h : SE X a G mu fun w mu1 => match w with | .int j => -(2 ^ 62) ≤ j ∧ j < 2 ^ 62 ∧ Post ((List.range j.toNat).map fun i => W.int (i : Nat)) (fun _ => True) mu1 | _ => False)
    (hm : X.mg "range" = none) (hg : Gl X "range" := by rfl) (hs : starEach [a] X.env = [(false, eval a X.env)] := by rfl) : SI X tg (.Call (.Name "range" p) [a] [] pos) G mu Post :=
  SI.mk (pi_range1 hg hm (pa_cons peE pa_nil hs) hs) fun σ H R d m k => h σ H _ d m fun v w mu1 H1 h1 c1 d1 m1 => by
    cases w with
    | int j =>
      have d1 : v = .int j := d1
      subst d1
      exact ⟨j, rfl, h1.1, h1.2.1, k _ _ _ _ _ h1.2.2 c1 m1 itw_range⟩
    | _ => exact h1.elim

/-- for: I by the turn, the names, the cells -/
theorem ss_for {tg iter : Expr} {body : List Stmt} {E : WE} (hp : PassesOwn (model X.prog X.w) X.A X.env X.xe) (hc : X.calm = true) (hf : ∀ x, foldedSetIterable iter X.env x = pure x)
    (h : SI X tg iter G mu fun ws Gm mu1 => ∃ I : Nat → Gs → Mu → Prop, I 0 G mu1 ∧ (∀ i G' mu', i ≤ ws.length → I i G' mu' → Gm mu') ∧
      (∀ i w G' mu', ws[i]? = some w → I i G' mu' → SG X tg w G' mu' fun G2 mu2 => SSs X body G2 mu2 { E with nx := I (i + 1), ct := I (i + 1), bk := E.nx }) ∧ ∀ G' mu', I ws.length G' mu' → E.nx G' mu') : SS X (.For tg iter body [] pos) G mu E :=
  SS.mk (ps_for hp hc piI pgG pssS hf) fun σ H D d m k => h σ H _ d m fun J ws Gm mu1 H1 ⟨I, i0, ig, it, ie⟩ c1 m1 ⟨Gh, Y, wk, hg, hy⟩ =>
    for_it wk (fun i σ' H' => ∃ G' mu', I i G' mu' ∧ Chg mu1 H1 mu' H' ∧ DenG X.K H' G' σ' ∧ HM X.K H' mu') ⟨G, mu1, i0, Chg.refl, c1.denG m d, m1⟩
      (fun i σ' H' hi ⟨G', mu', q, c2, d2, m2⟩ => hg mu' H' c2 m2 (ig i G' mu' hi q))
      (fun i x σ' H' H'' hi ⟨G', mu', q, c2, d2, m2⟩ y => by
        obtain ⟨w, hw, c3, m3, d3⟩ := hy i H' x H'' mu' hi c2 m2 (ig i G' mu' (Nat.le_of_lt hi) q) y
        refine it i w G' mu' hw q σ' H'' x _ (c3.denG m2 d2) m3 d3 fun σ2 G2 mu2 H2 h2 c4 d4 m4 => ?_
        have cc := (c2.trans c3).trans c4
        exact h2 σ2 H2 _ d4 m4 ⟨fun σ3 G3 mu3 H3 h3 c5 d5 m5 => ⟨G3, mu3, h3, cc.trans c5, d5, m5⟩, k.rt.step (c1.trans cc), k.nx.step (c1.trans cc), fun σ3 G3 mu3 H3 h3 c5 d5 m5 => ⟨G3, mu3, h3, cc.trans c5, d5, m5⟩⟩)
      fun σ' H' ⟨G', mu', q, c2, d2, m2⟩ => k.nx _ _ _ _ (ie G' mu' q) (c1.trans c2) d2 m2

/-! ### targets of a comprehension -/
inductive Tg where
  | nm (i : Nat)
  | tp (ts : List Tg)
mutual
def gT (K : PySem.W.Frag) : Tg → TG
  | .nm i => gName i
  | .tp ts => gTup K ts.length (gTs K ts)
def gTs (K : PySem.W.Frag) : List Tg → TGs
  | [] => gNil
  | t :: ts => gCons (gT K t) (gTs K ts)
end
mutual
def Tg.bind : Tg → W → Gs → Option Gs
  | .nm i, w, G => some (G.set i (some w))
  | .tp ts, .tup ws, G => Tg.binds ts ws G
  | .tp _, _, _ => none
def Tg.binds : List Tg → List W → Gs → Option Gs
  | [], [], G => some G
  | t :: ts, w :: ws, G => (Tg.bind t w G).bind fun G1 => Tg.binds ts ws G1
  | _, _, _ => none
end
mutual
def Tg.all (p : Nat → Bool) : Tg → Bool
  | .nm i => p i
  | .tp ts => Tg.alls p ts
def Tg.alls (p : Nat → Bool) : List Tg → Bool
  | [] => true
  | t :: ts => Tg.all p t && Tg.alls p ts
end
def wipeG (G : Gs) : List Nat → Gs
  | [] => G
  | v :: vs => (wipeG G vs).set v none
theorem wipeG_den {K : PySem.W.Frag} {H : Hp} {G : Gs} {σ : St} (d : DenG K H G σ) : ∀ vs : List Nat, DenG K H (wipeG G vs) (wipe σ vs)
  | [] => d
  | v :: vs => by
    obtain ⟨hl, h⟩ := wipeG_den d vs
    refine ⟨by unfold wipeG wipe; rw [List.length_set, List.length_set]; exact hl, fun i w e => ?_⟩
    unfold wipeG at e
    unfold wipe
    by_cases q : v = i
    · subst q
      by_cases z : v < (wipeG G vs).length
      · rw [List.getElem?_set_self z] at e; cases e
      · rw [List.getElem?_eq_none (by simpa using z)] at e; cases e
    · rw [List.getElem?_set_ne q] at e
      rw [List.getElem?_set_ne q]
      exact h i w e
theorem wipe_set {σ : St} {i : Nat} {x : Option V} : ∀ {vs : List Nat}, i ∈ vs → wipe (σ.set i x) vs = wipe σ vs
  | v :: vs, h => by
    unfold wipe
    by_cases e : i ∈ vs
    · rw [wipe_set e]
    · have q : v = i := by
        rcases List.mem_cons.mp h with z | z
        · exact z.symm
        · exact absurd z e
      subst q
      have hn : ∀ us : List Nat, v ∉ us → wipe (σ.set v x) us = (wipe σ us).set v x := by
        intro us
        induction us with
        | nil => intro _; rfl
        | cons u us ih =>
          intro hu
          unfold wipe
          rw [ih fun z => hu (List.mem_cons_of_mem _ z)]
          exact List.set_comm _ _ fun z => hu (by rw [z]; exact List.mem_cons_self)
      rw [hn vs e, List.set_set]
mutual
theorem gT_run {K : PySem.W.Frag} {H : Hp} {vs : List Nat} {Q : St → Hp → Prop} : ∀ (T : Tg) {w : W} {v : V} {G G2 : Gs} {σ : St}, T.bind w G = some G2 → T.all (fun i => decide (i ∈ vs)) = true → DenG K H G σ → Den K H w v →
    (∀ σ2, DenG K H G2 σ2 → wipe σ2 vs = wipe σ vs → Q σ2 H) → gT K T v σ H Q
  | .nm i, w, v, G, G2, σ, hb, ha, d, dv, q => by
    simp only [Tg.bind, Option.some.injEq] at hb
    subst hb
    exact q _ (DenG.set d dv) (wipe_set (of_decide_eq_true ha))
  | .tp ts, .tup ws, v, G, G2, σ, hb, ha, d, dv, q => by
    obtain ⟨a, xs, e, s, dx⟩ := dv
    simp only [Tg.bind] at hb
    unfold Tg.all at ha
    unfold gT
    refine ⟨a, xs, e, s, ?_, gTs_run ts hb ha d dx q⟩
    rw [← dx.length]
    exact (binds_len ts hb).symm
  | .tp ts, .non, v, G, G2, σ, hb, ha, d, dv, q => by simp [Tg.bind] at hb
  | .tp ts, .bl _, v, G, G2, σ, hb, ha, d, dv, q => by simp [Tg.bind] at hb
  | .tp ts, .int _, v, G, G2, σ, hb, ha, d, dv, q => by simp [Tg.bind] at hb
  | .tp ts, .str _, v, G, G2, σ, hb, ha, d, dv, q => by simp [Tg.bind] at hb
  | .tp ts, .m _, v, G, G2, σ, hb, ha, d, dv, q => by simp [Tg.bind] at hb
theorem gTs_run {K : PySem.W.Frag} {H : Hp} {vs : List Nat} {Q : St → Hp → Prop} : ∀ (ts : List Tg) {ws : List W} {xs : List V} {G G2 : Gs} {σ : St}, Tg.binds ts ws G = some G2 → Tg.alls (fun i => decide (i ∈ vs)) ts = true → DenG K H G σ → DenAll K H ws xs →
    (∀ σ2, DenG K H G2 σ2 → wipe σ2 vs = wipe σ vs → Q σ2 H) → gTs K ts xs σ H Q
  | [], [], xs, G, G2, σ, hb, ha, d, dv, q => by
    simp only [Tg.binds, Option.some.injEq] at hb
    subst hb
    exact ⟨dv, q _ d rfl⟩
  | t :: ts, w :: ws, xs, G, G2, σ, hb, ha, d, dv, q => by
    obtain ⟨v, r, e, d1, d2⟩ := dv
    simp only [Tg.binds] at hb
    unfold Tg.alls at ha
    rw [Bool.and_eq_true] at ha
    cases hq : Tg.bind t w G with
    | none => rw [hq] at hb; simp at hb
    | some G1 =>
      rw [hq] at hb
      have hb : Tg.binds ts ws G1 = some G2 := hb
      unfold gTs
      exact ⟨v, r, e, gT_run t hq ha.1 d d1 fun σ1 d3 e3 => gTs_run ts hb ha.2 d3 d2 fun σ2 d4 e4 => q σ2 d4 (e4.trans e3)⟩
  | [], w :: ws, xs, G, G2, σ, hb, ha, d, dv, q => by simp [Tg.binds] at hb
  | t :: ts, [], xs, G, G2, σ, hb, ha, d, dv, q => by simp [Tg.binds] at hb
theorem binds_len : ∀ (ts : List Tg) {ws : List W} {G G2 : Gs}, Tg.binds ts ws G = some G2 → ts.length = ws.length
  | [], [], _, _, _ => rfl
  | t :: ts, w :: ws, G, G2, hb => by
    simp only [Tg.binds] at hb
    cases hq : Tg.bind t w G with
    | none => rw [hq] at hb; simp at hb
    | some G1 =>
      rw [hq] at hb
      have hb : Tg.binds ts ws G1 = some G2 := hb
      simp [binds_len ts hb]
  | [], w :: ws, G, G2, hb => by simp [Tg.binds] at hb
  | t :: ts, [], G, G2, hb => by simp [Tg.binds] at hb
end

theorem set_none_wipe {v : Nat} : ∀ {us : List Nat} {σ : St}, (wipe σ us).set v none = wipe (σ.set v none) us
  | [], σ => rfl
  | u :: us, σ => by
    unfold wipe
    rw [← set_none_wipe]
    by_cases h : u = v
    · subst h; rfl
    · exact List.set_comm _ _ h
theorem wipe_wipe {σ : St} : ∀ {us : List Nat}, wipe (wipe σ us) us = wipe σ us
  | [] => rfl
  | u :: us => by
    show (wipe ((wipe σ us).set u none) us).set u none = (wipe σ us).set u none
    rw [← set_none_wipe, wipe_wipe, List.set_set]
/-! ### comprehensions: I by the turn, what is made so far, the cells -/
/-- one turn's element: kept or not -/
abbrev tt0 : TT := tYes
theorem lc_rd {g : TG} {tt : TT} {te : TE} {tg iter : Expr} {vs : List Nat} {σ : St} {H : Hp} {Q : VK} {P : PW1} (d : DenG X.K H G σ) (m : HM X.K H mu) (k : Kont X.K mu H P Q)
    (h : SI X tg iter G mu fun ws Gm mu1 => ∀ D, mu1 D = none → ∃ I : Nat → List W → Mu → Prop, I 0 [] mu1 ∧ (∀ i acc mu', i ≤ ws.length → I i acc mu' → Gm mu') ∧
      (∀ i w acc mu', ws[i]? = some w → I i acc mu' → acc.length < sizeLine ∧ ∀ (σ' : St) (H' : Hp) (v : V) (R : Option V → Hp → Prop), DenG X.K H' (wipeG G vs) (wipe σ vs) → HM X.K H' mu' → Den X.K H' w v →
        (∀ r y mu4 H4, Chg mu' H' mu4 H4 → HM X.K H4 mu4 → Den X.K H4 r y → I (i + 1) (acc ++ [r]) mu4 → R (some y) H4) → (∀ mu4 H4, Chg mu' H' mu4 H4 → HM X.K H4 mu4 → I (i + 1) acc mu4 → R none H4) →
        g v (wipe σ vs) H' fun σ2 H2 => wipe σ2 vs = wipe σ vs ∧ tt σ2 H2 fun b H3 => if b = true then te σ2 H3 fun y H4 => R (some y) H4 else R none H3) ∧
      ∀ acc mu', I ws.length acc mu' → P (.m D) (setM mu' D (.lst acc))) : tLc (tI X tg iter) g tt te vs σ H Q := by
  refine h σ H _ d m fun J ws Gm mu1 H1 hI c1 m1 ⟨Gh, Y, wk, hg, hy⟩ D hD => ?_
  obtain ⟨I, i0, ig, it, ie⟩ := hI D (m1.dom hD)
  obtain ⟨c0, m0⟩ := laid (o := .lst []) m1 hD
  have dne : ∀ mu' H', Chg mu1 H1 mu' H' → ∀ b o, H1 b = some o → b ≠ D := fun _ _ _ b o e => ne_of_none e hD
  refine lc_it wk (fun i H' => ∃ acc mu' xs, I i acc mu' ∧ H' D = some (.lst xs) ∧ DenAll X.K H' acc xs ∧ mu' D = none ∧ HM X.K H' mu' ∧ Chg mu1 H1 mu' H') ⟨[], mu1, [], i0, upd_same, rfl, m1.dom hD, m0, c0⟩
    (fun i H' hi ⟨acc, mu', xs, q, _, _, _, m2, c2⟩ => hg mu' H' c2 m2 (ig i acc mu' hi q)) (fun i x H' H'' hi ⟨acc, mu', xs, q, hx, dx, nD, m2, c2⟩ y => ?_) fun H' ⟨acc, mu', xs, q, hx, dx, nD, m2, c2⟩ => ?_
  · obtain ⟨w, hw, c3, m3, d3⟩ := hy i H' x H'' mu' hi c2 m2 (ig i acc mu' (Nat.le_of_lt hi) q) y
    obtain ⟨hl, hh⟩ := it i w acc mu' hw q
    have dw : DenG X.K H'' (wipeG G vs) (wipe σ vs) := c3.denG m2 (c2.denG m1 (c1.denG m (wipeG_den d vs)))
    refine hh σ H'' x (fun oy H4 => match oy with
      | some y => ∃ acc', H4 D = some (.lst acc') ∧ acc'.length < sizeLine ∧ ∃ acc mu' xs, I (i + 1) acc mu' ∧ (upd H4 D (.lst (acc' ++ [y]))) D = some (.lst xs) ∧ DenAll X.K (upd H4 D (.lst (acc' ++ [y]))) acc xs ∧ mu' D = none ∧ HM X.K (upd H4 D (.lst (acc' ++ [y]))) mu' ∧ Chg mu1 H1 mu' (upd H4 D (.lst (acc' ++ [y])))
      | none => ∃ acc mu' xs, I (i + 1) acc mu' ∧ H4 D = some (.lst xs) ∧ DenAll X.K H4 acc xs ∧ mu' D = none ∧ HM X.K H4 mu' ∧ Chg mu1 H1 mu' H4) dw m3 d3 (fun r y mu4 H4 c4 m4 d4 q4 => ?_) fun mu4 H4 c4 m4 q4 => ?_
    · have hx3 := c3.keep _ _ hx nD
      have nD3 := nD
      have hx4 := c4.keep _ _ hx3 nD
      have nD4 := c4.new _ _ hx3 nD
      have dx4 := c4.denAll m3 (c3.denAll m2 dx)
      have sq : ∀ a ys, SqT X.K H4 a ys → SqT X.K (upd H4 D (.lst (xs ++ [y]))) a ys := fun a ys s => by
        rcases s with (s | ⟨o, s⟩) | s
        · exact .inl (.inl (by rw [upd_ne (ne_of s hx4 (by intro z; cases z))]; exact s))
        · exact .inl (.inr ⟨o, by rw [upd_ne (ne_of s hx4 (by intro z; cases z))]; exact s⟩)
        · exact .inr s
      refine ⟨xs, hx4, by rw [← dx4.length]; exact hl, acc ++ [r], mu4, xs ++ [y], q4, upd_same, DenAll.append (DenAll.mono sq _ dx4) ⟨y, [], rfl, Den.mono sq _ d4, rfl⟩, nD4, fun a cc ha => CellOk.mono sq (m4 a cc ha) (upd_ne fun z => by subst z; rw [nD4] at ha; cases ha), ?_⟩
      have cc := (c2.trans c3).trans c4
      exact ⟨fun b o e n => by rw [upd_ne (ne_of_none e hD)]; exact cc.keep b o e n, cc.old, cc.new⟩
    · have hx3 := c3.keep _ _ hx nD
      have hx4 := c4.keep _ _ hx3 nD
      exact ⟨acc, mu4, xs, q4, hx4, c4.denAll m3 (c3.denAll m2 dx), c4.new _ _ hx3 nD, m4, (c2.trans c3).trans c4⟩
  · refine k (.ref D) (.m D) (setM mu' D (.lst acc)) H' (ie acc mu' q) (c1.trans ⟨c2.keep, fun b cc e => ?_, fun b o e n => ?_⟩) rfl fun a cc ha => ?_
    · by_cases z : b = D
      · subst z; exact ⟨_, setM_same⟩
      · rw [setM_ne z]; exact c2.old b cc e
    · rw [setM_ne (ne_of_none e hD)]
      exact c2.new b o e n
    · by_cases z : a = D
      · subst z
        rw [setM_same] at ha
        cases ha
        exact ⟨xs, hx, dx⟩
      · rw [setM_ne z] at ha
        exact m2 a cc ha
/-- the element and the test of a block -/
structure Blk (X : Cx) (scope : Scope) (B : Cx → Prop) : Prop where
  all : ∀ (s : Shared) (H : Hp) (C : Addr) (cl : List (Str × Addr)) (fp : List Addr), B (X.blk s H scope (compEnvC scope cl C X.env) fp)
/-- what a comprehension without a test asks -/
abbrev lcPost (B : (Cx → Prop) → Prop) (T : Tg) (elt : Expr) (vs : List Nat) (G : Gs) (P : PW1) : List W → (Mu → Prop) → Mu → Prop := fun ws Gm mu1 => ∀ D, mu1 D = none → ∃ I : Nat → List W → Mu → Prop, I 0 [] mu1 ∧ (∀ i acc mu', i ≤ ws.length → I i acc mu' → Gm mu') ∧
  (∀ i w acc mu', ws[i]? = some w → I i acc mu' → acc.length < sizeLine ∧ ∃ G2, T.bind w (wipeG G vs) = some G2 ∧ B fun Y => SE Y elt G2 mu' fun r mu4 => I (i + 1) (acc ++ [r]) mu4) ∧ ∀ acc mu', I ws.length acc mu' → P (.m D) (setM mu' D (.lst acc))
abbrev lcPost1 (B : (Cx → Prop) → Prop) (T : Tg) (elt t : Expr) (vs : List Nat) (G : Gs) (P : PW1) : List W → (Mu → Prop) → Mu → Prop := fun ws Gm mu1 => ∀ D, mu1 D = none → ∃ I : Nat → List W → Mu → Prop, I 0 [] mu1 ∧ (∀ i acc mu', i ≤ ws.length → I i acc mu' → Gm mu') ∧
  (∀ i w acc mu', ws[i]? = some w → I i acc mu' → acc.length < sizeLine ∧ ∃ G2, T.bind w (wipeG G vs) = some G2 ∧ B fun Y => ST Y t G2 mu' fun b mu3 => if2 b (B fun Z => SE Z elt G2 mu3 fun r mu4 => I (i + 1) (acc ++ [r]) mu4) (I (i + 1) acc mu3)) ∧ ∀ acc mu', I ws.length acc mu' → P (.m D) (setM mu' D (.lst acc))
/-- in every block of a comprehension with this scope -/
def InBlk (X : Cx) (scope : Scope) (p : Cx → Prop) : Prop := ∀ (s : Shared) (H : Hp) (C : Addr) (cl : List (Str × Addr)) (fp : List Addr), p (X.blk s H scope (compEnvC scope cl C X.env) fp)
theorem lc_tur0 {scope : Scope} {own : List (Str × Nat)} {tg iter elt : Expr} (T : Tg) {P : PW1} {σ : St} {H : Hp} {Q : VK} (ha : T.all (fun i => decide (i ∈ own.map (·.2))) = true) (d : DenG X.K H G σ) (m : HM X.K H mu) (k : Kont X.K mu H P Q)
    (h : SI X tg iter G mu (lcPost (InBlk X scope) T elt (own.map (·.2)) G P)) :
    tLc (tI X tg iter) (gT X.K T) tYes (fun σ2 H2 Q2 => ∀ (s : Shared) (H : Hp) (C : Addr) (cl : List (Str × Addr)) (fp : List Addr), tE (X.blk s H scope (compEnvC scope cl C X.env) fp) elt σ2 H2 Q2) (own.map (·.2)) σ H Q := by
  refine lc_rd d m k (fun σ0 H0 R d0 m0 kk => h σ0 H0 R d0 m0 fun J ws Gm mu1 H1 hI c1 m1 iw => kk J ws Gm mu1 H1 (fun D hD => ?_) c1 m1 iw)
  obtain ⟨I, i0, ig, it, ie⟩ := hI D hD
  refine ⟨I, i0, ig, fun i w acc mu' hw q => ?_, ie⟩
  obtain ⟨hl, G2, hb, he⟩ := it i w acc mu' hw q
  refine ⟨hl, fun σ' H' v R dw m3 dv r1 r2 => gT_run T hb ha dw dv fun σ2 d2 e2 => ⟨e2.trans wipe_wipe, iteT (B := R none H') fun s Hs C cl fp => he s Hs C cl fp σ2 H' _ d2 m3 fun y r mu4 H4 q4 c4 d4 m4 => r1 r y mu4 H4 c4 m4 d4 q4⟩⟩
theorem lc_tur1 {scope : Scope} {own : List (Str × Nat)} {tg iter elt t : Expr} (T : Tg) {P : PW1} {σ : St} {H : Hp} {Q : VK} (ha : T.all (fun i => decide (i ∈ own.map (·.2))) = true) (d : DenG X.K H G σ) (m : HM X.K H mu) (k : Kont X.K mu H P Q)
    (h : SI X tg iter G mu (lcPost1 (InBlk X scope) T elt t (own.map (·.2)) G P)) :
    tLc (tI X tg iter) (gT X.K T) (fun σ2 H2 Q2 => ∀ (s : Shared) (H : Hp) (C : Addr) (cl : List (Str × Addr)) (fp : List Addr), tT (X.blk s H scope (compEnvC scope cl C X.env) fp) t σ2 H2 Q2)
      (fun σ2 H2 Q2 => ∀ (s : Shared) (H : Hp) (C : Addr) (cl : List (Str × Addr)) (fp : List Addr), tE (X.blk s H scope (compEnvC scope cl C X.env) fp) elt σ2 H2 Q2) (own.map (·.2)) σ H Q := by
  refine lc_rd d m k (fun σ0 H0 R d0 m0 kk => h σ0 H0 R d0 m0 fun J ws Gm mu1 H1 hI c1 m1 iw => kk J ws Gm mu1 H1 (fun D hD => ?_) c1 m1 iw)
  obtain ⟨I, i0, ig, it, ie⟩ := hI D hD
  refine ⟨I, i0, ig, fun i w acc mu' hw q => ?_, ie⟩
  obtain ⟨hl, G2, hb, he⟩ := it i w acc mu' hw q
  refine ⟨hl, fun σ' H' v R dw m3 dv r1 r2 => gT_run T hb ha dw dv fun σ2 d2 e2 => ⟨e2.trans wipe_wipe, fun s Hs C cl fp => he s Hs C cl fp σ2 H' _ d2 m3 fun b mu3 H3 hb3 c3 m3' => ?_⟩⟩
  cases b with
  | true => exact iteT (B := R none H3) fun s Hs C cl fp => (show InBlk X scope _ from hb3) s Hs C cl fp σ2 H3 _ (c3.denG m3 d2) m3' fun y r mu4 H4 q4 c4 d4 m4 => r1 r y mu4 H4 (c3.trans c4) m4 d4 q4
  | false => exact iteF (A := ∀ (s : Shared) (H : Hp) (C : Addr) (cl : List (Str × Addr)) (fp : List Addr), tE (X.blk s H scope (compEnvC scope cl C X.env) fp) elt σ2 H3 fun y H4 => R (some y) H4) (r2 mu3 H3 c3 m3' hb3)
theorem se_lc {scope : Scope} {own : List (Str × Nat)} {tg iter elt : Expr} (T : Tg) (hc : X.calm = true) (hN : X.N.Nodup) (ok : BlkOk X.N X.env.scope scope own) (ha : T.all (fun i => decide (i ∈ own.map (·.2))) = true)
    (hg : ∀ (s : Shared) (H : Hp) (C : Addr) (cl : List (Str × Addr)) (fp : List Addr), PG (X.blk s H scope (compEnvC scope cl C X.env) fp) tg (gT X.K T)) (hs : ∀ x, foldedSetIterable iter X.env x = pure x)
    (h : SI X tg iter G mu (lcPost (InBlk X scope) T elt (own.map (·.2)) G P)) : SE X (.ListComp elt [⟨tg, iter, [], 0⟩] scope pos) G mu P :=
  SE.mk (pe_lc hc hN piI ok hg (fun _ _ _ _ _ => pts_nil) (fun s H C cl fp => ⟨fun pins s' σ H' Q I h => h s H C cl fp pins s' I⟩) hs) fun σ H Q d m k => lc_tur0 T ha d m k h
theorem se_lc1 {scope : Scope} {own : List (Str × Nat)} {tg iter elt t : Expr} (T : Tg) (hc : X.calm = true) (hN : X.N.Nodup) (ok : BlkOk X.N X.env.scope scope own) (ha : T.all (fun i => decide (i ∈ own.map (·.2))) = true)
    (hg : ∀ (s : Shared) (H : Hp) (C : Addr) (cl : List (Str × Addr)) (fp : List Addr), PG (X.blk s H scope (compEnvC scope cl C X.env) fp) tg (gT X.K T)) (hs : ∀ x, foldedSetIterable iter X.env x = pure x)
    (h : SI X tg iter G mu (lcPost1 (InBlk X scope) T elt t (own.map (·.2)) G P)) : SE X (.ListComp elt [⟨tg, iter, [t], 0⟩] scope pos) G mu P :=
  SE.mk (pe_lc hc hN piI ok hg (fun s H C cl fp => pts_one ⟨fun pins s' σ H' Q I h => h s H C cl fp pins s' I⟩) (fun s H C cl fp => ⟨fun pins s' σ H' Q I h => h s H C cl fp pins s' I⟩) hs) fun σ H Q d m k => lc_tur1 T ha d m k h
theorem ss_setlc {E : WE} {i : Nat} {y : Str} {py spos : Pos} {scope : Scope} {own : List (Str × Nat)} {tg iter elt : Expr} (T : Tg) (hc : X.calm = true) (hN : X.N.Nodup) (hy : X.N[i]? = some y) (hyl : X.env.scope.names.lookup y = some .local)
    (hsw : swapsWith (.ListComp elt [⟨tg, iter, [], 0⟩] scope pos) (some (.Name y py)) spos.line X.env = pure true) (ok : BlkOk X.N X.env.scope scope own) (ha : T.all (fun i => decide (i ∈ own.map (·.2))) = true)
    (hg : ∀ (s : Shared) (H : Hp) (C : Addr) (cl : List (Str × Addr)) (fp : List Addr), PG (X.blk s H scope (compEnvC scope cl C X.env) fp) tg (gT X.K T)) (hs : ∀ x, foldedSetIterable iter X.env x = pure x)
    (h : SI X tg iter G mu (lcPost (InBlk X scope) T elt (own.map (·.2)) G fun w mu1 => E.nx (G.set i (some w)) mu1)) : SS X (.Assign [.Name y py] (.ListComp elt [⟨tg, iter, [], 0⟩] scope pos) spos) G mu E :=
  SS.mk (ps_setLc hc hN hy hyl hsw piI ok hg (fun _ _ _ _ _ => pts_nil) (fun s H C cl fp => ⟨fun pins s' σ H' Q I h => h s H C cl fp pins s' I⟩) hs) fun σ H D d m k =>
    lc_tur0 (P := fun w mu1 => E.nx (G.set i (some w)) mu1) T ha d m (fun v w mu1 H1 h1 c1 d1 m1 => k.nx _ _ _ _ h1 c1 (DenG.set (c1.denG m d) d1) m1) h
theorem ss_setlc1 {E : WE} {i : Nat} {y : Str} {py spos : Pos} {scope : Scope} {own : List (Str × Nat)} {tg iter elt t : Expr} (T : Tg) (hc : X.calm = true) (hN : X.N.Nodup) (hy : X.N[i]? = some y) (hyl : X.env.scope.names.lookup y = some .local)
    (hsw : swapsWith (.ListComp elt [⟨tg, iter, [t], 0⟩] scope pos) (some (.Name y py)) spos.line X.env = pure true) (ok : BlkOk X.N X.env.scope scope own) (ha : T.all (fun i => decide (i ∈ own.map (·.2))) = true)
    (hg : ∀ (s : Shared) (H : Hp) (C : Addr) (cl : List (Str × Addr)) (fp : List Addr), PG (X.blk s H scope (compEnvC scope cl C X.env) fp) tg (gT X.K T)) (hs : ∀ x, foldedSetIterable iter X.env x = pure x)
    (h : SI X tg iter G mu (lcPost1 (InBlk X scope) T elt t (own.map (·.2)) G fun w mu1 => E.nx (G.set i (some w)) mu1)) : SS X (.Assign [.Name y py] (.ListComp elt [⟨tg, iter, [t], 0⟩] scope pos) spos) G mu E :=
  SS.mk (ps_setLc hc hN hy hyl hsw piI ok hg (fun s H C cl fp => pts_one ⟨fun pins s' σ H' Q I h => h s H C cl fp pins s' I⟩) (fun s H C cl fp => ⟨fun pins s' σ H' Q I h => h s H C cl fp pins s' I⟩) hs) fun σ H D d m k =>
    lc_tur1 (P := fun w mu1 => E.nx (G.set i (some w)) mu1) T ha d m (fun v w mu1 H1 h1 c1 d1 m1 => k.nx _ _ _ _ h1 c1 (DenG.set (c1.denG m d) d1) m1) h
end
end Dv
set_option Elab.async false
set_option linter.all false
set_option maxRecDepth 100000
/-! Calls of defs and of built-ins by values; data. -/
namespace Dv
open PySem L2

/-! ### defs -/
/-- a def's promise by values -/
abbrev SpW := List W → Mu → PW1 → Prop
def spW (K : PySem.W.Frag) (S : SpW) : Sp := fun vs H Q _ => ∃ ws mu P, S ws mu P ∧ DenAll K H ws vs ∧ HM K H mu ∧ Kont K mu H P Q
def startW (N : List Str) (ws : List W) : Gs := ws.map some ++ List.replicate (N.length - ws.length) none
theorem start_den {K : PySem.W.Frag} {H : Hp} {N : List Str} {ws : List W} {vs : List V} (d : DenAll K H ws vs) : DenG K H (startW N ws) (L2.start N vs) := by
  have hl := d.length
  refine ⟨by unfold startW L2.start; simp [hl], fun i w h => ?_⟩
  unfold startW at h
  unfold L2.start
  by_cases z : i < ws.length
  · rw [List.getElem?_append_left (by simpa using z), List.getElem?_map] at h
    cases e : ws[i]? with
    | none => rw [e] at h; cases h
    | some w' =>
      rw [e] at h
      cases h
      obtain ⟨v, h1, h2⟩ := d.get' e
      exact ⟨v, by rw [List.getElem?_append_left (by simpa [← hl] using z), List.getElem?_map, h1]; rfl, h2⟩
  · rw [List.getElem?_append_right (by simpa using z)] at h
    rw [List.getElem?_replicate] at h
    split at h <;> simp at h
section
variable {P : Program} {w : World} {K : PySem.W.Frag} {mg : Str → Option Value} {base : Heap}
theorem okW {x qual : Str} {st : Stmt} {f : Addr} {fd : FuncData} {N ps : List Str} {k : Nat} {S : SpW} (F : Fun K x qual st f fd) (Sc : FnScope N ps (defScope st)) (len : ∀ ws mu P, S ws mu P → ws.length = ps.length)
    (body : ∀ (cdv : Value) (A : Around) (outer : List Env) (s : Shared) (H : Hp) (E : XK), Room k (A.deeper (PyProof.Rows.envOfC qual (defScope st) s.heap.objs.size f cdv)) → ∀ ws mu Pt, S ws mu Pt →
      SSs (cxOf CX0 P w K mg base N qual (defScope st) f cdv A outer s H E).nox (defBody st) (startW N ws) mu { nx := fun _ mu' => Pt .non mu', rt := Pt }) : FnOk P w K mg base CX0 (k + 1) f fd ps (spW K S) :=
  F.ok Sc (fun vs H Q E ⟨ws, mu, Pt, h, d, _, _⟩ => d.length ▸ len ws mu Pt h) fun cdv A outer s H vs Q E hr ⟨ws, mu, Pt, h, d, m, k⟩ =>
    ⟨_, pssS, body cdv A outer s H E hr ws mu Pt h _ _ _ (start_den d) m ⟨fun σ G mu' H' h' c d' m' => k .non .non mu' H' h' c rfl m', k, fun _ _ _ _ h => h.elim, fun _ _ _ _ h => h.elim⟩⟩
end
section
variable {X : Cx} {e a b c : Expr} {es : List Expr} {st : Stmt} {sts : List Stmt} {G : Gs} {mu mu' : Mu} {pos p : Pos} {P : PW1}
theorem se_call {k : Nat} {f : Addr} {fd : FuncData} {ps : List Str} {S : SpW} {x : Str} (F : FnOk X.prog X.w X.K X.mg X.base CX0 k f fd ps (spW X.K S)) (hr : Room k X.A) (hm : X.mg x = some (.ref f)) (hk : PySem.W.keepIn X.K (.ref f) = true) (hb : Binds X.K fd ps [])
    (h : SA X (e :: es) G mu fun ws mu1 => S ws mu1 P) (hg : Gl X x := by rfl) (hdb : (x == ("__debug__" : Str)) = false := by decide) (he : starEach (e :: es) X.env = (false, eval e X.env) :: starEach es X.env := by rfl) (hpl : (backTo pos (starEach es X.env)).any (·.1) = false := by rfl) :
    SE X (.Call (.Name x p) (e :: es) [] pos) G mu P :=
  SE.mk (pe_call F hr hg hm hk hb .nil pass0 paA hdb he hpl) fun σ H Q d m k => h σ H _ d m fun vs ws mu1 H1 h1 c1 d1 m1 => ⟨ws, mu1, P, h1, by rw [List.append_nil]; exact d1, m1, k.step c1⟩

/-! ### built-ins called by their name -/
/-- a built-in's rule by values -/
def CallW (X : Cx) (r : List V → Hp → VK → Prop) (f : List W → Mu → PW1 → Prop) : Prop := ∀ ws vs mu H P Q, DenAll X.K H ws vs → HM X.K H mu → f ws mu P → Kont X.K mu H P Q → r vs H Q
theorem se_blt {x : Str} {id : String} {r : List V → Hp → VK → Prop} {f : List W → Mu → PW1 → Prop} (hc : CallR X (.builtin id) r) (hw : CallW X r f) (hm : X.mg x = none) (h : SA X (e :: es) G mu fun ws mu1 => f ws mu1 P)
    (hv : bootBuiltins x = some (.builtin id) := by decide +kernel) (hg : Gl X x := by rfl) (hn : x ≠ "__name__" := by decide) (hdb : (x == ("__debug__" : Str)) = false := by decide)
    (he : starEach (e :: es) X.env = (false, eval e X.env) :: starEach es X.env := by rfl) (hpl : (backTo pos (starEach es X.env)).any (·.1) = false := by rfl) : SE X (.Call (.Name x p) (e :: es) [] pos) G mu P :=
  SE.mk (pe_callB hc hg hm hv paA hn hdb he hpl) fun σ H Q d m k => h σ H _ d m fun vs ws mu1 H1 h1 c1 d1 m1 => hw _ _ _ _ _ _ d1 m1 h1 (k.step c1)
theorem se_bty {x : Str} {T : String} {r : List V → Hp → VK → Prop} {f : List W → Mu → PW1 → Prop} (hc : CallR X (.type T) r) (hw : CallW X r f) (hm : X.mg x = none) (h : SA X (e :: es) G mu fun ws mu1 => f ws mu1 P)
    (hv : bootBuiltins x = some (.type T) := by decide +kernel) (hg : Gl X x := by rfl) (hn : x ≠ "__name__" := by decide) (hdb : (x == ("__debug__" : Str)) = false := by decide)
    (he : starEach (e :: es) X.env = (false, eval e X.env) :: starEach es X.env := by rfl) (hpl : (backTo pos (starEach es X.env)).any (·.1) = false := by rfl) : SE X (.Call (.Name x p) (e :: es) [] pos) G mu P :=
  SE.mk (pe_callTy hc hg hm hv paA hn hdb he hpl) fun σ H Q d m k => h σ H _ d m fun vs ws mu1 H1 h1 c1 d1 m1 => hw _ _ _ _ _ _ d1 m1 h1 (k.step c1)
/-- a built-in's name as a value (a class for isinstance) -/
abbrev lenW (ws : List W) (mu : Mu) (P : PW1) : Prop := match ws with
  | [.str s] => s.length ≤ sizeLine ∧ P (.int s.length) mu
  | [.tup ws] => P (.int ws.length) mu
  | [.m a] => ∃ ws, mu a = some (.lst ws) ∧ P (.int ws.length) mu
  | _ => False
theorem DenAll.one {K : PySem.W.Frag} {H : Hp} {w : W} {vs : List V} (d : DenAll K H [w] vs) : ∃ v, vs = [v] ∧ Den K H w v := by
  obtain ⟨v, r, e, d1, d2⟩ := d
  have d2 : r = [] := d2
  subst d2
  exact ⟨v, e, d1⟩
theorem DenAll.two {K : PySem.W.Frag} {H : Hp} {w w' : W} {vs : List V} (d : DenAll K H [w, w'] vs) : ∃ v v', vs = [v, v'] ∧ Den K H w v ∧ Den K H w' v' := by
  obtain ⟨v, r, e, d1, d2⟩ := d
  obtain ⟨v', e2, d3⟩ := DenAll.one d2
  subst e2
  exact ⟨v, v', e, d1, d3⟩
theorem len_w : CallW X (fun xs H Q => ∃ x n, xs = [x] ∧ LenV X.K x H n ∧ Q (.int n) H) lenW := fun ws vs mu H P Q d m h k => by
  unfold lenW at h
  split at h
  · rename_i s
    obtain ⟨v, rfl, dv⟩ := d.one
    have dv : v = .str s := dv
    subst dv
    exact ⟨_, s.length, rfl, ⟨h.1, rfl⟩, k.now h.2 rfl m⟩
  · rename_i ws
    obtain ⟨v, rfl, a, xs, rfl, s, dx⟩ := d.one
    exact ⟨_, ws.length, rfl, .inr ⟨xs, s, dx.length⟩, k.now h rfl m⟩
  · rename_i a
    obtain ⟨ws, h1, h2⟩ := h
    obtain ⟨v, rfl, dv⟩ := d.one
    have dv : v = .ref a := dv
    subst dv
    obtain ⟨xs, hx, dx⟩ := m a _ h1
    exact ⟨_, ws.length, rfl, .inl ⟨xs, SqL.of hx, dx.length⟩, k.now h2 rfl m⟩
  · exact h.elim
theorem se_len (h : SE X e G mu fun w mu1 => lenW [w] mu1 P) (hm : X.mg "len" = none) (hg : Gl X "len" := by rfl) (hs : starEach [e] X.env = [(false, eval e X.env)] := by rfl) (hpl : (backTo pos (starEach [] X.env)).any (·.1) = false := by rfl) : SE X (.Call (.Name "len" p) [e] [] pos) G mu P :=
  se_blt call_len len_w hm (sa_cons (fun σ H Q d m k => h σ H Q d m fun v w mu1 H1 h1 c1 d1 m1 => k v w mu1 H1 (fun σ2 H2 Q2 d2 m2 k2 => sa_nil h1 σ2 H2 Q2 d2 m2 k2) c1 d1 m1) hs) PySem.boot_len hg (by decide) (by decide) hs hpl
/-- one argument, as a call's arguments -/
theorem sa_one {P : List W → Mu → Prop} (h : SE X e G mu fun w mu1 => P [w] mu1) (hs : starEach [e] X.env = [(false, eval e X.env)] := by rfl) : SA X [e] G mu P :=
  sa_cons (fun σ H Q d m k => h σ H Q d m fun v w mu1 H1 h1 c1 d1 m1 => k v w mu1 H1 (sa_nil h1) c1 d1 m1) hs
theorem sa_two {P : List W → Mu → Prop} (h : SE X a G mu fun w mu1 => SE X b G mu1 fun w2 mu2 => P [w, w2] mu2) (hs : starEach [a, b] X.env = (false, eval a X.env) :: starEach [b] X.env := by rfl) (hs2 : starEach [b] X.env = [(false, eval b X.env)] := by rfl) : SA X [a, b] G mu P :=
  sa_cons (fun σ H Q d m k => h σ H Q d m fun v w mu1 H1 h1 c1 d1 m1 => k v w mu1 H1 (sa_one h1 hs2) c1 d1 m1) hs
/-! all, any of a list of bools -/
theorem denAll_bl {K : PySem.W.Frag} {H : Hp} : ∀ {bs : List Bool} {vs : List V}, DenAll K H (bs.map W.bl) vs → vs = bs.map V.bl
  | [], _, d => d
  | b :: bs, _, ⟨v, r, e, d1, d2⟩ => by
    have d1 : v = .bl b := d1
    subst e d1
    rw [denAll_bl d2]
    rfl
theorem denAll_str {K : PySem.W.Frag} {H : Hp} : ∀ {bs : List Str} {vs : List V}, DenAll K H (bs.map W.str) vs → vs = bs.map V.str
  | [], _, d => d
  | b :: bs, _, ⟨v, r, e, d1, d2⟩ => by
    have d1 : v = .str b := d1
    subst e d1
    rw [denAll_str d2]
    rfl
abbrev allW (ws : List W) (mu : Mu) (P : PW1) : Prop := match ws with | [.m a] => ∃ bs : List Bool, mu a = some (.lst (bs.map W.bl)) ∧ P (.bl (bs.all id)) mu | _ => False
abbrev anyW (ws : List W) (mu : Mu) (P : PW1) : Prop := match ws with | [.m a] => ∃ bs : List Bool, mu a = some (.lst (bs.map W.bl)) ∧ P (.bl (bs.any id)) mu | _ => False
theorem all_w : CallW X (rAll X.K) allW := fun ws vs mu H P Q d m h k => by
  unfold allW at h
  split at h
  · rename_i a
    obtain ⟨bs, h1, h2⟩ := h
    obtain ⟨v, rfl, dv⟩ := d.one
    have dv : v = .ref a := dv
    subst dv
    obtain ⟨xs, hx, dx⟩ := m a _ h1
    rw [denAll_bl dx] at hx
    exact ⟨a, bs, rfl, SqL.of hx, k.now h2 rfl m⟩
  · exact h.elim
theorem any_w : CallW X (rAny X.K) anyW := fun ws vs mu H P Q d m h k => by
  unfold anyW at h
  split at h
  · rename_i a
    obtain ⟨bs, h1, h2⟩ := h
    obtain ⟨v, rfl, dv⟩ := d.one
    have dv : v = .ref a := dv
    subst dv
    obtain ⟨xs, hx, dx⟩ := m a _ h1
    rw [denAll_bl dx] at hx
    exact ⟨a, bs, rfl, SqL.of hx, k.now h2 rfl m⟩
  · exact h.elim
/-! tuple(list) -/
abbrev tupleW (ws : List W) (mu : Mu) (P : PW1) : Prop := match ws with | [.m a] => ∃ ws, mu a = some (.lst ws) ∧ P (.tup ws) mu | [.tup ws] => P (.tup ws) mu | _ => False
theorem tuple_w : CallW X (fun xs H Q => ∃ p ys, xs = [.ref p] ∧ ((SqL X.K H p ys ∧ ∀ l, H l = none → Q (.ref l) (upd H l (.tup ys))) ∨ (SqT X.K H p ys ∧ Q (.ref p) H))) tupleW := fun ws vs mu H P Q d m h k => by
  unfold tupleW at h
  split at h
  · rename_i a
    obtain ⟨ws, h1, h2⟩ := h
    obtain ⟨v, rfl, dv⟩ := d.one
    have dv : v = .ref a := dv
    subst dv
    obtain ⟨xs, hx, dx⟩ := m a _ h1
    refine ⟨a, xs, rfl, .inl ⟨SqL.of hx, fun l hl => ?_⟩⟩
    obtain ⟨c2, m2⟩ := laid (o := .tup xs) m hl
    exact k _ _ mu _ h2 c2 ⟨l, xs, rfl, SqT.of upd_same, c2.denAll m dx⟩ m2
  · rename_i ws
    obtain ⟨v, rfl, a, xs, rfl, s, dx⟩ := d.one
    exact ⟨a, xs, rfl, .inr ⟨s, k.now h ⟨a, xs, rfl, s, dx⟩ m⟩⟩
  · exact h.elim
/-! list(list or tuple) -/
abbrev listW (ws : List W) (mu : Mu) (P : PW1) : Prop := match ws with
  | [.m a] => ∃ ws, mu a = some (.lst ws) ∧ ∀ p, mu p = none → P (.m p) (setM mu p (.lst ws))
  | [.tup ws] => ∀ p, mu p = none → P (.m p) (setM mu p (.lst ws))
  | _ => False
theorem list_w : CallW X (fun xs H Q => ∃ p ys, xs = [.ref p] ∧ (SqL X.K H p ys ∨ SqT X.K H p ys) ∧ ∀ l, H l = none → Q (.ref l) (upd H l (.lst ys))) listW := fun ws vs mu H P Q d m h k => by
  unfold listW at h
  split at h
  · rename_i a
    obtain ⟨ws, h1, h2⟩ := h
    obtain ⟨v, rfl, dv⟩ := d.one
    have dv : v = .ref a := dv
    subst dv
    obtain ⟨xs, hx, dx⟩ := m a _ h1
    refine ⟨a, xs, rfl, .inl (SqL.of hx), fun l hl => ?_⟩
    obtain ⟨c2, m2⟩ := laidC (o := .lst xs) (c := .lst ws) m hl (newLst dx)
    exact k _ _ _ _ (h2 l (m.dom hl)) c2 rfl m2
  · rename_i ws
    obtain ⟨v, rfl, a, xs, rfl, s, dx⟩ := d.one
    refine ⟨a, xs, rfl, .inr s, fun l hl => ?_⟩
    obtain ⟨c2, m2⟩ := laidC (o := .lst xs) (c := .lst ws) m hl (newLst dx)
    exact k _ _ _ _ (h l (m.dom hl)) c2 rfl m2
  · exact h.elim
/-! isinstance -/
def tyN (mu : Mu) : W → Option String
  | .non => some "NoneType"
  | .bl _ => some "bool"
  | .int _ => some "int"
  | .str _ => some "str"
  | .tup _ => some "tuple"
  | .m a => match mu a with
    | some (.lst _) => some "list"
    | some (.dic _) => some "dict"
    | _ => none
theorem tyN_ok {K : PySem.W.Frag} {H : Hp} {w : W} {v : V} {n : String} (d : Den K H w v) (m : HM K H mu) (h : tyN mu w = some n) : TyX K H v (.type n) := by
  cases w with
  | non => cases h; have d : v = .non := d; subst d; exact .base .non
  | bl b => cases h; have d : v = .bl b := d; subst d; exact .base (.bl b)
  | int b => cases h; have d : v = .int b := d; subst d; exact .base (.int b)
  | str b => cases h; have d : v = .str b := d; subst d; exact .base (.str b)
  | tup ws =>
    cases h
    obtain ⟨a, xs, rfl, s, dx⟩ := d
    rcases s with (s | ⟨o, s⟩) | ⟨o, its, n, s, hc, _⟩
    · exact .base (.tup s)
    · exact .fTuple s
    · exact .kTuple s hc
  | m a =>
    have d : v = .ref a := d
    subst d
    have h : (match mu a with | some (.lst _) => some "list" | some (.dic _) => some "dict" | _ => none) = some n := h
    cases e : mu a with
    | none => rw [e] at h; cases h
    | some c =>
      rw [e] at h
      cases c with
      | lst ws => cases h; obtain ⟨xs, hx, _⟩ := m a _ e; exact .base (.lst hx)
      | dic ws => cases h; obtain ⟨xs, hx, _⟩ := m a _ e; exact .base (.dK hx)
      | ins Cl fs => cases h
theorem se_isi {q : Pos} {x : Str} {T : String} (h : SE X e G mu fun w mu1 => ∃ n r, tyN mu1 w = some n ∧ kitB n T = some r ∧ P (.bl r) mu1) (hm : X.mg "isinstance" = none) (hmx : X.mg x = none) (hv : bootBuiltins x = some (.type T) := by decide +kernel)
    (hg : Gl X "isinstance" := by rfl) (hgx : Gl X x := by rfl) (hnx : x ≠ "__name__" := by decide) (hdx : (x == ("__debug__" : Str)) = false := by decide) (hs : starEach [e, .Name x q] X.env = (false, eval e X.env) :: starEach [.Name x q] X.env := by rfl)
    (hs2 : starEach [.Name x q] X.env = [(false, eval (.Name x q) X.env)] := by rfl) (hpl : (backTo pos (starEach [.Name x q] X.env)).any (·.1) = false := by rfl) : SE X (.Call (.Name "isinstance" p) [e, .Name x q] [] pos) G mu P :=
  SE.mk (pe_callB call_isi hg hm (by decide +kernel) (pa_cons peE (pa_cons (pe_bltn (v := .ty T) hgx hmx hv rfl hnx hdx) pa_nil hs2) hs) (by decide) (by decide) hs hpl) fun σ H Q d m k =>
    h σ H _ d m fun v w mu1 H1 ⟨n, r, h1, h2, h3⟩ c1 d1 m1 => ⟨v, .ty T, .type n, .type T, r, rfl, .ty T, tyN_ok d1 m1 h1, kit_ty h2, k _ _ _ _ h3 c1 rfl m1⟩
end
end Dv
set_option Elab.async false
set_option linter.all false
set_option maxRecDepth 100000
/-! Data: comparisons, membership, order; subscripts and slices; zip. -/
namespace Dv
open PySem L2
mutual
def dat : W → PyData
  | .non => .none
  | .bl b => .bool b
  | .int i => .int i
  | .str x => .str x
  | .tup ws => .tuple (dats ws)
  | .m _ => .none
def dats : List W → List PyData
  | [] => []
  | w :: ws => dat w :: dats ws
end
mutual
def plW : W → Bool
  | .m _ => false
  | .tup ws => plsW ws
  | _ => true
def plsW : List W → Bool
  | [] => true
  | w :: ws => plW w && plsW ws
end
section
variable {K : PySem.W.Frag} {H : Hp}
mutual
theorem Den.dp : ∀ (w : W) {v : V}, plW w = true → Den K H w v → Dp K H v (dat w)
  | .non, _, _, d => by have d : _ = _ := d; subst d; exact .non
  | .bl b, _, _, d => by have d : _ = _ := d; subst d; exact .bl b
  | .int b, _, _, d => by have d : _ = _ := d; subst d; exact .int b
  | .str b, _, _, d => by have d : _ = _ := d; subst d; exact .str b
  | .tup ws, _, p, ⟨a, xs, e, s, dx⟩ => by subst e; unfold dat; exact .tup s (DenAll.dp ws (by unfold plW at p; exact p) dx)
  | .m _, _, p, _ => by unfold plW at p; cases p
theorem DenAll.dp : ∀ (ws : List W) {vs : List V}, plsW ws = true → DenAll K H ws vs → DpAll K H vs (dats ws)
  | [], _, _, d => by have d : _ = _ := d; subst d; exact .nil
  | w :: ws, _, p, ⟨v, r, e, d1, d2⟩ => by
    subst e
    unfold plsW at p
    rw [Bool.and_eq_true] at p
    unfold dats
    exact .cons (Den.dp w p.1 d1) (DenAll.dp ws p.2 d2)
end
end
/-- data that may be compared: no references, not too deep -/
def okD (w : W) : Bool := plW w && SeqAt.shaped (dat w)
section
variable {X : Cx} {e a b c : Expr} {es : List Expr} {st : Stmt} {sts : List Stmt} {G : Gs} {mu mu' : Mu} {pos p : Pos} {P : PW1}
/-- a list cell of plW data, or plW data -/
def asD (mu : Mu) : W → Option PyData
  | .m a => match mu a with
    | some (.lst ws) => if plsW ws then some (.list (dats ws)) else none
    | _ => none
  | w => if plW w then some (dat w) else none
theorem asD_ok {K : PySem.W.Frag} {H : Hp} {w : W} {v : V} {d : PyData} (m : HM K H mu) (dv : Den K H w v) (h : asD mu w = some d) : Dp K H v d := by
  have pl : ∀ w, (if plW w = true then some (dat w) else none) = some d → Den K H w v → Dp K H v d := fun w h dv => by
    by_cases q : plW w = true
    · rw [if_pos q] at h
      cases h
      exact Den.dp w q dv
    · rw [if_neg q] at h
      cases h
  cases w with
  | m a =>
    have dv : v = .ref a := dv
    subst dv
    have h : (match mu a with | some (.lst ws) => if plsW ws = true then some (PyData.list (dats ws)) else none | _ => none) = some d := h
    cases e : mu a with
    | none => rw [e] at h; cases h
    | some c =>
      rw [e] at h
      cases c with
      | lst ws =>
        have h : (if plsW ws = true then some (PyData.list (dats ws)) else none) = some d := h
        by_cases q : plsW ws = true
        · rw [if_pos q] at h
          cases h
          obtain ⟨xs, hx, dx⟩ := m a _ e
          exact .lst (SqL.of hx) (DenAll.dp ws q dx)
        · rw [if_neg q] at h; cases h
      | dic _ => cases h
      | ins _ _ => cases h
  | non => exact pl .non h dv
  | bl b => exact pl (.bl b) h dv
  | int b => exact pl (.int b) h dv
  | str b => exact pl (.str b) h dv
  | tup b => exact pl (.tup b) h dv
abbrev eqW (w1 w2 : W) (mu : Mu) (P : PW1) : Prop := ∃ d1 d2, asD mu w1 = some d1 ∧ asD mu w2 = some d2 ∧ SeqAt.shaped d1 = true ∧ SeqAt.shaped d2 = true ∧ P (.bl (PyData.eqv d1 d2)) mu
abbrev neW (w1 w2 : W) (mu : Mu) (P : PW1) : Prop := ∃ d1 d2, asD mu w1 = some d1 ∧ asD mu w2 = some d2 ∧ SeqAt.shaped d1 = true ∧ SeqAt.shaped d2 = true ∧ P (.bl (!PyData.eqv d1 d2)) mu
theorem eq_w : OpW X (rEqD X.K) eqW := fun w1 w2 x y mu H P Q dx dy m ⟨d1, d2, h1, h2, s1, s2, h⟩ k => ⟨d1, d2, asD_ok m dx h1, asD_ok m dy h2, s1, s2, k.now h rfl m⟩
theorem ne_w : OpW X (rNeD X.K) neW := fun w1 w2 x y mu H P Q dx dy m ⟨d1, d2, h1, h2, s1, s2, h⟩ k => ⟨d1, d2, asD_ok m dx h1, asD_ok m dy h2, s1, s2, k.now h rfl m⟩
/-! in -/
def rInT (K : PySem.W.Frag) (ng : Bool) : R2 := fun x y H Q => ∃ d ds, Dp K H x d ∧ (Dp K H y (.tuple ds) ∨ Dp K H y (.list ds)) ∧ SeqAt.shaped d = true ∧ PyData.canLayAll0 ds = true ∧ Q (.bl (ng != ds.any fun z => PyData.eqv z d)) H
theorem roomy {d : PyData} {n k : Nat} (h : SeqAt.shaped d = true) (hu : n + 65 < cLine) : n + 1 + min k d.depth < cLine := by
  unfold SeqAt.shaped at h
  rw [Bool.and_eq_true, decide_eq_true_eq] at h
  have := h.2
  omega
theorem op_inT (hu : X.A.units + 65 < cLine) : OpR X (compareOp .In) (rInT X.K false) := by
  intro pins s σ H x y v u Q I rx ry ⟨d, ds, hd, he, sd, se, q⟩
  obtain ⟨as, r1⟩ := Dp.reads I d x v hd rx
  have hl : d.canLay0 = true := by unfold SeqAt.shaped at sd; rw [Bool.and_eq_true] at sd; exact sd.1
  rcases he with he | he
  · obtain ⟨bs, r2⟩ := Dp.reads I _ y u he ry
    exact SeqAt.in_tuple_reads r2 r1 se hl (roomy sd hu) ⟨.bl _, H, I, by show Value.bool _ = Value.bool _; simp, q⟩
  · obtain ⟨bs, r2⟩ := Dp.reads I _ y u he ry
    exact SeqAt.in_list_reads r2 r1 se hl (roomy sd hu) ⟨.bl _, H, I, by show Value.bool _ = Value.bool _; simp, q⟩
theorem op_notInT (hu : X.A.units + 65 < cLine) : OpR X (compareOp .NotIn) (rInT X.K true) := by
  intro pins s σ H x y v u Q I rx ry ⟨d, ds, hd, he, sd, se, q⟩
  obtain ⟨as, r1⟩ := Dp.reads I d x v hd rx
  have hl : d.canLay0 = true := by unfold SeqAt.shaped at sd; rw [Bool.and_eq_true] at sd; exact sd.1
  rcases he with he | he
  · obtain ⟨bs, r2⟩ := Dp.reads I _ y u he ry
    exact SeqAt.notIn_tuple_reads r2 r1 se hl (roomy sd hu) ⟨.bl _, H, I, by show Value.bool _ = Value.bool _; simp, q⟩
  · obtain ⟨bs, r2⟩ := Dp.reads I _ y u he ry
    exact SeqAt.notIn_list_reads r2 r1 se hl (roomy sd hu) ⟨.bl _, H, I, by show Value.bool _ = Value.bool _; simp, q⟩
/-- the items of plW data that is walked or looked through -/
def itD (mu : Mu) : W → Option (List PyData)
  | .tup ws => if plsW ws then some (dats ws) else none
  | .m a => match mu a with
    | some (.lst ws) => if plsW ws then some (dats ws) else none
    | _ => none
  | _ => none
theorem itD_ok {K : PySem.W.Frag} {H : Hp} {w : W} {v : V} {ds : List PyData} (m : HM K H mu) (dv : Den K H w v) (h : itD mu w = some ds) : Dp K H v (.tuple ds) ∨ Dp K H v (.list ds) := by
  cases w with
  | tup ws =>
    have h : (if plsW ws = true then some (dats ws) else none) = some ds := h
    by_cases q : plsW ws = true
    · rw [if_pos q] at h
      cases h
      have := Den.dp (.tup ws) (by unfold plW; exact q) dv
      unfold dat at this
      exact .inl this
    · rw [if_neg q] at h; cases h
  | m a =>
    have dv : v = .ref a := dv
    subst dv
    have h : (match mu a with | some (.lst ws) => if plsW ws = true then some (dats ws) else none | _ => none) = some ds := h
    cases e : mu a with
    | none => rw [e] at h; cases h
    | some c =>
      rw [e] at h
      cases c with
      | lst ws =>
        have h : (if plsW ws = true then some (dats ws) else none) = some ds := h
        by_cases q : plsW ws = true
        · rw [if_pos q] at h
          cases h
          obtain ⟨xs, hx, dx⟩ := m a _ e
          exact .inr (.lst (SqL.of hx) (DenAll.dp ws q dx))
        · rw [if_neg q] at h; cases h
      | dic _ => cases h
      | ins _ _ => cases h
  | _ => cases h
abbrev inW (ng : Bool) (w1 w2 : W) (mu : Mu) (P : PW1) : Prop := plW w1 = true ∧ SeqAt.shaped (dat w1) = true ∧ ∃ ds, itD mu w2 = some ds ∧ PyData.canLayAll0 ds = true ∧ P (.bl (ng != ds.any fun z => PyData.eqv z (dat w1))) mu
theorem in_w (ng : Bool) : OpW X (rInT X.K ng) (inW ng) := fun w1 w2 x y mu H P Q dx dy m ⟨h1, s1, ds, h2, s2, h⟩ k => ⟨_, ds, Den.dp w1 h1 dx, itD_ok m dy h2, s1, s2, k.now h rfl m⟩
/-! in, of texts: one sign -/
abbrev inSW (w1 w2 : W) (mu : Mu) (P : PW1) : Prop := match w1, w2 with | .str i, .str j => P (.bl (!(Builtin.Str.occurrences j i 0 j.length 1).isEmpty)) mu | _, _ => False
theorem inS_w : OpW X (fun x y H Q => ∃ i j, x = .str i ∧ y = .str j ∧ Q (.bl (!(Builtin.Str.occurrences j i 0 j.length 1).isEmpty)) H) inSW := fun w1 w2 x y mu H P Q dx dy m h k => by
  unfold inSW at h
  split at h
  · rename_i i j
    exact ⟨i, j, dx, dy, k.now h rfl m⟩
  · exact h.elim
/-! <, of alike data -/
def rLtD (K : PySem.W.Frag) : R2 := fun x y H Q => ∃ d e, Dp K H x d ∧ Dp K H y e ∧ PySem.W.alike d e = true ∧ d ≠ .none ∧ d.depth ≤ 64 ∧ Q (.bl (PySem.W.dataLt d e)) H
theorem op_ltD (hu : X.A.units + 65 < cLine) : OpR X (compareOp .Lt) (rLtD X.K) := by
  intro pins s σ H x y v u Q I rx ry ⟨d, e, hd, he, al, nn, dp, q⟩
  obtain ⟨as, r1⟩ := Dp.reads I d x v hd rx
  obtain ⟨bs, r2⟩ := Dp.reads I e y u he ry
  exact PySem.W.rcLt_alike d e X.A s v u as bs r1 r2 al nn (by omega) X.prog X.w X.xe _ ⟨.bl _, H, I, rfl, q⟩
abbrev ltW (w1 w2 : W) (mu : Mu) (P : PW1) : Prop := plW w1 = true ∧ plW w2 = true ∧ PySem.W.alike (dat w1) (dat w2) = true ∧ dat w1 ≠ .none ∧ (dat w1).depth ≤ 64 ∧ P (.bl (PySem.W.dataLt (dat w1) (dat w2))) mu
theorem lt_w : OpW X (rLtD X.K) ltW := fun w1 w2 x y mu H P Q dx dy m ⟨h1, h2, al, nn, dp, h⟩ k => ⟨_, _, Den.dp w1 h1 dx, Den.dp w2 h2 dy, al, nn, dp, k.now h rfl m⟩
/-! ints -/
abbrev cmpI (g : Int → Int → Bool) (w1 w2 : W) (mu : Mu) (P : PW1) : Prop := match w1, w2 with | .int i, .int j => P (.bl (g i j)) mu | _, _ => False
theorem cmpI_w {g : Int → Int → Bool} : OpW X (rI0 fun i j => V.bl (g i j)) (cmpI g) := fun w1 w2 x y mu H P Q dx dy m h k => by
  unfold cmpI at h
  split at h
  · rename_i i j
    exact ⟨i, j, dx, dy, k.now h rfl m⟩
  · exact h.elim
end
end Dv
set_option Elab.async false
set_option linter.all false
set_option maxRecDepth 100000
/-! Subscripts, slices, zip, enumerate, fields, methods of lists, while, stores. -/
namespace Dv
open PySem L2
section
variable {X : Cx} {e a b c : Expr} {es : List Expr} {st : Stmt} {sts : List Stmt} {G : Gs} {mu mu' : Mu} {pos p : Pos} {P : PW1}
/-! x[i] -/
abbrev ixW (w1 w2 : W) (mu : Mu) (P : PW1) : Prop := match w1, w2 with
  | .tup ws, .int i => ∃ w, atI ws i = some w ∧ P w mu
  | .m a, .int i => ∃ ws w, mu a = some (.lst ws) ∧ atI ws i = some w ∧ P w mu
  | .str z, .int i => ∃ c, z.length ≤ sizeLine ∧ atI z.cps.toList i = some c ∧ P (.str ⟨#[c]⟩) mu
  | _, _ => False
theorem atI_den {K : PySem.W.Frag} {H : Hp} {ws : List W} {xs : List V} {i : Int} {w : W} (d : DenAll K H ws xs) (h : atI ws i = some w) : ∃ v, atI xs i = some v ∧ Den K H w v := by
  unfold atI at h ⊢
  rw [d.length] at h
  cases e : ixN xs.length i with
  | none => rw [e] at h; cases h
  | some j =>
    rw [e] at h
    have h : ws[j]? = some w := h
    obtain ⟨v, h1, h2⟩ := d.get' h
    exact ⟨v, h1, h2⟩
theorem se_ix (h : SE X a G mu fun w1 mu1 => SE X b G mu1 fun w2 mu2 => ixW w1 w2 mu2 P) (hs : PlainIx b := by exact fun _ _ => rfl) : SE X (.Subscript a b pos) G mu P :=
  SE.mk (pe_ix ix_seq peE peE hs) fun σ H Q d m k => h σ H _ d m fun x w1 mu1 H1 h1 c1 d1 m1 => h1 σ H1 _ (c1.denG m d) m1 fun y w2 mu2 H2 h2 c2 d2 m2 => by
    have d1 := c2.den m1 d1
    have k := k.step (c1.trans c2)
    cases w1 with
    | tup ws =>
      cases w2 with
      | int i =>
        obtain ⟨w, e, q⟩ := h2
        obtain ⟨aa, xs, rfl, s, dx⟩ := d1
        obtain ⟨v, e2, dv⟩ := atI_den dx e
        exact .inr (.inl ⟨aa, xs, i, v, rfl, d2, s, e2, k.now q dv m2⟩)
      | _ => exact False.elim h2
    | m aa =>
      cases w2 with
      | int i =>
        obtain ⟨ws, w, e0, e, q⟩ := h2
        have d1 : x = .ref aa := d1
        subst d1
        obtain ⟨xs, hx, dx⟩ := m2 aa _ e0
        obtain ⟨v, e2, dv⟩ := atI_den dx e
        exact .inl ⟨aa, xs, i, v, rfl, d2, SqL.of hx, e2, k.now q dv m2⟩
      | _ => exact False.elim h2
    | str z =>
      cases w2 with
      | int i =>
        obtain ⟨cc, hz, e, q⟩ := h2
        exact .inr (.inr ⟨z, i, cc, d1, d2, hz, e, k.now q rfl m2⟩)
      | _ => exact False.elim h2
    | _ => cases w2 <;> exact False.elim h2
/-! x[lo:hi] -/
def cutW (xs : List W) (lo hi : Option Int) : List W := (xs.drop (HT.sIx xs.length 0 lo)).take (HT.sIx xs.length xs.length hi - HT.sIx xs.length 0 lo)
theorem cut_den {K : PySem.W.Frag} {H : Hp} {ws : List W} {xs : List V} (lo hi : Option Int) (d : DenAll K H ws xs) : DenAll K H (cutW ws lo hi) (cutV xs lo hi) := by
  unfold cutW cutV
  rw [d.length]
  exact (d.drop _).take _
abbrev slW (w : W) (lo hi : Option Int) (mu : Mu) (P : PW1) : Prop := match w with
  | .tup ws => P (.tup (cutW ws lo hi)) mu
  | .m a => ∃ ws, mu a = some (.lst ws) ∧ ∀ p, mu p = none → P (.m p) (setM mu p (.lst (cutW ws lo hi)))
  | .str z => z.length ≤ sizeLine ∧ P (.str (cutS z lo hi)) mu
  | _ => False
theorem cut_whole {xs : List V} {lo hi : Option Int} (h : HT.sIx xs.length 0 lo = 0 ∧ HT.sIx xs.length xs.length hi = xs.length) : cutV xs lo hi = xs := by
  unfold cutV
  rw [h.1, h.2]
  simp
theorem sl_rd {w : W} {x : V} {lo hi : Option Int} {mu : Mu} {H : Hp} {Q : VK} (d : Den X.K H w x) (m : HM X.K H mu) (h : slW w lo hi mu P) (k : Kont X.K mu H P Q) : rSlL X.K x lo hi H Q ∨ rSlA X.K x lo hi H Q ∨ rSlS x lo hi H Q := by
  unfold slW at h
  split at h
  · rename_i ws
    obtain ⟨aa, xs, rfl, s, dx⟩ := d
    have dc := cut_den lo hi dx
    refine .inr (.inl ⟨aa, xs, rfl, s, fun q => ?_, fun q p hp => ?_⟩)
    · rw [cut_whole q] at dc
      exact k.now h ⟨aa, xs, rfl, s, dc⟩ m
    · obtain ⟨c2, m2⟩ := laid (o := .tup (cutV xs lo hi)) m hp
      exact k _ _ mu _ h c2 ⟨p, _, rfl, SqT.of upd_same, c2.denAll m dc⟩ m2
  · rename_i aa
    obtain ⟨ws, e, h⟩ := h
    have d : x = .ref aa := d
    subst d
    obtain ⟨xs, hx, dx⟩ := m aa _ e
    refine .inl ⟨aa, xs, rfl, SqL.of hx, fun p hp => ?_⟩
    obtain ⟨c2, m2⟩ := laidC (o := .lst (cutV xs lo hi)) (c := .lst (cutW ws lo hi)) m hp (newLst (cut_den lo hi dx))
    exact k _ _ _ _ (h p (m.dom hp)) c2 rfl m2
  · rename_i z
    exact .inr (.inr ⟨z, d, h.1, k.now h.2 rfl m⟩)
  · exact h.elim
theorem sl_all : SlR X fun x l u H Q => rSlL X.K x l u H Q ∨ rSlA X.K x l u H Q ∨ rSlS x l u H Q := SlR.or sl_list (SlR.or sl_tupA sl_str)
abbrev isI (w : W) (P : Int → Prop) : Prop := match w with | .int i => P i | _ => False
theorem isI_den {K : PySem.W.Frag} {H : Hp} {w : W} {v : V} {P : Int → Prop} (h : isI w P) (d : Den K H w v) : ∃ i, v = .int i ∧ P i := by
  cases w with
  | int i => exact ⟨i, d, h⟩
  | _ => exact h.elim
theorem se_slFrom {p2 : Pos} (h : SE X a G mu fun w1 mu1 => SE X b G mu1 fun w2 mu2 => isI w2 fun i => slW w1 (some i) none mu2 P) : SE X (.Subscript a (.Slice (some b) none none p2) pos) G mu P :=
  SE.mk (pe_slice sl_all peE (po_some peE) po_none) fun σ H Q d m k => h σ H _ d m fun x w1 mu1 H1 h1 c1 d1 m1 => h1 σ H1 _ (c1.denG m d) m1 fun y w2 mu2 H2 h2 c2 d2 m2 => by
    obtain ⟨i, e, q⟩ := isI_den h2 d2
    exact ⟨i, e, sl_rd (c2.den m1 d1) m2 q (k.step (c1.trans c2))⟩
theorem se_slTo {p2 : Pos} (h : SE X a G mu fun w1 mu1 => SE X b G mu1 fun w2 mu2 => isI w2 fun i => slW w1 none (some i) mu2 P) : SE X (.Subscript a (.Slice none (some b) none p2) pos) G mu P :=
  SE.mk (pe_slice sl_all peE po_none (po_some peE)) fun σ H Q d m k => h σ H _ d m fun x w1 mu1 H1 h1 c1 d1 m1 => h1 σ H1 _ (c1.denG m d) m1 fun y w2 mu2 H2 h2 c2 d2 m2 => by
    obtain ⟨i, e, q⟩ := isI_den h2 d2
    exact ⟨i, e, sl_rd (c2.den m1 d1) m2 q (k.step (c1.trans c2))⟩
theorem se_slMid {p2 : Pos} (h : SE X a G mu fun w1 mu1 => SE X b G mu1 fun w2 mu2 => isI w2 fun i => SE X c G mu2 fun w3 mu3 => isI w3 fun j => slW w1 (some i) (some j) mu3 P) : SE X (.Subscript a (.Slice (some b) (some c) none p2) pos) G mu P :=
  SE.mk (pe_slice sl_all peE (po_some peE) (po_some peE)) fun σ H Q d m k => h σ H _ d m fun x w1 mu1 H1 h1 c1 d1 m1 => h1 σ H1 _ (c1.denG m d) m1 fun y w2 mu2 H2 h2 c2 d2 m2 => by
    obtain ⟨i, e, q⟩ := isI_den h2 d2
    refine ⟨i, e, (show SE X c G mu2 _ from q) σ H2 _ ((c1.trans c2).denG m d) m2 fun z w3 mu3 H3 h3 c3 d3 m3 => ?_⟩
    obtain ⟨j, e3, q3⟩ := isI_den h3 d3
    exact ⟨j, e3, sl_rd (c3.den m2 (c2.den m1 d1)) m3 q3 (k.step ((c1.trans c2).trans c3))⟩
/-! zip -/
theorem zip_itw {K : PySem.W.Frag} {J : It} {ws us : List W} {xs ys : List V} {mu : Mu} {H : Hp} {Gh : Hp → Prop} {Gm : Mu → Prop} (m : HM K H mu) (dx : DenAll K H ws xs) (dy : DenAll K H us ys)
    (wk : Walk J (min xs.length ys.length) Gh (YPair (fun i => xs[i]?) fun i => ys[i]?)) (hg : ∀ mu' H', Chg mu H mu' H' → HM K H' mu' → Gm mu' → Gh H') : ItW K J ((ws.zip us).map fun q => W.tup [q.1, q.2]) Gm mu H := by
  refine ⟨Gh, _, by rw [List.length_map, List.length_zip, dx.length, dy.length]; exact wk, hg, fun i H1 x H2 mu' hi c m' _ y => ?_⟩
  obtain ⟨T, x1, y1, rfl, hT, rfl, e1, e2⟩ := y
  obtain ⟨w1, f1, g1⟩ := dx.get e1
  obtain ⟨w2, f2, g2⟩ := dy.get e2
  obtain ⟨c2, m2⟩ := laid (o := .tup [x1, y1]) m' hT
  refine ⟨.tup [w1, w2], ?_, c2, m2, T, _, rfl, SqT.of upd_same, x1, [y1], rfl, c2.den m' (c.den m g1), y1, [], rfl, c2.den m' (c.den m g2), rfl⟩
  rw [List.getElem?_map]
  have : (ws.zip us)[i]? = some (w1, w2) := by rw [List.getElem?_zip_eq_some]; exact ⟨f1, f2⟩
  rw [this]
  rfl
theorem walk_zipT {K : PySem.W.Frag} {a b : Addr} {xs ys : List V} {n : Nat} (hn : n = min xs.length ys.length) : Walk (RZ.ItzT K a b) n (fun H => SqT K H a xs ∧ SqT K H b ys) (YPair (fun i => xs[i]?) fun i => ys[i]?) := by
  subst hn
  refine ⟨fun i H hi q => ?_, fun H q => ⟨xs, ys, q.1, q.2, by omega⟩, fun i H v H' hi q y => ?_⟩
  · have h1 : i < xs.length := by omega
    have h2 : i < ys.length := by omega
    exact ⟨xs, ys, xs[i], ys[i], q.1, q.2, by simp [h1], by simp [h2]⟩
  · obtain ⟨T, x, y, h1, h2, h3, h4, h5⟩ := y
    exact ⟨T, x, y, h1, h2, h3, h4 _ q.1, h5 _ q.2⟩
theorem zipL_itw {K : PySem.W.Frag} {a b : Addr} {ws us : List W} {mu : Mu} {H : Hp} (m : HM K H mu) : ItW K (Itz K a b) ((ws.zip us).map fun q => W.tup [q.1, q.2]) (fun mu' => mu' a = some (.lst ws) ∧ mu' b = some (.lst us)) mu H := by
  refine ⟨fun H' => ∃ xs ys, SqL K H' a xs ∧ SqL K H' b ys ∧ DenAll K H' ws xs ∧ DenAll K H' us ys,
    fun i H1 v H2 => ∃ T x y w1 w2, v = .ref T ∧ H1 T = none ∧ H2 = upd H1 T (.tup [x, y]) ∧ ws[i]? = some w1 ∧ us[i]? = some w2 ∧ Den K H1 w1 x ∧ Den K H1 w2 y, ⟨fun i H' hi q => ?_, fun H' q => ?_, fun i H' x H'' hi q y => ?_⟩, fun mu' H' c m' g => ?_, fun i H1 v H2 mu' hi c m' g y => ?_⟩
  · obtain ⟨xs, ys, s1, s2, d1, d2⟩ := q
    rw [List.length_map, List.length_zip, d1.length, d2.length] at hi
    have h1 : i < xs.length := by omega
    have h2 : i < ys.length := by omega
    exact ⟨xs, ys, xs[i], ys[i], s1, s2, by simp [h1], by simp [h2]⟩
  · obtain ⟨xs, ys, s1, s2, d1, d2⟩ := q
    refine ⟨xs, ys, s1, s2, ?_⟩
    rw [List.length_map, List.length_zip, d1.length, d2.length]
    omega
  · obtain ⟨xs, ys, s1, s2, d1, d2⟩ := q
    obtain ⟨T, x1, y1, h1, h2, h3, h4, h5⟩ := y
    obtain ⟨w1, f1, g1⟩ := d1.get (h4 xs s1)
    obtain ⟨w2, f2, g2⟩ := d2.get (h5 ys s2)
    exact ⟨T, x1, y1, w1, w2, h1, h2, h3, f1, f2, g1, g2⟩
  · obtain ⟨xs, h1, d1⟩ := m' a _ g.1
    obtain ⟨ys, h2, d2⟩ := m' b _ g.2
    exact ⟨xs, ys, SqL.of h1, SqL.of h2, d1, d2⟩
  · obtain ⟨T, x1, y1, w1, w2, rfl, hT, rfl, f1, f2, g1, g2⟩ := y
    obtain ⟨c2, m2⟩ := laid (o := .tup [x1, y1]) m' hT
    refine ⟨.tup [w1, w2], ?_, c2, m2, T, _, rfl, SqT.of upd_same, x1, [y1], rfl, c2.den m' g1, y1, [], rfl, c2.den m' g2, rfl⟩
    rw [List.getElem?_map]
    have : (ws.zip us)[i]? = some (w1, w2) := by rw [List.getElem?_zip_eq_some]; exact ⟨f1, f2⟩
    rw [this]
    rfl
abbrev zipW (w1 w2 : W) (mu : Mu) (Post : List W → (Mu → Prop) → Mu → Prop) : Prop := match w1, w2 with
  | .tup ws, .tup us => Post ((ws.zip us).map fun q => W.tup [q.1, q.2]) (fun _ => True) mu
  | .m a, .m b => ∃ ws us, mu a = some (.lst ws) ∧ mu b = some (.lst us) ∧ Post ((ws.zip us).map fun q => W.tup [q.1, q.2]) (fun mu' => mu' a = some (.lst ws) ∧ mu' b = some (.lst us)) mu
  | _, _ => False
theorem si_zip {elts : List Expr} {kk : Nat} {tpos : Pos} {Post : List W → (Mu → Prop) → Mu → Prop} (h : SE X a G mu fun w1 mu1 => SE X b G mu1 fun w2 mu2 => zipW w1 w2 mu2 Post) (hm : X.mg "zip" = none) (hg : Gl X "zip" := by rfl)
    (hs : starEach [a, b] X.env = (false, eval a X.env) :: starEach [b] X.env := by rfl) (hs2 : starEach [b] X.env = [(false, eval b X.env)] := by rfl) (hpl : (backTo pos (starEach [b] X.env)).any (·.1) = false := by rfl) :
    SI X (.Tuple elts kk tpos) (.Call (.Name "zip" p) [a, b] [] pos) G mu Post :=
  SI.mk (RZ.pi_zipA hg hm (pa_cons peE (pa_cons peE pa_nil hs2) hs) hs hpl) fun σ H R d m k => h σ H _ d m fun x w1 mu1 H1 h1 c1 d1 m1 => h1 σ H1 _ (c1.denG m d) m1 fun y w2 mu2 H2 h2 c2 d2 m2 => by
    have d1 := c2.den m1 d1
    have c12 := c1.trans c2
    cases w1 with
    | tup ws =>
      cases w2 with
      | tup us =>
        obtain ⟨a1, xs, rfl, s1, dx⟩ := d1
        obtain ⟨a2, ys, rfl, s2, dy⟩ := d2
        exact ⟨a1, a2, xs, ys, rfl, .inr ⟨s1, s2, k _ _ _ _ _ h2 c12 m2 (zip_itw m2 dx dy (walk_zipT rfl) fun mu' H' c m' _ => ⟨c.sqt m2 _ _ s1, c.sqt m2 _ _ s2⟩)⟩⟩
      | _ => exact False.elim h2
    | m a1 =>
      cases w2 with
      | m a2 =>
        obtain ⟨ws, us, e1, e2, h3⟩ := h2
        have d1 : x = .ref a1 := d1
        have d2 : y = .ref a2 := d2
        subst d1 d2
        obtain ⟨xs, hx, dx⟩ := m2 a1 _ e1
        obtain ⟨ys, hy, dy⟩ := m2 a2 _ e2
        exact ⟨a1, a2, xs, ys, rfl, .inl ⟨SqL.of hx, SqL.of hy, k _ _ _ _ _ h3 c12 m2 (zipL_itw m2)⟩⟩
      | _ => exact False.elim h2
    | _ => cases w2 <;> exact False.elim h2
end
end Dv
set_option Elab.async false
set_option linter.all false
set_option maxRecDepth 100000
/-! Methods of lists, stores, dicts, fields, while, parallel stores. -/
namespace Dv
open PySem L2
section
variable {X : Cx} {e a b c : Expr} {es : List Expr} {st : Stmt} {sts : List Stmt} {G : Gs} {mu mu' : Mu} {pos p apos cpos : Pos} {P : PW1}
/-! a list's methods with one argument -/
abbrev MtW (X : Cx) (r : V → List V → Hp → VK → Prop) (f : W → List W → Mu → PW1 → Prop) : Prop := ∀ w ws v vs mu H P Q, Den X.K H w v → DenAll X.K H ws vs → HM X.K H mu → f w ws mu P → Kont X.K mu H P Q → r v vs H Q
theorem se_lm {name : Str} {id : String} {r : V → List V → Hp → VK → Prop} {f : W → List W → Mu → PW1 → Prop} (hs : Slot "list" name id) (ht : typeOf (Value.builtin id) = pure (Value.type "method_descriptor")) (hr : MtR X id r) (hw : MtW X r f)
    (h : SE X a G mu fun w mu1 => match w with | .m aa => (∃ ws, mu1 aa = some (.lst ws)) ∧ SA X (e :: es) G mu1 fun ws mu2 => f (.m aa) ws mu2 P | _ => False)
    (hb : attributeBase a name X.env (eval a X.env) = eval a X.env := by rfl) (hq : (((backTo cpos (starEach (e :: es) X.env)).all fun x => !x.1) && (backToKw cpos (keywordEach [] X.env)).all (fun x => x.1.isSome) && decide (((e :: es).length + ([] : List Keyword).length + if ([] : List Keyword).isEmpty = true then 0 else 1) < 30)) = true := by rfl)
    (hl : (apos.endLine == cpos.line) = true := by rfl) (he : starEach (e :: es) X.env = (false, eval e X.env) :: starEach es X.env := by rfl) (hpl : (backTo cpos (starEach es X.env)).any (·.1) = false := by rfl) : SE X (.Call (.Attribute a name apos) (e :: es) [] cpos) G mu P :=
  SE.mk (pe_bm PySem.F.plainAttrs_list hs ht hr peE paA hb hq hl he hpl) fun σ H Q d m k => h σ H _ d m fun v w mu1 H1 h1 c1 d1 m1 => by
    cases w with
    | m aa =>
      obtain ⟨⟨ws, e0⟩, h2⟩ := h1
      have d1 : v = .ref aa := d1
      subst d1
      obtain ⟨xs, hx, dx⟩ := m1 aa _ e0
      exact ⟨.inl ⟨rfl, xs, SqL.of hx⟩, h2 σ H1 _ (c1.denG m d) m1 fun vs ws' mu2 H2 h3 c2 d2 m2 => hw (.m aa) _ _ _ _ _ _ _ rfl d2 m2 h3 (k.step (c1.trans c2))⟩
    | _ => exact False.elim h1
abbrev appW (w : W) (ws : List W) (mu : Mu) (P : PW1) : Prop := match w, ws with | .m a, [y] => ∃ us, mu a = some (.lst us) ∧ us.length < sizeLine ∧ P .non (setM mu a (.lst (us ++ [y]))) | _, _ => False
theorem app_w : MtW X rAppend appW := fun w ws v vs mu H P Q dv dvs m h k => by
  unfold appW at h
  split at h
  · rename_i aa y
    obtain ⟨us, e, hl, q⟩ := h
    obtain ⟨y', rfl, dy⟩ := dvs.one
    have dv : v = .ref aa := dv
    subst dv
    obtain ⟨xs, hx, dx⟩ := m aa _ e
    obtain ⟨c2, m2⟩ := wrote (o := .lst (xs ++ [y'])) (c := .lst (us ++ [y])) m e (newLst (DenAll.append dx ⟨y', [], rfl, dy, rfl⟩))
    exact ⟨aa, xs, y', rfl, rfl, hx, by rw [← dx.length]; exact hl, k _ _ _ _ q c2 rfl m2⟩
  · exact h.elim
theorem se_append (h : SE X a G mu fun w mu1 => match w with | .m aa => (∃ ws, mu1 aa = some (.lst ws)) ∧ SA X [e] G mu1 fun ws mu2 => appW (.m aa) ws mu2 P | _ => False)
    (hb : attributeBase a "append" X.env (eval a X.env) = eval a X.env := by rfl) (hq : (((backTo cpos (starEach [e] X.env)).all fun x => !x.1) && (backToKw cpos (keywordEach [] X.env)).all (fun x => x.1.isSome) && decide (([e].length + ([] : List Keyword).length + if ([] : List Keyword).isEmpty = true then 0 else 1) < 30)) = true := by rfl)
    (hl : (apos.endLine == cpos.line) = true := by rfl) (he : starEach [e] X.env = (false, eval e X.env) :: starEach [] X.env := by rfl) (hpl : (backTo cpos (starEach [] X.env)).any (·.1) = false := by rfl) : SE X (.Call (.Attribute a "append" apos) [e] [] cpos) G mu P :=
  se_lm PySem.F.slot_list_append PySem.F.type_list_append mt_append app_w h hb hq hl he hpl
abbrev extW (w : W) (ws : List W) (mu : Mu) (P : PW1) : Prop := match w, ws with | .m a, [.m b] => ∃ us zs, mu a = some (.lst us) ∧ mu b = some (.lst zs) ∧ us.length + zs.length ≤ sizeLine ∧ P .non (setM mu a (.lst (us ++ zs))) | _, _ => False
theorem ext_w : MtW X rExtend extW := fun w ws v vs mu H P Q dv dvs m h k => by
  unfold extW at h
  split at h
  · rename_i aa bb
    obtain ⟨us, zs, e, e2, hl, q⟩ := h
    obtain ⟨y', rfl, dy⟩ := dvs.one
    have dv : v = .ref aa := dv
    have dy : y' = .ref bb := dy
    subst dv dy
    obtain ⟨xs, hx, dx⟩ := m aa _ e
    obtain ⟨ys, hy, dy⟩ := m bb _ e2
    obtain ⟨c2, m2⟩ := wrote (o := .lst (xs ++ ys)) (c := .lst (us ++ zs)) m e (newLst (DenAll.append dx dy))
    exact ⟨aa, bb, xs, ys, rfl, rfl, hx, hy, by rw [← dx.length, ← dy.length]; exact hl, k _ _ _ _ q c2 rfl m2⟩
  · exact h.elim
theorem se_extend (h : SE X a G mu fun w mu1 => match w with | .m aa => (∃ ws, mu1 aa = some (.lst ws)) ∧ SA X [e] G mu1 fun ws mu2 => extW (.m aa) ws mu2 P | _ => False)
    (hb : attributeBase a "extend" X.env (eval a X.env) = eval a X.env := by rfl) (hq : (((backTo cpos (starEach [e] X.env)).all fun x => !x.1) && (backToKw cpos (keywordEach [] X.env)).all (fun x => x.1.isSome) && decide (([e].length + ([] : List Keyword).length + if ([] : List Keyword).isEmpty = true then 0 else 1) < 30)) = true := by rfl)
    (hl : (apos.endLine == cpos.line) = true := by rfl) (he : starEach [e] X.env = (false, eval e X.env) :: starEach [] X.env := by rfl) (hpl : (backTo cpos (starEach [] X.env)).any (·.1) = false := by rfl) : SE X (.Call (.Attribute a "extend" apos) [e] [] cpos) G mu P :=
  se_lm PySem.F.slot_list_extend PySem.F.type_list_extend mt_extend ext_w h hb hq hl he hpl
abbrev popW (w : W) (ws : List W) (mu : Mu) (P : PW1) : Prop := match w, ws with | .m a, [.int i] => ∃ us k y, mu a = some (.lst us) ∧ -(2 ^ 63) ≤ i ∧ i < 2 ^ 63 ∧ seqIndex? i us.length = some k ∧ us[k]? = some y ∧ P y (setM mu a (.lst (us.eraseIdx k))) | _, _ => False
theorem DenAll.erase {K : PySem.W.Frag} {H : Hp} : ∀ {ws : List W} {vs : List V} (i : Nat), DenAll K H ws vs → DenAll K H (ws.eraseIdx i) (vs.eraseIdx i)
  | [], _, i, d => by have d : _ = _ := d; subst d; simp [DenAll]
  | w :: ws, _, 0, ⟨v, r, e, d1, d2⟩ => by subst e; exact d2
  | w :: ws, _, i + 1, ⟨v, r, e, d1, d2⟩ => by subst e; exact ⟨v, _, rfl, d1, DenAll.erase i d2⟩
theorem pop_w : MtW X rPopAt popW := fun w ws v vs mu H P Q dv dvs m h k => by
  unfold popW at h
  split at h
  · rename_i aa i
    obtain ⟨us, kk, y, e, l1, l2, hk, hy, q⟩ := h
    obtain ⟨y', rfl, dy⟩ := dvs.one
    have dv : v = .ref aa := dv
    have dy : y' = .int i := dy
    subst dv dy
    obtain ⟨xs, hx, dx⟩ := m aa _ e
    obtain ⟨v, hv, dv⟩ := dx.get' hy
    obtain ⟨c2, m2⟩ := wrote (o := .lst (xs.eraseIdx kk)) (c := .lst (us.eraseIdx kk)) m e (newLst (dx.erase kk))
    exact ⟨aa, xs, i, kk, v, rfl, rfl, hx, l1, l2, by rw [← dx.length]; exact hk, hv, k _ _ _ _ q c2 (c2.den m dv) m2⟩
  · exact h.elim
theorem se_pop (h : SE X a G mu fun w mu1 => match w with | .m aa => (∃ ws, mu1 aa = some (.lst ws)) ∧ SA X [e] G mu1 fun ws mu2 => popW (.m aa) ws mu2 P | _ => False)
    (hb : attributeBase a "pop" X.env (eval a X.env) = eval a X.env := by rfl) (hq : (((backTo cpos (starEach [e] X.env)).all fun x => !x.1) && (backToKw cpos (keywordEach [] X.env)).all (fun x => x.1.isSome) && decide (([e].length + ([] : List Keyword).length + if ([] : List Keyword).isEmpty = true then 0 else 1) < 30)) = true := by rfl)
    (hl : (apos.endLine == cpos.line) = true := by rfl) (he : starEach [e] X.env = (false, eval e X.env) :: starEach [] X.env := by rfl) (hpl : (backTo cpos (starEach [] X.env)).any (·.1) = false := by rfl) : SE X (.Call (.Attribute a "pop" apos) [e] [] cpos) G mu P :=
  se_lm PySem.F.slot_list_pop PySem.F.type_list_pop mt_popAt pop_w h hb hq hl he hpl
/-! xs[i] = e -/
abbrev stW (o i w : W) (G : Gs) (mu : Mu) (N : Gs → Mu → Prop) : Prop := match o, i with | .m a, .int k => ∃ us j, mu a = some (.lst us) ∧ ixN us.length k = some j ∧ N G (setM mu a (.lst (us.set j w))) | _, _ => False
theorem ss_stL {E : WE} {tpos : Pos} (h : SE X e G mu fun w mu1 => SE X a G mu1 fun o mu2 => SE X b G mu2 fun i mu3 => stW o i w G mu3 E.nx)
    (ha0 : ∀ v, assign (.Subscript a b tpos) X.env v = (do
      let ov ← holding [v] (eval a X.env)
      let iv ← holding [v, ov] (eval b X.env)
      standAt tpos
      holding [v, ov, iv] (setItem ov iv v)
      release [v, ov, iv] []) := by intro _; rfl)
    (hs : swapsWithSole [.Subscript a b tpos] e pos.line X.env = pure false := by rfl) (hw : swappedStores [.Subscript a b tpos] e X.env = pure none := by rfl)
    (ha : (assignEach [.Subscript a b tpos] X.env).map (·.2) = [assign (.Subscript a b tpos) X.env] := by rfl) : SS X (.Assign [.Subscript a b tpos] e pos) G mu E :=
  SS.mk (ps_asg peE (pg_sub peE peE set_list ha0) hs hw ha) fun σ H D d m k => h σ H _ d m fun v w mu1 H1 h1 c1 d1 m1 => h1 σ H1 _ (c1.denG m d) m1 fun ov o mu2 H2 h2 c2 d2 m2 => h2 σ H2 _ ((c1.trans c2).denG m d) m2 fun iv i mu3 H3 h3 c3 d3 m3 => by
    have d2 := c3.den m2 d2
    have d1 := c3.den m2 (c2.den m1 d1)
    have cc := (c1.trans c2).trans c3
    cases o with
    | m aa =>
      cases i with
      | int kk =>
        obtain ⟨us, j, e0, hj, q⟩ := h3
        have d2 : ov = .ref aa := d2
        subst d2
        obtain ⟨xs, hx, dx⟩ := m3 aa _ e0
        obtain ⟨c4, m4⟩ := wrote (o := .lst (xs.set j v)) (c := .lst (us.set j w)) m3 e0 (newLst (dx.set j d1))
        exact ⟨aa, xs, kk, j, rfl, d3, hx, by rw [← dx.length]; exact hj, k.nx _ _ _ _ q (cc.trans c4) (c4.denG m3 (cc.denG m d)) m4⟩
      | _ => exact False.elim h3
    | _ => cases i <;> exact False.elim h3
/-! while -/
theorem ss_while {body : List Stmt} {E : WE} (hp : PassesOwn (model X.prog X.w) X.A X.env X.xe) (I : Nat → Gs → Mu → Prop) (h0 : ∃ n, I n G mu)
    (ht : ∀ n G' mu', I n G' mu' → ST X c G' mu' fun kk mu2 => if2 kk (SSs X body G' mu2 { E with nx := fun G3 mu3 => ∃ n', n' < n ∧ I n' G3 mu3, ct := fun G3 mu3 => ∃ n', n' < n ∧ I n' G3 mu3, bk := E.nx }) (E.nx G' mu2)) : SS X (.While c body [] pos) G mu E :=
  SS.mk (ps_while hp ptT pssS) fun σ H D d m k => by
    refine ⟨fun n σ' H' => ∃ G' mu', I n G' mu' ∧ Chg mu H mu' H' ∧ DenG X.K H' G' σ' ∧ HM X.K H' mu', ?_, fun n σ' H' ⟨G', mu', q, c1, d1, m1⟩ => ?_⟩
    · obtain ⟨n, q⟩ := h0
      exact ⟨n, G, mu, q, Chg.refl, d, m⟩
    · refine ht n G' mu' q σ' H' _ d1 m1 fun kk mu2 H2 h2 c2 m2 => ?_
      have c12 := c1.trans c2
      cases kk with
      | true => exact iteT ⟨fun σ3 H3 => ∃ n', n' < n ∧ ∃ G' mu', I n' G' mu' ∧ Chg mu H mu' H3 ∧ DenG X.K H3 G' σ3 ∧ HM X.K H3 mu', fun σ3 H3 ⟨n', l, q⟩ => ⟨n', l, q⟩,
          h2 σ' H2 _ (c2.denG m1 d1) m2 ⟨fun σ4 G4 mu4 H4 ⟨n', l, q⟩ c4 d4 m4 => ⟨n', l, G4, mu4, q, c12.trans c4, d4, m4⟩, k.rt.step c12, k.nx.step c12, fun σ4 G4 mu4 H4 ⟨n', l, q⟩ c4 d4 m4 => ⟨n', l, G4, mu4, q, c12.trans c4, d4, m4⟩⟩⟩
      | false => exact iteF (k.nx _ _ _ _ h2 c12 (c2.denG m1 d1) m2)
/-! a, b = x, y -/
theorem ss_par {i j : Nat} {x y : Str} {px py pt : Pos} {kt k2 : Nat} {pt2 : Pos} {E : WE} (h : SE X a G mu fun w mu1 => SE X b G mu1 fun w2 mu2 => E.nx ((G.set i (some w)).set j (some w2)) mu2) (hc : X.calm = true) (hN : X.N.Nodup) (hij : i ≠ j)
    (hsw : swappedStores [.Tuple [.Name x px, .Name y py] kt pt] (.Tuple [a, b] k2 pt2) X.env = pure (some [x, y])) (hi : X.N[i]? = some x := by rfl) (hj : X.N[j]? = some y := by rfl) (hx : X.env.scope.names.lookup x = some .local := by rfl) (hy : X.env.scope.names.lookup y = some .local := by rfl)
    (hs : starEach [a, b] X.env = (false, eval a X.env) :: starEach [b] X.env := by rfl) (hs2 : starEach [b] X.env = [(false, eval b X.env)] := by rfl) (hso : swapsWithSole [.Tuple [.Name x px, .Name y py] kt pt] (.Tuple [a, b] k2 pt2) pos.line X.env = pure false := by rfl) :
    SS X (.Assign [.Tuple [.Name x px, .Name y py] kt pt] (.Tuple [a, b] k2 pt2) pos) G mu E :=
  SS.mk (ps_par hc hN hi hj hij hx hy (pa_cons peE (pa_cons peE pa_nil hs2) hs) hsw hso) fun σ H D d m k => h σ H _ d m fun v w mu1 H1 h1 c1 d1 m1 => h1 σ H1 _ (c1.denG m d) m1 fun v2 w2 mu2 H2 h2 c2 d2 m2 =>
    ⟨v, v2, rfl, k.nx _ _ _ _ h2 (c1.trans c2) (DenG.set (DenG.set ((c1.trans c2).denG m d) (c2.den m1 d1)) d2) m2⟩
end
end Dv
set_option Elab.async false
set_option linter.all false
set_option maxRecDepth 100000
/-! Dicts by values; fields of instances. -/
namespace Dv
open PySem L2
def kW : Key → W
  | .inl i => .int i
  | .inr x => .str x
section
variable {K : PySem.W.Frag} {H : Hp} {κ : Type} [DecidableEq κ]
theorem kW_den {k : Key} {v : V} (d : Den K H (kW k) v) : v = kV k := by
  cases k with
  | inl i => exact d
  | inr x => exact d
theorem kV_den {k : Key} : Den K H (kW k) (kV k) := by
  cases k with
  | inl i => rfl
  | inr x => rfl
/-- what pairs hold at a key -/
def valW (kvs : List (κ × W)) (k : κ) : Option W := match kvs with
  | [] => none
  | (j, w) :: r => if j = k then some w else valW r k
def putW (kvs : List (κ × W)) (k : κ) (w : W) : List (κ × W) := match kvs with
  | [] => [(k, w)]
  | (j, u) :: r => if j = k then (j, w) :: r else (j, u) :: putW r k w
abbrev DKV (K : PySem.W.Frag) (H : Hp) (kvs : List (κ × W)) (vs : List (κ × V)) : Prop := kvs.map (·.1) = vs.map (·.1) ∧ DenAll K H (kvs.map (·.2)) (vs.map (·.2))
theorem DKV.cons {j : κ} {w : W} {r : List (κ × W)} {vs : List (κ × V)} (d : DKV K H ((j, w) :: r) vs) : ∃ v vs', vs = (j, v) :: vs' ∧ Den K H w v ∧ DKV K H r vs' := by
  obtain ⟨h1, v, xs, e, d1, d2⟩ := d
  cases vs with
  | nil => cases h1
  | cons q vs' =>
    obtain ⟨j', v'⟩ := q
    simp only [List.map_cons, List.cons.injEq] at h1 e
    obtain ⟨rfl, h1⟩ := h1
    obtain ⟨rfl, rfl⟩ := e
    exact ⟨v', vs', rfl, d1, h1, d2⟩
theorem DKV.nil {vs : List (κ × V)} (d : DKV K H [] vs) : vs = [] := by
  cases vs with
  | nil => rfl
  | cons q r => cases d.1
theorem DKV.mk {j : κ} {w : W} {v : V} {r : List (κ × W)} {vs : List (κ × V)} (d : Den K H w v) (t : DKV K H r vs) : DKV K H ((j, w) :: r) ((j, v) :: vs) := ⟨by simp [t.1], v, _, rfl, d, t.2⟩
theorem DKV.get : ∀ {kvs : List (κ × W)} {vs : List (κ × V)} {k : κ} {w : W}, DKV K H kvs vs → valW kvs k = some w → ∃ v, valV vs k = some v ∧ Den K H w v
  | [], _, k, w, d, h => by cases h
  | (j, u) :: r, _, k, w, d, h => by
    obtain ⟨v, vs', rfl, d1, d2⟩ := d.cons
    unfold valW at h
    by_cases e : j = k
    · rw [if_pos e] at h
      cases h
      refine ⟨v, ?_, d1⟩
      unfold valV
      simp [e]
    · rw [if_neg e] at h
      obtain ⟨v', h1, h2⟩ := DKV.get d2 h
      refine ⟨v', ?_, h2⟩
      unfold valV at h1 ⊢
      simp only [List.find?, e, decide_false]
      exact h1
theorem DKV.getN : ∀ {kvs : List (κ × W)} {vs : List (κ × V)} {k : κ}, DKV K H kvs vs → valW kvs k = none → valV vs k = none
  | [], _, k, d, h => by rw [d.nil]; rfl
  | (j, u) :: r, _, k, d, h => by
    obtain ⟨v, vs', rfl, d1, d2⟩ := d.cons
    unfold valW at h
    by_cases e : j = k
    · rw [if_pos e] at h; cases h
    · rw [if_neg e] at h
      have h1 := DKV.getN d2 h
      unfold valV at h1 ⊢
      simp only [List.find?, e, decide_false]
      exact h1
theorem putK_cons (j : κ) (u : V) (r : List (κ × V)) (k : κ) (v : V) (hn : j = k → ∀ q ∈ r, q.1 ≠ k) : putK ((j, u) :: r) k v = if j = k then (j, v) :: r else (j, u) :: putK r k v := by
  unfold putK
  by_cases e : j = k
  · rw [if_pos e, if_pos (by simp [e])]
    simp only [List.map_cons, e, if_true]
    congr 1
    have : ∀ q ∈ r, (if q.1 = k then (q.1, v) else q) = q := fun q hq => if_neg (hn e q hq)
    conv => rhs; rw [← List.map_id r]
    exact List.map_congr_left this
  · rw [if_neg e]
    by_cases z : (r.any fun kv => decide (kv.1 = k)) = true
    · rw [if_pos (by simp only [List.any_cons, e, decide_false, Bool.false_or]; exact z), if_pos z]
      simp [e]
    · rw [if_neg (by simp only [List.any_cons, e, decide_false, Bool.false_or]; exact z), if_neg z]
      rfl
theorem DKV.put : ∀ {kvs : List (κ × W)} {vs : List (κ × V)} {k : κ} {w : W} {v : V}, (kvs.map (·.1)).Nodup → DKV K H kvs vs → Den K H w v → DKV K H (putW kvs k w) (putK vs k v)
  | [], _, k, w, v, _, d, dv => by
    rw [d.nil]
    exact DKV.mk dv ⟨rfl, rfl⟩
  | (j, u) :: r, _, k, w, v, hn, d, dv => by
    obtain ⟨v', vs', rfl, d1, d2⟩ := d.cons
    rw [List.map_cons, List.nodup_cons] at hn
    rw [putK_cons j v' vs' k v fun e q hq z => hn.1 (by rw [d2.1]; exact List.mem_map.mpr ⟨q, hq, z.trans e.symm⟩)]
    unfold putW
    by_cases e : j = k
    · rw [if_pos e, if_pos e]
      exact DKV.mk dv d2
    · rw [if_neg e, if_neg e]
      exact DKV.mk d1 (DKV.put hn.2 d2 dv)
theorem putW_keys : ∀ {kvs : List (κ × W)} {k : κ} {w : W}, (putW kvs k w).map (·.1) = if k ∈ kvs.map (·.1) then kvs.map (·.1) else kvs.map (·.1) ++ [k]
  | [], k, w => by simp [putW]
  | (j, u) :: r, k, w => by
    unfold putW
    by_cases e : j = k
    · simp [e]
    · rw [if_neg e]
      simp only [List.map_cons, putW_keys (kvs := r), List.mem_cons]
      have : ¬ k = j := fun z => e z.symm
      simp only [this, false_or]
      split <;> rfl
theorem putW_nodup {kvs : List (κ × W)} {k : κ} {w : W} (h : (kvs.map (·.1)).Nodup) : ((putW kvs k w).map (·.1)).Nodup := by
  rw [putW_keys]
  split
  · exact h
  · rename_i hk
    rw [List.nodup_append]
    exact ⟨h, by simp, fun a ha b hb => by simp at hb; subst hb; exact fun z => hk (z ▸ ha)⟩
theorem valW_put : ∀ {kvs : List (κ × W)} {k j : κ} {w : W}, valW (putW kvs k w) j = if k = j then some w else valW kvs j
  | [], k, j, w => by simp [putW, valW]
  | (i, u) :: r, k, j, w => by
    unfold putW
    by_cases e : i = k
    · subst e
      rw [if_pos rfl]
      simp only [valW]
      split <;> rfl
    · rw [if_neg e]
      simp only [valW, valW_put (kvs := r)]
      by_cases z : i = j
      · subst z
        have : ¬ k = i := fun q => e q.symm
        simp [this]
      · simp [z]
end
section
variable {X : Cx} {e a b c : Expr} {es : List Expr} {st : Stmt} {sts : List Stmt} {G : Gs} {mu mu' : Mu} {pos p apos cpos : Pos} {P : PW1}
/-- a dict cell whose keys differ -/
abbrev isDic (mu : Mu) (a : Addr) (kvs : List (Key × W)) : Prop := mu a = some (.dic kvs) ∧ (kvs.map (·.1)).Nodup
theorem newDic {K : PySem.W.Frag} {H : Hp} {p : Addr} {vs : List (Key × V)} {kvs : List (Key × W)} (d : DKV K H kvs vs) : ∀ H', (∀ a xs, SqT K H a xs → SqT K H' a xs) → H' p = some (.dK vs) → CellOk K H' p (.dic kvs) := fun H' st h => ⟨vs, h, d.1, DenAll.mono st _ d.2⟩
theorem se_dnew (h : ∀ p, mu p = none → P (.m p) (setM mu p (.dic []))) : SE X (.Dict [] [] pos) G mu P :=
  SE.mk pe_dnewK fun σ H Q d m k => fun p hp => by
    obtain ⟨c2, m2⟩ := laidC (o := .dK []) (c := .dic []) m hp (newDic (kvs := []) ⟨rfl, rfl⟩)
    exact k _ _ _ _ (h p (m.dom hp)) c2 rfl m2
/-- a key as a value -/
def keyOf : W → Option Key
  | .int i => some (.inl i)
  | .str x => some (.inr x)
  | _ => none
theorem keyOf_den {K : PySem.W.Frag} {H : Hp} {w : W} {v : V} {k : Key} (h : keyOf w = some k) (d : Den K H w v) : v = kV k := by
  cases w with
  | int i => cases h; exact d
  | str i => cases h; exact d
  | _ => cases h
abbrev dgW (w1 w2 : W) (mu : Mu) (P : PW1) : Prop := ∃ a kvs k w, w1 = .m a ∧ mu a = some (.dic kvs) ∧ keyOf w2 = some k ∧ valW kvs k = some w ∧ P w mu
theorem se_dget (hu : X.A.units + 1 < cLine) (h : SE X a G mu fun w1 mu1 => SE X b G mu1 fun w2 mu2 => dgW w1 w2 mu2 P) (hs : NoSl b := by exact fun _ _ => rfl) : SE X (.Subscript a b pos) G mu P :=
  SE.mk (pe_dget hu peE peE hs) fun σ H Q d m k => h σ H _ d m fun x w1 mu1 H1 h1 c1 d1 m1 => h1 σ H1 _ (c1.denG m d) m1 fun y w2 mu2 H2 h2 c2 d2 m2 => by
    obtain ⟨aa, kvs, kk, w, rfl, e, hk, hv, q⟩ := h2
    have d1 : x = .ref aa := d1
    subst d1
    obtain ⟨vs, hx, dk⟩ := m2 aa _ e
    obtain ⟨v, h1, h2⟩ := DKV.get (K := X.K) (H := H2) dk hv
    have e2 := keyOf_den hk d2
    subst e2
    exact ⟨aa, v, rfl, h1 ▸ DGet.k hx, k _ _ _ _ q (c1.trans c2) h2 m2⟩
abbrev dpW (w1 w2 w : W) (G : Gs) (mu : Mu) (N : Gs → Mu → Prop) : Prop := ∃ a kvs k, w1 = .m a ∧ isDic mu a kvs ∧ keyOf w2 = some k ∧ kvs.length < sizeLine ∧ N G (setM mu a (.dic (putW kvs k w)))
theorem ss_dput {E : WE} {pos' : Pos} (hu : X.A.units + 1 < cLine) (h : SE X e G mu fun w mu1 => SE X a G mu1 fun w1 mu2 => SE X b G mu2 fun w2 mu3 => dpW w1 w2 w G mu3 E.nx)
    (hs : swapsWith e (some (.Subscript a b pos')) pos.line X.env = pure false := by rfl) : SS X (.Assign [.Subscript a b pos'] e pos) G mu E :=
  SS.mk (ps_dput hu peE peE peE hs) fun σ H D d m k => h σ H _ d m fun v w mu1 H1 h1 c1 d1 m1 => h1 σ H1 _ (c1.denG m d) m1 fun x w1 mu2 H2 h2 c2 d2 m2 => h2 σ H2 _ ((c1.trans c2).denG m d) m2 fun y w2 mu3 H3 h3 c3 d3 m3 => by
    obtain ⟨aa, kvs, kk, rfl, ⟨e, hn⟩, hk, hl, q⟩ := h3
    have d2 : x = .ref aa := d2
    subst d2
    have d1 := c3.den m2 (c2.den m1 d1)
    obtain ⟨vs, hx, dk⟩ := m3 aa _ e
    have e2 := keyOf_den hk d3
    subst e2
    have dk : DKV X.K H3 kvs vs := dk
    obtain ⟨c4, m4⟩ := wrote (o := .dK (putK vs kk v)) (c := .dic (putW kvs kk w)) m3 e (newDic (dk.put hn d1))
    have cc := (c1.trans c2).trans c3
    refine ⟨aa, _, rfl, DPut.k hx ?_, k.nx _ _ _ _ q (cc.trans c4) (c4.denG m3 (cc.denG m d)) m4⟩
    have := congrArg List.length dk.1
    simp only [List.length_map] at this
    omega
/-! a display of a dict with texts as keys -/
def trsX (X : Cx) : List (Option Expr) → List Expr → List (TE × TE)
  | some k :: ks, v :: vs => (tE X k, tE X v) :: trsX X ks vs
  | _, _ => []
def SPs (X : Cx) : List (Option Expr) → List Expr → Gs → Mu → (List (W × W) → Mu → Prop) → Prop
  | some k :: ks, v :: vs, G, mu, Post => SE X k G mu fun w mu1 => SE X v G mu1 fun u mu2 => SPs X ks vs G mu2 fun ps mu3 => Post ((w, u) :: ps) mu3
  | [], [], G, mu, Post => Post [] mu
  | _, _, _, _, _ => False
theorem pps_all : ∀ (ks : List (Option Expr)) (vs : List Expr), (ks.all fun x => x.isSome) = true → ks.length = vs.length → PPs X pos ks vs (trsX X ks vs)
  | [], [], _, _ => pps_nil
  | some k :: ks, v :: vs, h, hl => pps_cons peE peE (pps_all ks vs (by simpa using h) (by simpa using hl))
  | none :: ks, v :: vs, h, hl => by simp at h
  | [], v :: vs, h, hl => by simp at hl
  | k :: ks, [], h, hl => by simp at hl
abbrev DPs (K : PySem.W.Frag) (H : Hp) (ws : List (W × W)) (ps : List (V × V)) : Prop := DenAll K H (ws.map (·.1)) (ps.map (·.1)) ∧ DenAll K H (ws.map (·.2)) (ps.map (·.2)) ∧ ws.length = ps.length
theorem sps_rd : ∀ (ks : List (Option Expr)) (vs : List Expr) {G : Gs} {mu : Mu} {Post : List (W × W) → Mu → Prop} {σ : St} {H : Hp} {Q : List (V × V) → Hp → Prop}, SPs X ks vs G mu Post → DenG X.K H G σ → HM X.K H mu →
    (∀ ws ps mu' H', Post ws mu' → Chg mu H mu' H' → DPs X.K H' ws ps → HM X.K H' mu' → Q ps H') → tPairs (trsX X ks vs) σ H Q
  | [], [], G, mu, Post, σ, H, Q, h, d, m, k => k [] [] mu H h Chg.refl ⟨rfl, rfl, rfl⟩ m
  | some kk :: ks, v :: vs, G, mu, Post, σ, H, Q, h, d, m, k => by
    unfold SPs at h
    show tE X kk σ H _
    refine h σ H _ d m fun x w mu1 H1 h1 c1 d1 m1 => h1 σ H1 _ (c1.denG m d) m1 fun y u mu2 H2 h2 c2 d2 m2 => ?_
    refine sps_rd ks vs h2 ((c1.trans c2).denG m d) m2 fun ws ps mu3 H3 h3 c3 d3 m3 => k _ _ _ _ h3 ((c1.trans c2).trans c3) ⟨⟨x, _, rfl, c3.den m2 (c2.den m1 d1), d3.1⟩, ⟨y, _, rfl, c3.den m2 d2, d3.2.1⟩, by simp [d3.2.2]⟩ m3
  | none :: ks, v :: vs, G, mu, Post, σ, H, Q, h, d, m, k => by unfold SPs at h; exact h.elim
  | [], v :: vs, G, mu, Post, σ, H, Q, h, d, m, k => by unfold SPs at h; exact h.elim
  | some kk :: ks, [], G, mu, Post, σ, H, Q, h, d, m, k => by unfold SPs at h; exact h.elim
  | none :: ks, [], G, mu, Post, σ, H, Q, h, d, m, k => by unfold SPs at h; exact h.elim
theorem dps_keys {K : PySem.W.Frag} {H : Hp} : ∀ {kvs : List (Key × W)} {ps : List (V × V)}, DPs K H (kvs.map fun q => (kW q.1, q.2)) ps → ∃ vs : List (Key × V), ps = vs.map (fun kv => (kV kv.1, kv.2)) ∧ DKV K H kvs vs
  | [], ps, d => by
    cases ps with
    | nil => exact ⟨[], rfl, rfl, rfl⟩
    | cons q r => cases d.2.2
  | (kk, w) :: r, ps, d => by
    cases ps with
    | nil => cases d.2.2
    | cons q ps =>
      obtain ⟨x, y⟩ := q
      obtain ⟨⟨v1, r1, e1, a1, t1⟩, ⟨v2, r2, e2, a2, t2⟩, hl⟩ := d
      simp only [List.map_cons, List.cons.injEq] at e1 e2
      obtain ⟨rfl, rfl⟩ := e1
      obtain ⟨rfl, rfl⟩ := e2
      obtain ⟨vs, rfl, dk⟩ := dps_keys (kvs := r) (ps := ps) ⟨t1, t2, by simpa using hl⟩
      have e3 := kW_den a1
      exact ⟨(kk, y) :: vs, by simp [e3], DKV.mk a2 dk⟩
theorem mergeK_new : ∀ (vs acc : List (Key × V)), ((acc ++ vs).map (·.1)).Nodup → mergeK acc vs = acc ++ vs
  | [], acc, _ => by simp [mergeK]
  | (kk, v) :: vs, acc, h => by
    have hn : valV acc kk = none := by
      unfold valV
      rw [Option.map_eq_none_iff, List.find?_eq_none]
      intro q hq z
      have z := of_decide_eq_true z
      rw [List.map_append, List.nodup_append] at h
      exact h.2.2 q.1 (List.mem_map.mpr ⟨q, hq, rfl⟩) kk (by simp) z
    show mergeK (putK acc kk v) vs = _
    rw [putK_new _ hn, mergeK_new vs _ (by simpa using h)]
    simp
theorem se_disp {keys : List (Option Expr)} {values : List Expr} (h : SPs X keys values G mu fun ws mu1 => ∃ kvs : List (Key × W), ws = kvs.map (fun q => (kW q.1, q.2)) ∧ (kvs.map (·.1)).Nodup ∧ kvs.length ≤ 15 ∧ ∀ p, mu1 p = none → P (.m p) (setM mu1 p (.dic kvs)))
    (h1 : (keys.all fun x => x.isSome) = true := by rfl) (h2 : keys.length = values.length := by rfl) (h3 : keys ≠ [] := by exact fun z => by cases z) (h4 : keys.length ≤ 15 := by decide) : SE X (.Dict keys values pos) G mu P :=
  SE.mk (pe_disp (pps_all keys values h1 h2) h1 h2 h3 h4) fun σ H Q d m k => fun p hp => by
    obtain ⟨c0, m0⟩ := laid (o := .dK []) m hp
    refine sps_rd keys values h (c0.denG m d) m0 fun ws ps mu1 H1 ⟨kvs, e, hn, hl, q⟩ c1 d1 m1 => ?_
    have hp1 : H1 p = some (.dK []) := c1.keep _ _ upd_same (m.dom hp)
    have np : mu1 p = none := c1.new _ _ upd_same (m.dom hp)
    subst e
    obtain ⟨vs, rfl, dk⟩ := dps_keys d1
    refine ⟨hp1, vs, rfl, ?_, ?_⟩
    · have := congrArg List.length dk.1
      simp only [List.length_map] at this
      omega
    · have em : mergeK [] vs = vs := by rw [mergeK_new vs [] (by rw [List.nil_append, ← dk.1]; exact hn)]; rfl
      rw [em]
      have sq : ∀ a xs, SqT X.K H1 a xs → SqT X.K (upd H1 p (.dK vs)) a xs := fun a xs s => by
        rcases s with (s | ⟨o, s⟩) | s
        · exact .inl (.inl (by rw [upd_ne (ne_of s hp1 (by intro z; cases z))]; exact s))
        · exact .inl (.inr ⟨o, by rw [upd_ne (ne_of s hp1 (by intro z; cases z))]; exact s⟩)
        · exact .inr s
      refine k (.ref p) (.m p) (setM mu1 p (.dic kvs)) _ (q p np) ⟨fun b o hb n => ?_, fun b cc hb => ?_, fun b o hb n => ?_⟩ rfl fun a cc ha => ?_
      · rw [upd_ne (ne_of_none hb hp)]
        exact (c0.trans c1).keep b o hb n
      · by_cases z : b = p
        · subst z; exact ⟨_, setM_same⟩
        · rw [setM_ne z]; exact (c0.trans c1).old b cc hb
      · rw [setM_ne (ne_of_none hb hp)]
        exact (c0.trans c1).new b o hb n
      · by_cases z : a = p
        · subst z
          rw [setM_same] at ha
          cases ha
          exact ⟨vs, upd_same, dk.1, DenAll.mono sq _ dk.2⟩
        · rw [setM_ne z] at ha
          exact CellOk.mono sq (m1 a cc ha) (upd_ne z)
/-! fields -/
abbrev fldW (K : PySem.W.Frag) (f : Str) (w : W) (mu : Mu) (P : PW1) : Prop := ∃ a Cl fs u, w = .m a ∧ mu a = some (.ins Cl fs) ∧ Cls K Cl ∧ NoAttr K Cl f ∧ valW fs f = some u ∧ P u mu
theorem lookup_valV : ∀ (vs : List (Str × V)) (f : Str), List.lookup f vs = valV vs f
  | [], f => rfl
  | (j, v) :: r, f => by
    by_cases e : j = f
    · subst e
      simp [List.lookup, valV]
    · have h1 : (f == j) = false := by simpa using fun z => e z.symm
      rw [List.lookup, h1, lookup_valV r f]
      unfold valV
      simp only [List.find?, e, decide_false]
theorem se_fld {f : Str} (h : SE X a G mu fun w mu1 => fldW X.K f w mu1 P) (hb : attributeBase a f X.env (eval a X.env) = eval a X.env := by rfl) : SE X (.Attribute a f pos) G mu P :=
  SE.mk (pe_fld peE hb) fun σ H Q d m k => h σ H _ d m fun x w mu1 H1 ⟨aa, Cl, fs, u, e, hm, hc, hn, hv, q⟩ c1 d1 m1 => by
    subst e
    have d1 : x = .ref aa := d1
    subst d1
    obtain ⟨dx, vs, hx, dk⟩ := m1 aa _ hm
    obtain ⟨v, h1, h2⟩ := DKV.get (K := X.K) (H := H1) dk hv
    exact ⟨aa, Cl, dx, vs, v, rfl, hx, hc, hn, (lookup_valV vs f).trans h1, k _ _ _ _ q c1 h2 m1⟩
end
end Dv
set_option Elab.async false
set_option linter.all false
set_option maxRecDepth 100000
/-! Pure defs: their result is a function of the arguments, old cells stay. -/
namespace Dv
open PySem L2
def Ext (mu mu' : Mu) : Prop := ∀ a c, mu a = some c → mu' a = some c
theorem Ext.refl {mu : Mu} : Ext mu mu := fun _ _ h => h
theorem Ext.trans {mu mu' mu'' : Mu} (a : Ext mu mu') (b : Ext mu' mu'') : Ext mu mu'' := fun c d h => b c d (a c d h)
theorem Ext.set {mu mu' : Mu} {p : Addr} {c : C} (e : Ext mu mu') (h : mu p = none) : Ext mu (setM mu' p c) := fun a d ha => by
  rw [setM_ne fun z => by rw [z, h] at ha; cases ha]
  exact e a d ha
theorem Ext.none {mu mu' : Mu} {p : Addr} (e : Ext mu mu') (h : mu' p = none) : mu p = none := by
  cases q : mu p with
  | none => rfl
  | some c => rw [e p c q] at h; cases h
theorem bW_split {k : Bool} {A B : Prop} (ht : k = true → A) (hf : k = false → B) : bW (.bl k) A B := by
  cases k with
  | true => exact ht rfl
  | false => exact hf rfl
theorem if2_split {k : Bool} {A B : Prop} (ht : k = true → A) (hf : k = false → B) : if2 k A B := by
  cases k with
  | true => exact ht rfl
  | false => exact hf rfl
theorem bW_t {k : Bool} {A B : Prop} (h : k = true) (a : A) : bW (.bl k) A B := by subst h; exact a
theorem bW_f {k : Bool} {A B : Prop} (h : k = false) (a : B) : bW (.bl k) A B := by subst h; exact a
theorem if2_t {k : Bool} {A B : Prop} (h : k = true) (a : A) : if2 k A B := by subst h; exact a
theorem if2_f {k : Bool} {A B : Prop} (h : k = false) (a : B) : if2 k A B := by subst h; exact a
/-- a pure def's promise -/
def spF (f : List W → Option W) : SpW := fun ws mu P => ∃ r, f ws = some r ∧ ∀ mu', Ext mu mu' → P r mu'
section
variable {X : Cx} {e a b c elt t : Expr} {G : Gs} {mu mu1 : Mu} {P : PW1}
theorem lc_pure {B : (Cx → Prop) → Prop} {T : Tg} {vs : List Nat} {ws : List W} {Gm : Mu → Prop} (g : W → W) (hG : ∀ mu', Ext mu1 mu' → Gm mu') (hl : ws.length ≤ sizeLine)
    (hs : ∀ w mu', w ∈ ws → Ext mu1 mu' → ∃ G2, T.bind w (wipeG G vs) = some G2 ∧ B fun Y => SE Y elt G2 mu' fun r mu4 => r = g w ∧ Ext mu' mu4)
    (hB : ∀ {p q : Cx → Prop}, (∀ Y, p Y → q Y) → B p → B q)
    (hd : ∀ D mu', mu1 D = none → Ext mu1 mu' → Ext mu1 (setM mu' D (.lst (ws.map g))) → P (.m D) (setM mu' D (.lst (ws.map g)))) : lcPost B T elt vs G P ws Gm mu1 := by
  intro D hD
  refine ⟨fun i acc mu' => acc = (ws.take i).map g ∧ Ext mu1 mu', ⟨rfl, Ext.refl⟩, fun i acc mu' _ q => hG mu' q.2, fun i w acc mu' hw q => ?_, fun acc mu' q => ?_⟩
  · obtain ⟨rfl, q⟩ := q
    have hi : i < ws.length := (List.getElem?_eq_some_iff.mp hw).1
    refine ⟨by rw [List.length_map, List.length_take]; omega, ?_⟩
    obtain ⟨G2, hb, he⟩ := hs w mu' (List.mem_of_getElem? hw) q
    refine ⟨G2, hb, hB (fun Y h σ H Q d m k => h σ H Q d m fun v r mu4 H4 h4 => k v r mu4 H4 ⟨?_, q.trans h4.2⟩) he⟩
    rw [List.take_add_one, hw, List.map_append, h4.1]
    rfl
  · obtain ⟨rfl, q⟩ := q
    rw [List.take_length]
    exact hd D mu' hD q (q.set hD)
/-- all of a comprehension whose items all give True -/
theorem lc_all_t {B : (Cx → Prop) → Prop} {T : Tg} {vs : List Nat} {ws : List W} {Gm : Mu → Prop} (hG : ∀ mu', Ext mu1 mu' → Gm mu') (hl : ws.length ≤ sizeLine) (hB : ∀ {p q : Cx → Prop}, (∀ Y, p Y → q Y) → B p → B q)
    (hs : ∀ w mu', w ∈ ws → Ext mu1 mu' → ∃ G2, T.bind w (wipeG G vs) = some G2 ∧ B fun Y => SE Y elt G2 mu' fun r mu4 => r = .bl true ∧ Ext mu' mu4)
    (hd : ∀ mu', Ext mu1 mu' → P (.bl true) mu') : lcPost B T elt vs G (fun w mu2 => allW [w] mu2 P) ws Gm mu1 :=
  lc_pure (fun _ => .bl true) hG hl hs hB fun D mu' hD he he2 => ⟨ws.map fun _ => true, by rw [setM_same, List.map_map]; rfl, by
    have : (ws.map fun _ => true).all id = true := by simp
    rw [this]
    exact hd _ he2⟩
/-- any, all of a comprehension by a function of the items -/
theorem lc_any_g {B : (Cx → Prop) → Prop} {T : Tg} {vs : List Nat} {ws : List W} {Gm : Mu → Prop} (g : W → Bool) (hG : ∀ mu', Ext mu1 mu' → Gm mu') (hl : ws.length ≤ sizeLine) (hB : ∀ {p q : Cx → Prop}, (∀ Y, p Y → q Y) → B p → B q)
    (hs : ∀ w mu', w ∈ ws → Ext mu1 mu' → ∃ G2, T.bind w (wipeG G vs) = some G2 ∧ B fun Y => SE Y elt G2 mu' fun r mu4 => r = .bl (g w) ∧ Ext mu' mu4)
    (hd : ∀ mu', Ext mu1 mu' → P (.bl (ws.any g)) mu') : lcPost B T elt vs G (fun w mu2 => anyW [w] mu2 P) ws Gm mu1 :=
  lc_pure (fun w => .bl (g w)) hG hl hs hB fun D mu' hD he he2 => ⟨ws.map g, by rw [setM_same, List.map_map]; rfl, by
    have : (ws.map g).any id = ws.any g := by rw [List.any_map]; rfl
    rw [this]
    exact hd _ he2⟩
theorem lc_all_g {B : (Cx → Prop) → Prop} {T : Tg} {vs : List Nat} {ws : List W} {Gm : Mu → Prop} (g : W → Bool) (hG : ∀ mu', Ext mu1 mu' → Gm mu') (hl : ws.length ≤ sizeLine) (hB : ∀ {p q : Cx → Prop}, (∀ Y, p Y → q Y) → B p → B q)
    (hs : ∀ w mu', w ∈ ws → Ext mu1 mu' → ∃ G2, T.bind w (wipeG G vs) = some G2 ∧ B fun Y => SE Y elt G2 mu' fun r mu4 => r = .bl (g w) ∧ Ext mu' mu4)
    (hd : ∀ mu', Ext mu1 mu' → P (.bl (ws.all g)) mu') : lcPost B T elt vs G (fun w mu2 => allW [w] mu2 P) ws Gm mu1 :=
  lc_pure (fun w => .bl (g w)) hG hl hs hB fun D mu' hD he he2 => ⟨ws.map g, by rw [setM_same, List.map_map]; rfl, by
    have : (ws.map g).all id = ws.all g := by rw [List.all_map]; rfl
    rw [this]
    exact hd _ he2⟩
theorem InBlk.mono {scope : Scope} {p q : Cx → Prop} (h : ∀ Y, p Y → q Y) (hp : InBlk X scope p) : InBlk X scope q := fun s H C cl fp => h _ (hp s H C cl fp)
/-- weaken what is wanted -/
theorem SE.imp {P Q : PW1} (h : SE X e G mu P) (f : ∀ w mu', P w mu' → Q w mu') : SE X e G mu Q := fun σ H R d m k => h σ H R d m fun v w mu' H' q => k v w mu' H' (f w mu' q)
/-- a comprehension with a test -/
theorem lc_filter {B : (Cx → Prop) → Prop} {T : Tg} {vs : List Nat} {ws : List W} {Gm : Mu → Prop} (p : W → Bool) (g : W → W) (hG : ∀ mu', Ext mu1 mu' → Gm mu') (hl : ws.length ≤ sizeLine)
    (hs : ∀ w mu', w ∈ ws → Ext mu1 mu' → ∃ G2, T.bind w (wipeG G vs) = some G2 ∧ B fun Y => ST Y t G2 mu' fun b mu3 => b = p w ∧ Ext mu' mu3 ∧ (p w = true → B fun Z => SE Z elt G2 mu3 fun r mu4 => r = g w ∧ Ext mu' mu4))
    (hB : ∀ {p q : Cx → Prop}, (∀ Y, p Y → q Y) → B p → B q)
    (hd : ∀ D mu', mu1 D = none → Ext mu1 mu' → Ext mu1 (setM mu' D (.lst ((ws.filter p).map g))) → P (.m D) (setM mu' D (.lst ((ws.filter p).map g)))) : lcPost1 B T elt t vs G P ws Gm mu1 := by
  intro D hD
  refine ⟨fun i acc mu' => acc = ((ws.take i).filter p).map g ∧ Ext mu1 mu', ⟨rfl, Ext.refl⟩, fun i acc mu' _ q => hG mu' q.2, fun i w acc mu' hw q => ?_, fun acc mu' q => ?_⟩
  · obtain ⟨rfl, q⟩ := q
    have hi : i < ws.length := (List.getElem?_eq_some_iff.mp hw).1
    refine ⟨?_, ?_⟩
    · rw [List.length_map]
      have h1 := List.length_filter_le p (ws.take i)
      rw [List.length_take] at h1
      omega
    obtain ⟨G2, hb, he⟩ := hs w mu' (List.mem_of_getElem? hw) q
    refine ⟨G2, hb, hB (fun Y h σ H Q d m k => h σ H Q d m fun b mu3 H3 h3 => k b mu3 H3 ?_) he⟩
    obtain ⟨e1, e2, e3⟩ := h3
    have tk : ws.take (i + 1) = ws.take i ++ [w] := by rw [List.take_add_one, hw]; rfl
    cases b with
    | true =>
      refine hB (fun Z h4 => SE.imp h4 fun r mu4 h5 => ⟨?_, q.trans h5.2⟩) (e3 e1.symm)
      rw [tk, List.filter_append, List.map_append, h5.1]
      simp [← e1]
    | false =>
      show _ ∧ _
      refine ⟨?_, q.trans e2⟩
      rw [tk, List.filter_append, List.map_append]
      simp [← e1]
  · obtain ⟨rfl, q⟩ := q
    rw [List.take_length]
    exact hd D mu' hD q (q.set hD)
end
/-! ### defs as they stand behind the top -/
structure Dfn (K : PySem.W.Frag) (mg : Str → Option Value) (x : Str) (st : Stmt) (ps : List Str) : Prop where
  ex : ∃ f fd, Fun K x x st f fd ∧ mg x = some (.ref f) ∧ Binds K fd ps []
structure DefOk (P : Program) (w : World) (K : PySem.W.Frag) (mg : Str → Option Value) (base : Heap) (x : Str) (ps : List Str) (k : Nat) (S : SpW) : Prop where
  ex : ∃ f fd, FnOk P w K mg base CX0 k f fd ps (spW K S) ∧ mg x = some (.ref f) ∧ PySem.W.keepIn K (.ref f) = true ∧ Binds K fd ps []
section
variable {P : Program} {w : World} {K : PySem.W.Frag} {mg : Str → Option Value} {base : Heap}
theorem dfnOk {x : Str} {st : Stmt} {N ps : List Str} {k : Nat} {S : SpW} (D : Dfn K mg x st ps) (Sc : FnScope N ps (defScope st)) (len : ∀ ws mu P, S ws mu P → ws.length = ps.length)
    (body : ∀ (f : Addr) (cdv : Value) (A : Around) (outer : List Env) (s : Shared) (H : Hp) (E : XK), Room k (A.deeper (PyProof.Rows.envOfC x (defScope st) s.heap.objs.size f cdv)) → ∀ ws mu Pt, S ws mu Pt →
      SSs (cxOf CX0 P w K mg base N x (defScope st) f cdv A outer s H E).nox (defBody st) (startW N ws) mu { nx := fun _ mu' => Pt .non mu', rt := Pt }) : DefOk P w K mg base x ps (k + 1) S := by
  obtain ⟨f, fd, F, hm, hb⟩ := D.ex
  exact ⟨f, fd, okW F Sc len (body f), hm, F.kp, hb⟩
end
section
variable {X : Cx} {e : Expr} {es : List Expr} {G : Gs} {mu : Mu} {pos p : Pos} {P : PW1}
theorem se_callD {x : Str} {ps : List Str} {k : Nat} {S : SpW} (D : DefOk X.prog X.w X.K X.mg X.base x ps k S) (hr : Room k X.A) (h : SA X (e :: es) G mu fun ws mu1 => S ws mu1 P)
    (hg : Gl X x := by rfl) (hdb : (x == ("__debug__" : Str)) = false := by decide) (he : starEach (e :: es) X.env = (false, eval e X.env) :: starEach es X.env := by rfl) (hpl : (backTo pos (starEach es X.env)).any (·.1) = false := by rfl) : SE X (.Call (.Name x p) (e :: es) [] pos) G mu P := by
  obtain ⟨f, fd, F, hm, hk, hb⟩ := D.ex
  exact se_call F hr hm hk hb h hg hdb he hpl
theorem se_all (h : SE X e G mu fun w mu1 => allW [w] mu1 P) (hm : X.mg "all" = none) (hc : X.calm = true := by rfl) (hg : Gl X "all" := by rfl) (he : starEach [e] X.env = [(false, eval e X.env)] := by rfl) (hpl : (backTo pos (starEach [] X.env)).any (·.1) = false := by rfl) :
    SE X (.Call (.Name "all" p) [e] [] pos) G mu P := se_blt (cr_all hc) all_w hm (sa_one h he) (by decide +kernel) hg (by decide) (by decide) he hpl
theorem se_any (h : SE X e G mu fun w mu1 => anyW [w] mu1 P) (hm : X.mg "any" = none) (hc : X.calm = true := by rfl) (hg : Gl X "any" := by rfl) (he : starEach [e] X.env = [(false, eval e X.env)] := by rfl) (hpl : (backTo pos (starEach [] X.env)).any (·.1) = false := by rfl) :
    SE X (.Call (.Name "any" p) [e] [] pos) G mu P := se_blt (cr_any hc) any_w hm (sa_one h he) (by decide +kernel) hg (by decide) (by decide) he hpl
theorem se_tupleC (h : SE X e G mu fun w mu1 => tupleW [w] mu1 P) (hm : X.mg "tuple" = none) (hg : Gl X "tuple" := by rfl) (he : starEach [e] X.env = [(false, eval e X.env)] := by rfl) (hpl : (backTo pos (starEach [] X.env)).any (·.1) = false := by rfl) :
    SE X (.Call (.Name "tuple" p) [e] [] pos) G mu P := se_bty call_tuple_of tuple_w hm (sa_one h he) (by decide +kernel) hg (by decide) (by decide) he hpl
/-! a text's signs -/
theorem itw_str {K : PySem.W.Frag} {H : Hp} {mu : Mu} {z : Str} : ItW K (Its z) (z.cps.toList.map fun c => W.str ⟨#[c]⟩) (fun _ => True) mu H := by
  refine ⟨fun _ => True, fun i H v H' => H' = H ∧ ∃ c, z.cps[i]? = some c ∧ v = .str ⟨#[c]⟩, by rw [List.length_map]; exact walk_str (z := z), fun _ _ _ _ _ => trivial, fun i H1 x H2 mu' hi c m' _ ⟨e, cc, h1, h2⟩ => ?_⟩
  subst e h2
  refine ⟨.str ⟨#[cc]⟩, ?_, Chg.refl, m', rfl⟩
  rw [List.getElem?_map, Array.getElem?_toList, h1]
  rfl
theorem si_str {tg iter : Expr} {Post : List W → (Mu → Prop) → Mu → Prop} (h : SE X iter G mu fun w mu1 => match w with | .str z => Post (z.cps.toList.map fun c => W.str ⟨#[c]⟩) (fun _ => True) mu1 | _ => False) : SI X tg iter G mu Post :=
  SI.mk (pi_str peE) fun σ H R d m k => h σ H _ d m fun v w mu1 H1 h1 c1 d1 m1 => by
    cases w with
    | str z => exact ⟨z, d1, k _ _ _ _ _ h1 c1 m1 itw_str⟩
    | _ => exact False.elim h1
theorem si_items {tg : Expr} {i : Nat} {x : Str} {w : W} {pos : Pos} {Post : List W → (Mu → Prop) → Mu → Prop} (hG : G[i]? = some (some w)) (h : itemsW w mu Post) (hN : X.N[i]? = some x := by rfl) (hv : Vis X.env.scope x := by first | exact Or.inl rfl | exact Or.inr (Or.inl rfl) | exact Or.inr (Or.inr rfl))
    (hd : (x == ("__debug__" : Str)) = false := by decide) (hcd : (x == ("__classdict__" : Str)) = false := by decide) : SI X tg (.Name x pos) G mu Post := by
  cases w with
  | tup ws => exact si_tup (se_var hG h hN hv hd hcd)
  | m a => exact si_lst (se_var hG h hN hv hd hcd)
  | _ => exact False.elim h
/-! x *= e -/
theorem ip_mulS : PIp X .Mult (fun x y H Q => ∃ i j, x = .int i ∧ y = .int j ∧ CMulW i j ∧ Q (.int (i * j)) H) := by
  intro pins s σ H x y v u Q I r1 r2 ⟨i, j, e1, e2, hc, q⟩
  subst e1 e2
  obtain ⟨t, rfl⟩ := r1
  obtain ⟨t', rfl⟩ := r2
  exact PyProof.Rows.imul_int ⟨.int _, H, I.tok _, ⟨_, rfl⟩, q⟩ hc.ok
theorem ss_augMul {i : Nat} {x : Str} {E : WE} {pos' : Pos} {w : W} (hG : G[i]? = some (some w)) (h : SE X e G mu fun w2 mu1 => match w, w2 with | .int a, .int b => CMulW a b ∧ E.nx (G.set i (some (.int (a * b)))) mu1 | _, _ => False) (hN : X.N.Nodup) (hi : X.N[i]? = some x := by rfl) (hx : Loc X.env.scope x := by first | exact .inl rfl | exact .inr rfl)
    (hf : X.fn x = true ∨ X.env.scope.names.lookup x = some .local := by first | exact .inl rfl | exact .inr rfl) : SS X (.AugAssign (.Name x pos') .Mult e pos) G mu E :=
  SS.mk (ps_aug hN hi hx peE ip_mulS hf) fun σ H D d m k => by
    obtain ⟨v, hv, dv⟩ := d.2 i w hG
    refine ⟨v, hv, h σ H _ d m fun y w2 mu1 H1 h1 c1 d1 m1 => ?_⟩
    have dv := c1.den m dv
    cases w with
    | int a =>
      cases w2 with
      | int b => exact ⟨a, b, dv, d1, h1.1, k.nx _ _ _ _ h1.2 c1 (DenG.set (c1.denG m d) rfl) m1⟩
      | _ => exact False.elim h1
    | _ => cases w2 <;> exact False.elim h1
abbrev inCW (w1 w2 : W) (mu : Mu) (P : PW1) : Prop := ∃ c z, w1 = .str ⟨#[c]⟩ ∧ w2 = .str z ∧ P (.bl (decide (c ∈ z.cps.toList))) mu
theorem inC_w : OpW X (fun x y H Q => ∃ (c : Nat) (z : Str), x = .str ⟨#[c]⟩ ∧ y = .str z ∧ Q (.bl (decide (c ∈ z.cps.toList))) H) inCW := fun w1 w2 x y mu H P Q dx dy m ⟨c, z, e1, e2, h⟩ k => by
  subst e1 e2
  exact ⟨c, z, dx, dy, k.now h rfl m⟩
end
end Dv
set_option Elab.async false
set_option linter.all false
set_option maxRecDepth 100000
/-! Worlds as plW data, and what is asked of them. -/
namespace K1
open PySem L2 Dv
abbrev Slot := Str × Str × List Str
abbrev Pat := List (Str × Str)
abbrev Lap := Str × Pat × Pat
structure Wd where
  houses : List Str
  slots : List Slot
  bears : List Pat
  never : List Pat
  lapses : List Lap
/-- small letters -/
def NmOk (z : Str) : Prop := 1 ≤ z.length ∧ z.length ≤ 8 ∧ ∀ c ∈ z.cps.toList, 97 ≤ c ∧ c ≤ 122
def stW (ns : List Str) : List W := ns.map W.str
def nmW (ns : List Str) : W := .tup (stW ns)
def slW1 (s : Slot) : W := .tup [.str s.1, .str s.2.1, nmW s.2.2]
def slsW (ss : List Slot) : W := .tup (ss.map slW1)
def prW (q : Str × Str) : W := .tup [.str q.1, .str q.2]
def ptW (p : Pat) : W := .tup (p.map prW)
def ptsW (ps : List Pat) : W := .tup (ps.map ptW)
def lpW (l : Lap) : W := .tup [.str l.1, ptW l.2.1, ptW l.2.2]
def lpsW (ls : List Lap) : W := .tup (ls.map lpW)
theorem nm_len {z : Str} (h : NmOk z) : z.length ≤ sizeLine := Nat.le_trans h.2.1 (by decide)
theorem nm_ok {z : Str} (h : NmOk z) : PyData.canLay0 (.str z) = true := by
  unfold PyData.canLay0
  show (z.cps.all fun c => decide (c < 0x110000)) = true
  rw [← Array.all_toList, List.all_eq_true]
  intro c hc
  have := h.2.2 c hc
  simp
  omega
theorem dats_map {α : Type} (f : α → W) : ∀ xs : List α, dats (xs.map f) = xs.map fun x => dat (f x)
  | [] => by simp [dats]
  | x :: xs => by simp [dats, dats_map f xs]
theorem plains_map {α : Type} (f : α → W) (h : ∀ x, plW (f x) = true) : ∀ xs : List α, plsW (xs.map f) = true
  | [] => by simp [plsW]
  | x :: xs => by simp [plsW, h x, plains_map f h xs]
theorem plains_all : ∀ {ws : List W}, (∀ w ∈ ws, plW w = true) → plsW ws = true
  | [], _ => by simp [plsW]
  | w :: ws, h => by simp [plsW, h w (by simp), plains_all (ws := ws) fun v hv => h v (by simp [hv])]
theorem plain_str (z : Str) : plW (.str z) = true := by simp [plW]
theorem plain_pr (q : Str × Str) : plW (prW q) = true := by simp [prW, plW, plsW]
theorem plain_pt (p : Pat) : plW (ptW p) = true := by unfold ptW plW; exact plains_map _ plain_pr p
theorem plain_nm (ns : List Str) : plW (nmW ns) = true := by unfold nmW stW plW; exact plains_map _ plain_str ns
theorem lay_all {α : Type} (f : α → PyData) : ∀ {xs : List α}, (∀ x ∈ xs, (f x).canLay0 = true) → PyData.canLayAll0 (xs.map f) = true
  | [], _ => by simp [PyData.canLayAll0]
  | x :: xs, h => by simp [PyData.canLayAll0, h x (by simp), lay_all f (xs := xs) fun y hy => h y (by simp [hy])]
theorem depth_all {α : Type} (f : α → PyData) {n : Nat} : ∀ {xs : List α}, (∀ x ∈ xs, (f x).depth ≤ n) → PyData.depthAll (xs.map f) ≤ n
  | [], _ => by simp [PyData.depthAll]
  | x :: xs, h => by
    have h1 := h x (by simp)
    have h2 := depth_all f (n := n) (xs := xs) fun y hy => h y (by simp [hy])
    simp only [List.map_cons, PyData.depthAll]
    omega
theorem eqv_str (x y : Str) : PyData.eqv (.str x) (.str y) = decide (x = y) := by
  unfold PyData.eqv
  by_cases h : x = y
  · simp [h]
  · simp [h]
theorem any_str (ns : List Str) (h : Str) : ((dats (stW ns)).any fun z => PyData.eqv z (dat (.str h))) = decide (h ∈ ns) := by
  unfold stW
  rw [dats_map]
  induction ns with
  | nil => simp
  | cons n ns ih =>
    simp only [List.map_cons, List.any_cons, dat, eqv_str, ih] at ih ⊢
    by_cases e : n = h
    · simp [e]
    · have : ¬ h = n := fun z => e z.symm
      simp [e, this]
/-! data of one kind -/
def ltD (q : W × W) : Bool := PySem.W.dataLt (dat q.1) (dat q.2)
def rising (us : List W) : Bool := (us.zip us.tail).all ltD
def okUs (us : List W) : Prop := us.length ≤ sizeLine ∧ ∀ u ∈ us, plW u = true ∧ dat u ≠ .none ∧ (dat u).depth ≤ 64 ∧ ∀ v ∈ us, PySem.W.alike (dat u) (dat v) = true
theorem okUs_st {ns : List Str} (h : ns.length ≤ sizeLine) : okUs (stW ns) := by
  refine ⟨by rw [stW, List.length_map]; exact h, fun u hu => ?_⟩
  obtain ⟨n, hn, rfl⟩ := List.mem_map.mp hu
  refine ⟨plain_str n, by simp [dat], by simp [dat, PyData.depth], fun v hv => ?_⟩
  obtain ⟨n', hn', rfl⟩ := List.mem_map.mp hv
  simp [dat, PySem.W.alike]
theorem alike_pr (p q : Str × Str) : PySem.W.alike (dat (prW p)) (dat (prW q)) = true := by simp [prW, dat, dats, PySem.W.alike, PySem.W.alikeAll]
theorem alikeAll_prs : ∀ ps qs : List (Str × Str), PySem.W.alikeAll (dats (ps.map prW)) (dats (qs.map prW)) = true
  | [], _ => by simp [dats, PySem.W.alikeAll]
  | p :: ps, [] => by simp [dats, PySem.W.alikeAll]
  | p :: ps, q :: qs => by simp only [List.map_cons, dats, PySem.W.alikeAll, alike_pr, alikeAll_prs ps qs, Bool.and_self]
theorem alike_pt (p q : Pat) : PySem.W.alike (dat (ptW p)) (dat (ptW q)) = true := by
  unfold ptW
  simp only [dat, PySem.W.alike]
  exact alikeAll_prs p q
theorem depth_pr (q : Str × Str) : (dat (prW q)).depth ≤ 1 := by simp [prW, dat, dats, PyData.depth, PyData.depthAll]
theorem depth_pt (p : Pat) : (dat (ptW p)).depth ≤ 2 := by
  unfold ptW
  simp only [dat, PyData.depth]
  rw [dats_map]
  have := depth_all (fun q => dat (prW q)) (n := 1) (xs := p) fun q _ => depth_pr q
  omega
theorem okUs_pt {ps : List Pat} (h : ps.length ≤ sizeLine) : okUs (ps.map ptW) := by
  refine ⟨by rw [List.length_map]; exact h, fun u hu => ?_⟩
  obtain ⟨p, hp, rfl⟩ := List.mem_map.mp hu
  refine ⟨plain_pt p, by simp [ptW, dat], Nat.le_trans (depth_pt p) (by decide), fun v hv => ?_⟩
  obtain ⟨q, hq, rfl⟩ := List.mem_map.mp hv
  exact alike_pt p q
/-! what worlds ask -/
structure HsOk (hs : List Str) : Prop where
  lo : 1 ≤ hs.length
  hi : hs.length ≤ 4
  nm : ∀ h ∈ hs, NmOk h
  up : rising (stW hs) = true
structure SlOk (hs : List Str) (s : Slot) : Prop where
  nm : NmOk s.1
  home : s.2.1 ∈ hs
  lo : 2 ≤ s.2.2.length
  hi : s.2.2.length ≤ 4
  wm : ∀ w ∈ s.2.2, NmOk w
  nd : s.2.2.Nodup
def PrOk (ss : List Slot) (q : Str × Str) : Prop := ∃ s ∈ ss, s.1 = q.1 ∧ q.2 ∈ s.2.2
structure PtOk (ss : List Slot) (p : Pat) : Prop where
  pr : ∀ q ∈ p, PrOk ss q
  up : rising (stW (p.map (·.1))) = true
  len : p.length ≤ 6
/-- names of slots and words -/
structure SsNm (ss : List Slot) : Prop where
  len : ss.length ≤ 6
  nm : ∀ s ∈ ss, NmOk s.1 ∧ NmOk s.2.1 ∧ s.2.2.length ≤ 4 ∧ ∀ w ∈ s.2.2, NmOk w
theorem SsNm.filter {ss : List Slot} (h : SsNm ss) (p : Slot → Bool) : SsNm (ss.filter p) :=
  ⟨Nat.le_trans (List.length_filter_le _ _) h.len, fun s hs => h.nm s (List.mem_filter.mp hs).1⟩
/-- what is asked of lists of names to be compared -/
theorem in_names {P : PW1} {mu : Mu} {ng : Bool} {ns : List Str} {h : Str} (hh : NmOk h) (hn : ∀ n ∈ ns, NmOk n) (k : P (.bl (ng != decide (h ∈ ns))) mu) : inW ng (.str h) (nmW ns) mu P := by
  refine ⟨plain_str h, ?_, dats (stW ns), ?_, ?_, ?_⟩
  · unfold SeqAt.shaped
    simp only [dat, PyData.depth]
    have := nm_ok hh
    simp [this]
  · show (if plsW (stW ns) = true then some (dats (stW ns)) else none) = _
    rw [if_pos (show plsW (stW ns) = true from plains_map _ plain_str ns)]
  · unfold stW
    rw [dats_map]
    exact lay_all _ fun n h' => nm_ok (hn n h')
  · rw [any_str]
    exact k
theorem eq_strs {P : PW1} {mu : Mu} {x y : Str} (hx : NmOk x) (hy : NmOk y) (k : P (.bl (decide (x = y))) mu) : eqW (.str x) (.str y) mu P := by
  have sh : ∀ {z : Str}, NmOk z → SeqAt.shaped (.str z) = true := fun h => by
    unfold SeqAt.shaped
    have := nm_ok h
    simp [this, PyData.depth]
  refine ⟨.str x, .str y, ?_, ?_, sh hx, sh hy, ?_⟩
  · simp [asD, plW, dat]
  · simp [asD, plW, dat]
  · rw [eqv_str]; exact k
end K1
set_option Elab.async false
set_option linter.all false
set_option maxRecDepth 100000
namespace K1
open PySem L2 Dv
def top (i : Nat) : Stmt := PySem.Challenge.pw_unlikekeys_k01_worlds_as_they_were_made.main.body.getD i (.Pass ⟨0, 0, 0, 0⟩)
/-- what the names of built-ins hold -/
structure Bl (mg : Str → Option Value) : Prop where
  isinstance : mg "isinstance" = none
  tuple : mg "tuple" = none
  list : mg "list" = none
  str : mg "str" = none
  len : mg "len" = none
  all : mg "all" = none
  any : mg "any" = none
  zip : mg "zip" = none
  set : mg "set" = none
  range : mg "range" = none
  sorted : mg "sorted" = none
  int : mg "int" = none
  abs : mg "abs" = none
  min : mg "min" = none
  max : mg "max" = none
  enumerate : mg "enumerate" = none
  dict : mg "dict" = none
  repr : mg "repr" = none
  letters : ∃ t, mg "LETTERS" = some (.str "abcdefghijklmnopqrstuvwxyz" t)
  stands : ∃ t, mg "MOST_STANDS" = some (.int 32 t)
section
variable {P : Program} {w : World} {K : PySem.W.Frag} {mg : Str → Option Value} {base : Heap}
abbrev s_is_tuple : Stmt := top 4
theorem sc_is_tuple : FnScope ["value", "least", "most"] ["value", "least", "most"] (defScope s_is_tuple) := ⟨rfl, rfl, rfl, by decide +kernel, rfl, by decide +kernel, by decide +kernel⟩
def S_is_tuple : SpW := fun ws mu P => ∃ us a b, ws = [.tup us, .int a, .int b] ∧ ∀ r mu', r = (decide (a ≤ (us.length : Int)) && decide ((us.length : Int) ≤ b)) → Ext mu mu' → P (.bl r) mu'
theorem d_is_tuple (D : Dfn K mg "is_tuple" s_is_tuple ["value", "least", "most"]) (B : Bl mg) : DefOk P w K mg base "is_tuple" ["value", "least", "most"] 1 S_is_tuple := by
  refine dfnOk D sc_is_tuple (fun ws mu P ⟨us, a, b, e, _⟩ => by rw [e]; rfl) (fun f cdv A outer s H E hr ws mu Pt ⟨us, a, b, e, h⟩ => ?_)
  subst e
  refine sss_cons (ss_ret ?_)
  refine se_and (se_isi (T := "tuple") ?_ B.isinstance B.tuple)
  refine se_var (i := 0) rfl ?_
  refine ⟨"tuple", true, rfl, by decide +kernel, ?_⟩
  refine se_one (se_chain op_le cmpI_w op_le cmpI_w ?_)
  refine se_var (i := 1) rfl ?_
  refine se_len ?_ B.len
  refine se_var (i := 0) rfl ?_
  refine bW_split (fun e1 => ?_) (fun e1 => ?_) <;> dsimp only at e1
  · refine se_var (i := 2) rfl ?_
    exact h _ _ (by simp [e1]) Ext.refl
  · exact h _ _ (by simp [e1]) Ext.refl
abbrev s_is_rising : Stmt := top 6
theorem sc_is_rising : FnScope ["values", "low", "high"] ["values"] (defScope s_is_rising) := ⟨rfl, rfl, rfl, by decide +kernel, rfl, by decide +kernel, by decide +kernel⟩
def S_is_rising : SpW := fun ws mu P => ∃ us v, ws = [v] ∧ (v = .tup us ∨ ∃ a, v = .m a ∧ mu a = some (.lst us)) ∧ okUs us ∧ ∀ r mu', r = rising us → Ext mu mu' → P (.bl r) mu'
theorem cut1 (us : List W) : cutW us (some 1) none = us.tail := by
  unfold cutW HT.sIx
  cases us with
  | nil => rfl
  | cons x r =>
    have : min (1 : Int).toNat (x :: r).length = 1 := by simp
    simp [this]
theorem d_is_rising (D : Dfn K mg "is_rising" s_is_rising ["values"]) (B : Bl mg) : DefOk P w K mg base "is_rising" ["values"] 1 S_is_rising := by
  refine dfnOk D sc_is_rising (fun ws mu P ⟨us, v, e, _⟩ => by rw [e]; rfl) (fun f cdv A outer s H E hr ws mu Pt ⟨us, v, e, hv, ok, h⟩ => ?_)
  subst e
  have hu : (A.deeper (PyProof.Rows.envOfC "is_rising" (defScope s_is_rising) s.heap.objs.size f cdv)).units + 65 < cLine := by have := hr.un; omega
  refine sss_cons (ss_ret ?_)
  refine se_blt (cr_all rfl) all_w B.all (sa_one ?_)
  refine se_lc (own := [("low", 1), ("high", 2)]) (.tp [(.nm 1), (.nm 2)]) rfl sc_is_rising.nd (blkOk_by (N := ["values", "low", "high"]) (sc := defScope s_is_rising) (by decide +kernel)) rfl (fun _ _ _ _ _ => (pg_tup rfl (pgs_cons (pg_name (i := 1) sc_is_rising.nd rfl (Or.inl rfl)) (pgs_cons (pg_name (i := 2) sc_is_rising.nd rfl (Or.inl rfl)) pgs_nil)))) (by intro _; rfl) ?_
  refine si_zip ?_ B.zip
  refine se_var (i := 0) rfl ?_
  refine se_slFrom ?_
  refine se_var (i := 0) rfl ?_
  refine se_int ?_
  rcases hv with rfl | ⟨a, rfl, ha⟩
  · dsimp only [isI, slW, zipW]
    rw [cut1]
    refine lc_pure (fun q => match q with | .tup [x, y] => .bl (ltD (x, y)) | _ => .non) (fun _ _ => trivial) ?_ ?_ InBlk.mono ?_
    · rw [List.length_map, List.length_zip]; have := ok.1; omega
    · intro w mu' hw he
      obtain ⟨⟨x, y⟩, hq, rfl⟩ := List.mem_map.mp hw
      refine ⟨_, rfl, fun s H C cl fp => ?_⟩
      refine se_cmp (op_ltD hu) lt_w (nomark _) ?_
      refine se_var (i := 1) rfl ?_
      refine se_var (i := 2) rfl ?_
      have hx := List.of_mem_zip hq
      obtain ⟨p1, n1, dp1, al⟩ := ok.2 x hx.1
      have hy : y ∈ us := List.mem_of_mem_tail hx.2
      exact ⟨p1, (ok.2 y hy).1, al y hy, n1, dp1, rfl, Ext.refl⟩
    · intro D mu' hD he he2
      refine ⟨(us.zip us.tail).map ltD, ?_, h _ _ ?_ he2⟩
      · rw [setM_same, List.map_map, List.map_map]
        rfl
      · unfold rising
        rw [List.all_map]
        rfl
  · dsimp only [isI, slW, zipW]
    refine ⟨us, ha, fun p np => ?_⟩
    rw [cut1]
    have e0 : Ext mu (setM mu p (.lst us.tail)) := Ext.refl.set np
    refine ⟨us, us.tail, e0 _ _ ha, setM_same, ?_⟩
    refine lc_pure (fun q => match q with | .tup [x, y] => .bl (ltD (x, y)) | _ => .non) (fun mu' e => ⟨e _ _ (e0 _ _ ha), e _ _ setM_same⟩) ?_ ?_ InBlk.mono ?_
    · rw [List.length_map, List.length_zip]; have := ok.1; omega
    · intro w mu' hw he
      obtain ⟨⟨x, y⟩, hq, rfl⟩ := List.mem_map.mp hw
      refine ⟨_, rfl, fun s H C cl fp => ?_⟩
      refine se_cmp (op_ltD hu) lt_w (nomark _) ?_
      refine se_var (i := 1) rfl ?_
      refine se_var (i := 2) rfl ?_
      have hx := List.of_mem_zip hq
      obtain ⟨p1, n1, dp1, al⟩ := ok.2 x hx.1
      have hy : y ∈ us := List.mem_of_mem_tail hx.2
      exact ⟨p1, (ok.2 y hy).1, al y hy, n1, dp1, rfl, Ext.refl⟩
    · intro D mu' hD he he2
      refine ⟨(us.zip us.tail).map ltD, ?_, h _ _ ?_ (e0.trans he2)⟩
      · rw [setM_same, List.map_map, List.map_map]
        rfl
      · unfold rising
        rw [List.all_map]
        rfl
abbrev s_is_name : Stmt := top 3
theorem sc_is_name : FnScope ["value", "letter"] ["value"] (defScope s_is_name) := ⟨rfl, rfl, rfl, by decide +kernel, rfl, by decide +kernel, by decide +kernel⟩
/-- of what is as it should be: True -/
def S_t (pre : List W → Mu → Prop) : SpW := fun ws mu P => pre ws mu ∧ ∀ mu', Ext mu mu' → P (.bl true) mu'
def S_is_name : SpW := S_t fun ws mu => ∃ z, ws = [.str z] ∧ NmOk z
theorem letters_mem {c : Nat} (h : 97 ≤ c ∧ c ≤ 122) : c ∈ ("abcdefghijklmnopqrstuvwxyz" : Str).cps.toList := by
  have hd : ∀ c, c < 123 → 97 ≤ c → c ∈ ("abcdefghijklmnopqrstuvwxyz" : Str).cps.toList := by decide +kernel
  exact hd c (by omega) h.1
theorem d_is_name (D : Dfn K mg "is_name" s_is_name ["value"]) (B : Bl mg) : DefOk P w K mg base "is_name" ["value"] 1 S_is_name := by
  refine dfnOk D sc_is_name (fun ws mu P ⟨⟨z, e, _⟩, _⟩ => by rw [e]; rfl) (fun f cdv A outer s H E hr ws mu Pt ⟨⟨z, e, hz⟩, h⟩ => ?_)
  subst e
  refine sss_cons (ss_ret ?_)
  refine se_and (se_isi (T := "str") ?_ B.isinstance B.str)
  refine se_var (i := 0) rfl ?_
  refine ⟨"str", true, rfl, by decide +kernel, ?_⟩
  refine se_and (se_chain op_le cmpI_w op_le cmpI_w ?_)
  refine se_int ?_
  refine se_len ?_ B.len
  refine se_var (i := 0) rfl ?_
  refine ⟨nm_len hz, ?_⟩
  refine bW_t (decide_eq_true (by have := hz.1; omega)) ?_
  refine se_int ?_
  refine bW_t (decide_eq_true (by have := hz.2.1; omega)) ?_
  refine se_one (se_all ?_ B.all)
  refine se_lc (own := [("letter", 1)]) (.nm 1) rfl sc_is_name.nd (blkOk_by (N := ["value", "letter"]) (sc := defScope s_is_name) (by decide +kernel)) rfl (fun _ _ _ _ _ => (pg_name (i := 1) sc_is_name.nd rfl (Or.inl rfl))) (by intro _; rfl) ?_
  refine si_str ?_
  refine se_var (i := 0) rfl ?_
  refine lc_all_t (fun _ _ => trivial) (by rw [List.length_map]; exact nm_len hz) InBlk.mono ?_ fun mu' e => h _ e
  intro w mu' hw he
  obtain ⟨c, hc, rfl⟩ := List.mem_map.mp hw
  refine ⟨_, rfl, fun s H C cl fp => ?_⟩
  refine se_cmp op_in_sign inC_w (by rfl) ?_
  refine se_var (i := 1) rfl ?_
  obtain ⟨t, ht⟩ := B.letters
  refine se_glob (w := .str "abcdefghijklmnopqrstuvwxyz") (v := .str "abcdefghijklmnopqrstuvwxyz") ht ⟨t, rfl⟩ (fun _ _ => rfl) ?_
  refine ⟨c, _, rfl, rfl, ?_, Ext.refl⟩
  rw [decide_eq_true (letters_mem (hz.2.2 c hc))]
abbrev s_are_names : Stmt := top 5
theorem sc_are_names : FnScope ["value", "least", "most", "name"] ["value", "least", "most"] (defScope s_are_names) := ⟨rfl, rfl, rfl, by decide +kernel, rfl, by decide +kernel, by decide +kernel⟩
def S_are_names : SpW := S_t fun ws mu => ∃ ns a b, ws = [nmW ns, .int a, .int b] ∧ a ≤ (ns.length : Int) ∧ (ns.length : Int) ≤ b ∧ ns.length ≤ sizeLine ∧ ∀ n ∈ ns, NmOk n
theorem d_are_names (D : Dfn K mg "are_names" s_are_names ["value", "least", "most"]) (B : Bl mg) (Dt : DefOk P w K mg base "is_tuple" ["value", "least", "most"] 1 S_is_tuple) (Dn : DefOk P w K mg base "is_name" ["value"] 1 S_is_name) : DefOk P w K mg base "are_names" ["value", "least", "most"] 2 S_are_names := by
  refine dfnOk D sc_are_names (fun ws mu P ⟨⟨ns, a, b, e, _⟩, _⟩ => by rw [e]; rfl) (fun f cdv A outer s H E hr ws mu Pt ⟨⟨ns, a, b, e, ha, hb, hl, hn⟩, h⟩ => ?_)
  subst e
  refine sss_cons (ss_ret ?_)
  refine se_and (se_callD Dt hr ?_)
  refine sa_cons (se_var (i := 0) rfl (sa_cons (se_var (i := 1) rfl (sa_cons (se_var (i := 2) rfl (sa_nil ?_))))))
  refine ⟨stW ns, a, b, rfl, fun r mu1 e e1 => ?_⟩
  refine bW_t (by subst e; rw [stW, List.length_map]; simp [ha, hb]) ?_
  refine se_one (se_all ?_ B.all)
  refine se_lc (own := [("name", 3)]) (.nm 3) rfl sc_are_names.nd (blkOk_by (N := ["value", "least", "most", "name"]) (sc := defScope s_are_names) (by decide +kernel)) rfl (fun _ _ _ _ _ => (pg_name (i := 3) sc_are_names.nd rfl (Or.inl rfl))) (by intro _; rfl) ?_
  refine si_tup ?_
  refine se_var (i := 0) rfl ?_
  refine lc_all_t (fun _ _ => trivial) (by rw [stW, List.length_map]; exact hl) InBlk.mono ?_ fun mu' e => h _ (e1.trans e)
  intro w mu' hw he
  obtain ⟨n, hn', rfl⟩ := List.mem_map.mp hw
  refine ⟨_, rfl, fun s H C cl fp => ?_⟩
  refine se_callD Dn hr (sa_cons (se_var (i := 3) rfl (sa_nil ?_)))
  exact ⟨⟨n, rfl, hn n hn'⟩, fun mu' e => ⟨rfl, e⟩⟩
end
end K1
set_option Elab.async false
set_option linter.all false
set_option maxRecDepth 100000
namespace K1
open PySem L2 Dv
section
variable {P : Program} {w : World} {K : PySem.W.Frag} {mg : Str → Option Value} {base : Heap}
def S_are_different : SpW := S_t fun ws mu => ∃ ns v, ws = [v] ∧ (v = nmW ns ∨ ∃ a, v = .m a ∧ mu a = some (.lst (stW ns))) ∧ ns.Nodup ∧ ns.length ≤ 10 ∧ ∀ n ∈ ns, NmOk n
theorem bit {a b : Nat} {r : Bool} {n : Nat} (e : r = (decide ((a : Int) ≤ (n : Int)) && decide ((n : Int) ≤ (b : Int)))) (h1 : a ≤ n) (h2 : n ≤ b) : r = true := by
  rw [e, decide_eq_true (by omega), decide_eq_true (by omega)]
  rfl

abbrev s_are_houses : Stmt := top 17
theorem sc_are_houses : FnScope ["value"] ["value"] (defScope s_are_houses) := ⟨rfl, rfl, rfl, by decide +kernel, rfl, by decide +kernel, by decide +kernel⟩
def S_are_houses : SpW := S_t fun ws mu => ∃ hs, ws = [nmW hs] ∧ HsOk hs
theorem d_are_houses (D : Dfn K mg "are_houses" s_are_houses ["value"]) (B : Bl mg) (D_are_names : DefOk P w K mg base "are_names" ["value", "least", "most"] 2 S_are_names) (D_is_rising : DefOk P w K mg base "is_rising" ["values"] 1 S_is_rising) : DefOk P w K mg base "are_houses" ["value"] 3 S_are_houses := by
  refine dfnOk D sc_are_houses (fun ws mu P ⟨⟨hs, e, _⟩, _⟩ => by rw [e]; rfl) (fun f cdv A outer s H E hr ws mu Pt ⟨⟨hs, e, ok⟩, h⟩ => ?_)
  subst e
  have hu65 : (A.deeper (PyProof.Rows.envOfC "are_houses" (defScope s_are_houses) s.heap.objs.size f cdv)).units + 65 < cLine := by have := hr.un; omega
  refine sss_cons ?_
  refine ss_ret ?_
  refine se_and ?_
  refine se_callD D_are_names (hr.mono (by decide)) ?_
  refine sa_cons ?_
  refine se_var (i := 0) rfl ?_  -- value
  refine sa_cons ?_
  refine se_int ?_  -- 1
  refine sa_cons ?_
  refine se_int ?_  -- 4
  refine sa_nil ?_
  refine ⟨⟨hs, 1, 4, rfl, by have := ok.lo; omega, by have := ok.hi; omega, Nat.le_trans ok.hi (by decide), ok.nm⟩, fun mu1 e1 => ?_⟩
  refine bW_t rfl ?_
  refine se_one ?_
  refine se_callD D_is_rising (hr.mono (by decide)) ?_
  refine sa_cons ?_
  refine se_var (i := 0) rfl ?_  -- value
  refine sa_nil ?_
  refine ⟨stW hs, nmW hs, rfl, .inl rfl, okUs_st (Nat.le_trans ok.hi (by decide)), fun r mu2 e2 e3 => ?_⟩
  rw [e2, ok.up]
  exact h _ (e1.trans e3)

abbrev s_is_slot : Stmt := top 19
theorem sc_is_slot : FnScope ["houses", "value", "name", "house", "words"] ["houses", "value"] (defScope s_is_slot) := ⟨rfl, rfl, rfl, by decide +kernel, rfl, by decide +kernel, by decide +kernel⟩
def S_is_slot : SpW := S_t fun ws mu => ∃ hs t, ws = [nmW hs, slW1 t] ∧ HsOk hs ∧ SlOk hs t
theorem d_is_slot (D : Dfn K mg "is_slot" s_is_slot ["houses", "value"]) (B : Bl mg) (D_is_tuple : DefOk P w K mg base "is_tuple" ["value", "least", "most"] 1 S_is_tuple) (D_is_name : DefOk P w K mg base "is_name" ["value"] 1 S_is_name) (D_are_names : DefOk P w K mg base "are_names" ["value", "least", "most"] 2 S_are_names) (D_are_different : DefOk P w K mg base "are_different" ["names"] 1 S_are_different) : DefOk P w K mg base "is_slot" ["houses", "value"] 3 S_is_slot := by
  refine dfnOk D sc_is_slot (fun ws mu P ⟨⟨hs, t, e, _⟩, _⟩ => by rw [e]; rfl) (fun f cdv A outer s H E hr ws mu Pt ⟨⟨hs, t, e, hs1, ok⟩, h⟩ => ?_)
  subst e
  have hu65 : (A.deeper (PyProof.Rows.envOfC "is_slot" (defScope s_is_slot) s.heap.objs.size f cdv)).units + 65 < cLine := by have := hr.un; omega
  refine sss_cons ?_
  refine ss_if ?_
  refine st_not ?_
  refine st_val ?_
  refine se_callD D_is_tuple (hr.mono (by decide)) ?_
  refine sa_cons ?_
  refine se_var (i := 1) rfl ?_  -- value
  refine sa_cons ?_
  refine se_int ?_  -- 3
  refine sa_cons ?_
  refine se_int ?_  -- 3
  refine sa_nil ?_
  refine ⟨_, 3, 3, rfl, fun r mu1 e e1 => ?_⟩
  obtain rfl : r = true := bit (a := 3) (b := 3) e (Nat.le_refl _) (Nat.le_refl _)
  refine sss_nil ?_
  refine sss_cons ?_
  refine ss_asg ?_
  refine se_var (i := 1) rfl ?_  -- value
  refine sg_tup ?_
  refine sgs_cons (sg_name (i := 2) ?_ sc_is_slot.nd)
  refine sgs_cons (sg_name (i := 3) ?_ sc_is_slot.nd)
  refine sgs_cons (sg_name (i := 4) ?_ sc_is_slot.nd)
  refine sgs_nil ?_
  refine sss_cons ?_
  refine ss_ret ?_
  refine se_and ?_
  refine se_callD D_is_name (hr.mono (by decide)) ?_
  refine sa_cons ?_
  refine se_var (i := 2) rfl ?_  -- name
  refine sa_nil ?_
  refine ⟨⟨t.1, rfl, ok.nm⟩, fun mu2 e2 => ?_⟩
  refine bW_t rfl ?_
  refine se_and ?_
  refine se_cmp (op_inT hu65) (in_w false) (by rfl) ?_  -- house in houses
  refine se_var (i := 3) rfl ?_  -- house
  refine se_var (i := 0) rfl ?_  -- houses
  refine in_names (hs1.nm _ ok.home) hs1.nm ?_
  refine bW_t (by rw [decide_eq_true ok.home]; rfl) ?_
  refine se_and ?_
  refine se_callD D_are_names (hr.mono (by decide)) ?_
  refine sa_cons ?_
  refine se_var (i := 4) rfl ?_  -- words
  refine sa_cons ?_
  refine se_int ?_  -- 2
  refine sa_cons ?_
  refine se_int ?_  -- 4
  refine sa_nil ?_
  refine ⟨⟨t.2.2, 2, 4, rfl, by have := ok.lo; omega, by have := ok.hi; omega, Nat.le_trans ok.hi (by decide), ok.wm⟩, fun mu3 e3 => ?_⟩
  refine bW_t rfl ?_
  refine se_one ?_
  refine se_callD D_are_different (hr.mono (by decide)) ?_
  refine sa_cons ?_
  refine se_var (i := 4) rfl ?_  -- words
  refine sa_nil ?_
  exact ⟨⟨t.2.2, _, rfl, .inl rfl, ok.nd, Nat.le_trans ok.hi (by decide), ok.wm⟩, fun mu4 e4 => h _ (((e1.trans e2).trans e3).trans e4)⟩

abbrev s_is_pair_over : Stmt := top 24
theorem sc_is_pair_over : FnScope ["slots", "value", "slot", "word", "name", "_", "words"] ["slots", "value"] (defScope s_is_pair_over) := ⟨rfl, rfl, rfl, by decide +kernel, rfl, by decide +kernel, by decide +kernel⟩
def S_is_pair_over : SpW := S_t fun ws mu => ∃ ss v q, ws = [v, prW q] ∧ (v = slsW ss ∨ ∃ a, v = .m a ∧ mu a = some (.lst (ss.map slW1))) ∧ SsNm ss ∧ PrOk ss q
theorem d_is_pair_over (D : Dfn K mg "is_pair_over" s_is_pair_over ["slots", "value"]) (B : Bl mg) (D_is_tuple : DefOk P w K mg base "is_tuple" ["value", "least", "most"] 1 S_is_tuple) : DefOk P w K mg base "is_pair_over" ["slots", "value"] 2 S_is_pair_over := by
  refine dfnOk D sc_is_pair_over (fun ws mu P ⟨⟨ss, v, q, e, _⟩, _⟩ => by rw [e]; rfl) (fun f cdv A outer s H E hr ws mu Pt ⟨⟨ss, v, q, e, hv, nm, ok⟩, h⟩ => ?_)
  subst e
  have hu65 : (A.deeper (PyProof.Rows.envOfC "is_pair_over" (defScope s_is_pair_over) s.heap.objs.size f cdv)).units + 65 < cLine := by have := hr.un; omega
  refine sss_cons ?_
  refine ss_if ?_
  refine st_not ?_
  refine st_val ?_
  refine se_callD D_is_tuple (hr.mono (by decide)) ?_
  refine sa_cons ?_
  refine se_var (i := 1) rfl ?_  -- value
  refine sa_cons ?_
  refine se_int ?_  -- 2
  refine sa_cons ?_
  refine se_int ?_  -- 2
  refine sa_nil ?_
  refine ⟨_, 2, 2, rfl, fun r mu1 e e1 => ?_⟩
  obtain rfl : r = true := bit (a := 2) (b := 2) e (Nat.le_refl _) (Nat.le_refl _)
  refine sss_nil ?_
  refine sss_cons ?_
  refine ss_asg ?_
  refine se_var (i := 1) rfl ?_  -- value
  refine sg_tup ?_
  refine sgs_cons (sg_name (i := 2) ?_ sc_is_pair_over.nd)
  refine sgs_cons (sg_name (i := 3) ?_ sc_is_pair_over.nd)
  refine sgs_nil ?_
  refine sss_cons ?_
  refine ss_ret ?_
  refine se_any ?_ B.any
  refine se_lc (own := [("name", 4), ("_", 5), ("words", 6)]) (.tp [(.nm 4), (.nm 5), (.nm 6)]) rfl sc_is_pair_over.nd (blkOk_by (N := ["slots", "value", "slot", "word", "name", "_", "words"]) (sc := defScope s_is_pair_over) (by decide +kernel)) rfl (fun _ _ _ _ _ => (pg_tup rfl (pgs_cons (pg_name (i := 4) sc_is_pair_over.nd rfl (Or.inl rfl)) (pgs_cons (pg_name (i := 5) sc_is_pair_over.nd rfl (Or.inl rfl)) (pgs_cons (pg_name (i := 6) sc_is_pair_over.nd rfl (Or.inl rfl)) pgs_nil))))) (by intro _; rfl) ?_  -- [slot == name and word in words for name, _, words in slots]
  refine si_items (i := 0) rfl ?_
  have hit : ∀ Post : List W → (Mu → Prop) → Mu → Prop, (∀ Gm : Mu → Prop, (∀ mu', Ext mu1 mu' → Gm mu') → Post (ss.map slW1) Gm mu1) → itemsW v mu1 Post := fun Post hp => by
    rcases hv with rfl | ⟨a, rfl, ha⟩
    · exact hp _ fun _ _ => trivial
    · exact ⟨_, e1 _ _ ha, hp _ fun mu' e' => e' _ _ (e1 _ _ ha)⟩
  refine hit _ fun Gm hG => ?_
  refine lc_any_g (fun w => match w with | .tup [.str n, _, .tup wd] => decide (q.1 = n) && decide (q.2 ∈ wd.map fun z => match z with | .str x => x | _ => "") | _ => false) hG ?_ InBlk.mono ?_ ?_
  · rw [List.length_map]; exact Nat.le_trans nm.len (by decide)
  · intro w mu' hw he
    obtain ⟨t, ht, rfl⟩ := List.mem_map.mp hw
    have tn := nm.nm t ht
    have qn : NmOk q.1 ∧ NmOk q.2 := by
      obtain ⟨u, hu, e1, e2⟩ := ok
      have := nm.nm u hu
      exact ⟨e1 ▸ this.1, this.2.2.2 _ e2⟩
    have em : (stW t.2.2).map (fun z => match z with | W.str x => x | _ => "") = t.2.2 := by
      unfold stW
      rw [List.map_map]
      exact List.map_id _
    refine ⟨_, rfl, fun s H C cl fp => ?_⟩
    refine se_and ?_
    refine se_cmp (op_eqD hr.units) eq_w (nomark _) ?_  -- slot == name
    refine se_var (i := 2) rfl ?_  -- slot
    refine se_var (i := 4) rfl ?_  -- name
    refine eq_strs qn.1 tn.1 ?_
    dsimp only [slW1, nmW]
    rw [em]
    refine bW_split (fun e5 => ?_) (fun e5 => ?_)
    rotate_left
    · exact ⟨by rw [e5]; rfl, Ext.refl⟩
    rw [e5]
    refine se_one ?_
    refine se_cmp (op_inT hu65) (in_w false) (by rfl) ?_  -- word in words
    refine se_var (i := 3) rfl ?_  -- word
    refine se_var (i := 6) rfl ?_  -- words
    exact in_names qn.2 tn.2.2.2 ⟨by simp, Ext.refl⟩
  · intro mu' he
    have : ((ss.map slW1).any fun w => match w with | .tup [.str n, _, .tup wd] => decide (q.1 = n) && decide (q.2 ∈ wd.map fun z => match z with | .str x => x | _ => "") | _ => false) = true := by
      obtain ⟨u, hu, e1, e2⟩ := ok
      rw [List.any_eq_true]
      refine ⟨slW1 u, List.mem_map.mpr ⟨u, hu, rfl⟩, ?_⟩
      have em : (stW u.2.2).map (fun z => match z with | W.str x => x | _ => "") = u.2.2 := by
        unfold stW
        rw [List.map_map]
        exact List.map_id _
      dsimp only [slW1, nmW]
      rw [em, e1]
      simp [e2]
    rw [this]
    exact h _ (e1.trans he)
end
end K1
set_option Elab.async false
set_option linter.all false
set_option maxRecDepth 100000
namespace K1
open PySem L2 Dv
section
variable {P : Program} {w : World} {K : PySem.W.Frag} {mg : Str → Option Value} {base : Heap}
/-- the slots as a tuple or as a list -/
def Sls (mu : Mu) (v : W) (ss : List Slot) : Prop := v = slsW ss ∨ ∃ a, v = .m a ∧ mu a = some (.lst (ss.map slW1))
theorem Sls.ext {mu mu' : Mu} {v : W} {ss : List Slot} (h : Sls mu v ss) (e : Ext mu mu') : Sls mu' v ss := by
  rcases h with h | ⟨a, h, ha⟩
  · exact .inl h
  · exact .inr ⟨a, h, e _ _ ha⟩
theorem pt_names {ss : List Slot} {p : Pat} (nm : SsNm ss) (ok : ∀ q ∈ p, PrOk ss q) : ∀ q ∈ p, NmOk q.1 ∧ NmOk q.2 := fun q hq => by
  obtain ⟨u, hu, e1, e2⟩ := ok q hq
  have := nm.nm u hu
  exact ⟨e1 ▸ this.1, this.2.2.2 _ e2⟩
theorem lay_pt {p : Pat} (h : ∀ q ∈ p, NmOk q.1 ∧ NmOk q.2) : (dat (ptW p)).canLay0 = true := by
  unfold ptW
  simp only [dat, PyData.canLay0]
  rw [dats_map]
  refine lay_all _ fun q hq => ?_
  have h1 := nm_ok (h q hq).1
  have h2 := nm_ok (h q hq).2
  simp [prW, dat, dats, PyData.canLay0, PyData.canLayAll0] at h1 h2 ⊢
  exact ⟨h1, h2⟩
theorem atI_nat' {α : Type} {xs : List α} {i : Nat} {x : α} (h : xs[i]? = some x) : atI xs (i : Int) = some x := by
  have hl : i < xs.length := (List.getElem?_eq_some_iff.mp h).1
  unfold atI ixN
  rw [if_pos (by omega), if_pos (by omega)]
  exact h
theorem lt10 {n : Nat} (h : n ≤ 10) : n ≤ sizeLine := Nat.le_trans h (by decide)

abbrev s_is_pattern_over : Stmt := top 23
theorem sc_is_pattern_over : FnScope ["slots", "value", "pair", "slot", "_"] ["slots", "value"] (defScope s_is_pattern_over) := ⟨rfl, rfl, rfl, by decide +kernel, rfl, by decide +kernel, by decide +kernel⟩
def S_is_pattern_over : SpW := S_t fun ws mu => ∃ ss v p, ws = [v, ptW p] ∧ Sls mu v ss ∧ SsNm ss ∧ PtOk ss p
theorem d_is_pattern_over (D : Dfn K mg "is_pattern_over" s_is_pattern_over ["slots", "value"]) (B : Bl mg) (D_is_pair_over : DefOk P w K mg base "is_pair_over" ["slots", "value"] 2 S_is_pair_over) (D_is_rising : DefOk P w K mg base "is_rising" ["values"] 1 S_is_rising) : DefOk P w K mg base "is_pattern_over" ["slots", "value"] 3 S_is_pattern_over := by
  refine dfnOk D sc_is_pattern_over (fun ws mu P ⟨⟨ss, v, p, e, _⟩, _⟩ => by rw [e]; rfl) (fun f cdv A outer s H E hr ws mu Pt ⟨⟨ss, v, p, e, hv, nm, ok⟩, h⟩ => ?_)
  subst e
  have hu65 : (A.deeper (PyProof.Rows.envOfC "is_pattern_over" (defScope s_is_pattern_over) s.heap.objs.size f cdv)).units + 65 < cLine := by have := hr.un; omega
  refine sss_cons ?_
  refine ss_if ?_
  refine st_of_w ?_
  refine sw_or ?_
  refine st_not ?_
  refine st_val ?_
  refine se_isi (T := "tuple") ?_ B.isinstance B.tuple
  refine se_var (i := 1) rfl ?_  -- value
  refine ⟨"tuple", true, rfl, by decide +kernel, ?_⟩
  refine sw_or1 ?_
  refine st_not ?_
  refine st_val ?_
  refine se_all ?_ B.all
  refine se_lc (own := [("pair", 2)]) (.nm 2) rfl sc_is_pattern_over.nd (blkOk_by (N := ["slots", "value", "pair", "slot", "_"]) (sc := defScope s_is_pattern_over) (by decide +kernel)) rfl (fun _ _ _ _ _ => (pg_name (i := 2) sc_is_pattern_over.nd rfl (Or.inl rfl))) (by intro _; rfl) ?_  -- [is_pair_over(slots, pair) for pair in value]
  refine si_tup ?_
  refine se_var (i := 1) rfl ?_  -- value
  refine lc_all_t (fun _ _ => trivial) (by rw [List.length_map]; exact lt10 (Nat.le_trans ok.len (by decide))) InBlk.mono ?_ ?_
  · intro w mu' hw he
    obtain ⟨q, hq, rfl⟩ := List.mem_map.mp hw
    refine ⟨_, rfl, fun s H C cl fp => ?_⟩
    refine se_callD D_is_pair_over (hr.mono (by decide)) ?_
    refine sa_cons ?_
    refine se_var (i := 0) rfl ?_  -- slots
    refine sa_cons ?_
    refine se_var (i := 2) rfl ?_  -- pair
    refine sa_nil ?_
    exact ⟨⟨ss, v, q, rfl, hv.ext he, nm, ok.pr q hq⟩, fun mu4 e4 => ⟨rfl, e4⟩⟩
  intro mu1 e1
  refine sss_nil ?_
  refine sss_cons ?_
  refine ss_ret ?_
  refine se_callD D_is_rising (hr.mono (by decide)) ?_
  refine sa_cons ?_
  refine se_lc (own := [("slot", 3), ("_", 4)]) (.tp [(.nm 3), (.nm 4)]) rfl sc_is_pattern_over.nd (blkOk_by (N := ["slots", "value", "pair", "slot", "_"]) (sc := defScope s_is_pattern_over) (by decide +kernel)) rfl (fun _ _ _ _ _ => (pg_tup rfl (pgs_cons (pg_name (i := 3) sc_is_pattern_over.nd rfl (Or.inl rfl)) (pgs_cons (pg_name (i := 4) sc_is_pattern_over.nd rfl (Or.inl rfl)) pgs_nil)))) (by intro _; rfl) ?_  -- [slot for slot, _ in value]
  refine si_tup ?_
  refine se_var (i := 1) rfl ?_  -- value
  refine lc_pure (fun w => match w with | .tup [x, _] => x | _ => .non) (fun _ _ => trivial) (by rw [List.length_map]; exact lt10 (Nat.le_trans ok.len (by decide))) ?_ InBlk.mono ?_
  · intro w mu' hw he
    obtain ⟨q, hq, rfl⟩ := List.mem_map.mp hw
    refine ⟨_, rfl, fun s H C cl fp => ?_⟩
    refine se_var (i := 3) rfl ?_  -- slot
    exact ⟨rfl, Ext.refl⟩
  have em : (p.map prW).map (fun w => match w with | W.tup [x, _] => x | _ => W.non) = stW (p.map (·.1)) := by
    unfold stW
    rw [List.map_map, List.map_map]
    rfl
  rw [em]
  intro D mu' hD he he2
  refine sa_nil ?_
  refine ⟨stW (p.map (·.1)), _, rfl, .inr ⟨D, rfl, setM_same⟩, okUs_st (by rw [List.length_map]; exact lt10 (Nat.le_trans ok.len (by decide))), fun r mu2 e2 e3 => ?_⟩
  rw [e2, ok.up]
  exact h _ ((e1.trans he2).trans e3)

abbrev s_are_full_patterns : Stmt := top 25
theorem sc_are_full_patterns : FnScope ["slots", "value", "pattern"] ["slots", "value"] (defScope s_are_full_patterns) := ⟨rfl, rfl, rfl, by decide +kernel, rfl, by decide +kernel, by decide +kernel⟩
def S_are_full : SpW := S_t fun ws mu => ∃ ss ps, ws = [slsW ss, ptsW ps] ∧ SsNm ss ∧ (∀ p ∈ ps, PtOk ss p ∧ p ≠ []) ∧ rising (ps.map ptW) = true ∧ ps.length ≤ 10
theorem d_are_full_patterns (D : Dfn K mg "are_full_patterns" s_are_full_patterns ["slots", "value"]) (B : Bl mg) (D_is_pattern_over : DefOk P w K mg base "is_pattern_over" ["slots", "value"] 3 S_is_pattern_over) (D_is_rising : DefOk P w K mg base "is_rising" ["values"] 1 S_is_rising) : DefOk P w K mg base "are_full_patterns" ["slots", "value"] 4 S_are_full := by
  refine dfnOk D sc_are_full_patterns (fun ws mu P ⟨⟨ss, ps, e, _⟩, _⟩ => by rw [e]; rfl) (fun f cdv A outer s H E hr ws mu Pt ⟨⟨ss, ps, e, nm, ok, up, len⟩, h⟩ => ?_)
  subst e
  have hu65 : (A.deeper (PyProof.Rows.envOfC "are_full_patterns" (defScope s_are_full_patterns) s.heap.objs.size f cdv)).units + 65 < cLine := by have := hr.un; omega
  refine sss_cons ?_
  refine ss_if ?_
  refine st_of_w ?_
  refine sw_or ?_
  refine st_not ?_
  refine st_val ?_
  refine se_isi (T := "tuple") ?_ B.isinstance B.tuple
  refine se_var (i := 1) rfl ?_  -- value
  refine ⟨"tuple", true, rfl, by decide +kernel, ?_⟩
  refine sw_or1 ?_
  refine st_not ?_
  refine st_val ?_
  refine se_all ?_ B.all
  refine se_lc (own := [("pattern", 2)]) (.nm 2) rfl sc_are_full_patterns.nd (blkOk_by (N := ["slots", "value", "pattern"]) (sc := defScope s_are_full_patterns) (by decide +kernel)) rfl (fun _ _ _ _ _ => (pg_name (i := 2) sc_are_full_patterns.nd rfl (Or.inl rfl))) (by intro _; rfl) ?_  -- [is_pattern_over(slots, pattern) for pattern in value]
  refine si_tup ?_
  refine se_var (i := 1) rfl ?_  -- value
  refine lc_all_t (fun _ _ => trivial) (by rw [List.length_map]; exact lt10 len) InBlk.mono ?_ ?_
  · intro w mu' hw he
    obtain ⟨p, hp, rfl⟩ := List.mem_map.mp hw
    refine ⟨_, rfl, fun s H C cl fp => ?_⟩
    refine se_callD D_is_pattern_over (hr.mono (by decide)) ?_
    refine sa_cons ?_
    refine se_var (i := 0) rfl ?_  -- slots
    refine sa_cons ?_
    refine se_var (i := 2) rfl ?_  -- pattern
    refine sa_nil ?_
    exact ⟨⟨ss, _, p, rfl, .inl rfl, nm, (ok p hp).1⟩, fun mu4 e4 => ⟨rfl, e4⟩⟩
  intro mu1 e1
  refine sss_nil ?_
  refine sss_cons ?_
  refine ss_ret ?_
  refine se_and ?_
  refine se_callD D_is_rising (hr.mono (by decide)) ?_
  refine sa_cons ?_
  refine se_var (i := 1) rfl ?_  -- value
  refine sa_nil ?_
  refine ⟨ps.map ptW, _, rfl, .inl rfl, okUs_pt (lt10 len), fun r mu2 e2 e3 => ?_⟩
  rw [e2, up]
  refine se_one ?_
  refine se_cmp (op_notInT hu65) (in_w true) (by rfl) ?_  -- () not in value
  refine se_tup ?_
  refine sa_nil ?_
  refine ⟨by decide, ?_⟩
  refine se_var (i := 1) rfl ?_  -- value
  refine ⟨by simp [plW, plsW], by decide, dats (ps.map ptW), ?_, ?_, ?_⟩
  · show (if plsW (ps.map ptW) = true then some (dats (ps.map ptW)) else none) = _
    rw [if_pos (plains_map _ plain_pt ps)]
  · rw [dats_map]
    exact lay_all _ fun p hp => lay_pt (pt_names nm (ok p hp).1.pr)
  · have : ((dats (ps.map ptW)).any fun z => PyData.eqv z (dat (W.tup []))) = false := by
      rw [dats_map, List.any_eq_false]
      intro z hz
      obtain ⟨p, hp, rfl⟩ := List.mem_map.mp hz
      cases p with
      | nil => exact absurd rfl (ok [] hp).2
      | cons q r => simp [ptW, dat, dats, PyData.eqv, PyData.eqvAll]
    rw [this]
    exact h _ (e1.trans e3)

abbrev s_is_pattern_at : Stmt := top 26
theorem sc_is_pattern_at : FnScope ["slots", "house", "value", "slot"] ["slots", "house", "value"] (defScope s_is_pattern_at) := ⟨rfl, rfl, rfl, by decide +kernel, rfl, by decide +kernel, by decide +kernel⟩
def atHome (h : Str) (s : Slot) : Bool := decide (s.2.1 = h)
def S_is_pattern_at : SpW := S_t fun ws mu => ∃ ss ho p, ws = [slsW ss, .str ho, ptW p] ∧ SsNm ss ∧ NmOk ho ∧ PtOk (ss.filter (atHome ho)) p
theorem d_is_pattern_at (D : Dfn K mg "is_pattern_at" s_is_pattern_at ["slots", "house", "value"]) (B : Bl mg) (D_is_pattern_over : DefOk P w K mg base "is_pattern_over" ["slots", "value"] 3 S_is_pattern_over) : DefOk P w K mg base "is_pattern_at" ["slots", "house", "value"] 4 S_is_pattern_at := by
  refine dfnOk D sc_is_pattern_at (fun ws mu P ⟨⟨ss, ho, p, e, _⟩, _⟩ => by rw [e]; rfl) (fun f cdv A outer s H E hr ws mu Pt ⟨⟨ss, ho, p, e, nm, hn, ok⟩, h⟩ => ?_)
  subst e
  have hu65 : (A.deeper (PyProof.Rows.envOfC "is_pattern_at" (defScope s_is_pattern_at) s.heap.objs.size f cdv)).units + 65 < cLine := by have := hr.un; omega
  refine sss_cons ?_
  refine ss_ret ?_
  refine se_callD D_is_pattern_over (hr.mono (by decide)) ?_
  refine sa_cons ?_
  refine se_lc1 (own := [("slot", 3)]) (.nm 3) rfl sc_is_pattern_at.nd (blkOk_by (N := ["slots", "house", "value", "slot"]) (sc := defScope s_is_pattern_at) (by decide +kernel)) rfl (fun _ _ _ _ _ => (pg_name (i := 3) sc_is_pattern_at.nd rfl (Or.inl rfl))) (by intro _; rfl) ?_  -- [slot for slot in slots if slot[1] == house]
  refine si_tup ?_
  refine se_var (i := 0) rfl ?_  -- slots
  refine lc_filter (fun w => match w with | .tup [_, .str x, _] => decide (x = ho) | _ => false) (fun w => w) (fun _ _ => trivial) (by rw [List.length_map]; exact lt10 (Nat.le_trans nm.len (by decide))) ?_ InBlk.mono ?_
  · intro w mu' hw he
    obtain ⟨t, ht, rfl⟩ := List.mem_map.mp hw
    refine ⟨_, rfl, fun s H C cl fp => ?_⟩
    refine st_cmp (op_eqD hr.units) eq_w (nomark _) ?_  -- slot[1] == house
    refine se_ix ?_  -- slot[1]
    refine se_var (i := 3) rfl ?_  -- slot
    refine se_int ?_  -- 1
    refine ⟨_, rfl, ?_⟩
    refine se_var (i := 1) rfl ?_  -- house
    refine eq_strs (nm.nm t ht).2.1 hn ?_
    refine ⟨rfl, Ext.refl, fun _ s H C cl fp => ?_⟩
    refine se_var (i := 3) rfl ?_  -- slot
    exact ⟨rfl, Ext.refl⟩
  have em : ((ss.map slW1).filter fun w => match w with | .tup [_, .str x, _] => decide (x = ho) | _ => false).map (fun w => w) = (ss.filter (atHome ho)).map slW1 := by
    rw [List.map_id', List.filter_map]
    rfl
  rw [em]
  intro D mu' hD he he2
  refine sa_cons ?_
  refine se_var (i := 2) rfl ?_  -- value
  refine sa_nil ?_
  exact ⟨⟨_, _, p, rfl, .inr ⟨D, rfl, setM_same⟩, nm.filter _, ok⟩, fun mu4 e4 => h _ (he2.trans e4)⟩

abbrev s_is_lapse : Stmt := top 27
theorem sc_is_lapse : FnScope ["slots", "value", "house", "needs", "makes"] ["slots", "value"] (defScope s_is_lapse) := ⟨rfl, rfl, rfl, by decide +kernel, rfl, by decide +kernel, by decide +kernel⟩
structure LpOk (ss : List Slot) (l : Lap) : Prop where
  ho : NmOk l.1
  needs : PtOk (ss.filter (atHome l.1)) l.2.1
  makes : PtOk (ss.filter (atHome l.1)) l.2.2
  some_ : l.2.2 ≠ []
def S_is_lapse : SpW := S_t fun ws mu => ∃ ss l, ws = [slsW ss, lpW l] ∧ SsNm ss ∧ LpOk ss l
theorem d_is_lapse (D : Dfn K mg "is_lapse" s_is_lapse ["slots", "value"]) (B : Bl mg) (D_is_tuple : DefOk P w K mg base "is_tuple" ["value", "least", "most"] 1 S_is_tuple) (D_is_pattern_at : DefOk P w K mg base "is_pattern_at" ["slots", "house", "value"] 4 S_is_pattern_at) : DefOk P w K mg base "is_lapse" ["slots", "value"] 5 S_is_lapse := by
  refine dfnOk D sc_is_lapse (fun ws mu P ⟨⟨ss, l, e, _⟩, _⟩ => by rw [e]; rfl) (fun f cdv A outer s H E hr ws mu Pt ⟨⟨ss, l, e, nm, ok⟩, h⟩ => ?_)
  subst e
  have hu65 : (A.deeper (PyProof.Rows.envOfC "is_lapse" (defScope s_is_lapse) s.heap.objs.size f cdv)).units + 65 < cLine := by have := hr.un; omega
  refine sss_cons ?_
  refine ss_if ?_
  refine st_not ?_
  refine st_val ?_
  refine se_callD D_is_tuple (hr.mono (by decide)) ?_
  refine sa_cons ?_
  refine se_var (i := 1) rfl ?_  -- value
  refine sa_cons ?_
  refine se_int ?_  -- 3
  refine sa_cons ?_
  refine se_int ?_  -- 3
  refine sa_nil ?_
  refine ⟨_, 3, 3, rfl, fun r mu1 e e1 => ?_⟩
  obtain rfl : r = true := bit (a := 3) (b := 3) e (Nat.le_refl _) (Nat.le_refl _)
  refine sss_nil ?_
  refine sss_cons ?_
  refine ss_asg ?_
  refine se_var (i := 1) rfl ?_  -- value
  refine sg_tup ?_
  refine sgs_cons (sg_name (i := 2) ?_ sc_is_lapse.nd)
  refine sgs_cons (sg_name (i := 3) ?_ sc_is_lapse.nd)
  refine sgs_cons (sg_name (i := 4) ?_ sc_is_lapse.nd)
  refine sgs_nil ?_
  refine sss_cons ?_
  refine ss_ret ?_
  refine se_and ?_
  refine se_callD D_is_pattern_at (hr.mono (by decide)) ?_
  refine sa_cons ?_
  refine se_var (i := 0) rfl ?_  -- slots
  refine sa_cons ?_
  refine se_var (i := 2) rfl ?_  -- house
  refine sa_cons ?_
  refine se_var (i := 3) rfl ?_  -- needs
  refine sa_nil ?_
  refine ⟨⟨ss, l.1, l.2.1, rfl, nm, ok.ho, ok.needs⟩, fun mu2 e2 => ?_⟩
  refine bW_t rfl ?_
  refine se_and ?_
  refine se_callD D_is_pattern_at (hr.mono (by decide)) ?_
  refine sa_cons ?_
  refine se_var (i := 0) rfl ?_  -- slots
  refine sa_cons ?_
  refine se_var (i := 2) rfl ?_  -- house
  refine sa_cons ?_
  refine se_var (i := 4) rfl ?_  -- makes
  refine sa_nil ?_
  refine ⟨⟨ss, l.1, l.2.2, rfl, nm, ok.ho, ok.makes⟩, fun mu3 e3 => ?_⟩
  refine bW_t rfl ?_
  refine se_one ?_
  refine se_cmp (op_neD hr.units) ne_w (nomark _) ?_  -- makes != ()
  refine se_var (i := 4) rfl ?_  -- makes
  refine se_tup ?_
  refine sa_nil ?_
  refine ⟨by decide, ?_⟩
  have nms := pt_names (nm.filter _) ok.makes.pr
  have sh : SeqAt.shaped (dat (ptW l.2.2)) = true := by
    unfold SeqAt.shaped
    rw [lay_pt nms, decide_eq_true (Nat.le_trans (depth_pt _) (by decide))]
    rfl
  refine ⟨dat (ptW l.2.2), dat (.tup []), ?_, ?_, sh, by decide, ?_⟩
  · show (if plW (ptW l.2.2) = true then some (dat (ptW l.2.2)) else none) = _
    rw [if_pos (plain_pt _)]
  · rfl
  · have : PyData.eqv (dat (ptW l.2.2)) (dat (W.tup [])) = false := by
      obtain ⟨a, b, mk⟩ := l
      cases mk with
      | nil => exact absurd rfl ok.some_
      | cons q r => simp [ptW, dat, dats, PyData.eqv, PyData.eqvAll]
    rw [this]
    exact h _ (((e1.trans e2).trans e3))

abbrev s_first_stand : Stmt := top 21
theorem sc_first_stand : FnScope ["slots", "_", "words"] ["slots"] (defScope s_first_stand) := ⟨rfl, rfl, rfl, by decide +kernel, rfl, by decide +kernel, by decide +kernel⟩
def firstS (ss : List Slot) : List Str := ss.map fun s => s.2.2.headD ""
def S_first : SpW := fun ws mu P => ∃ ss, ws = [slsW ss] ∧ ss.length ≤ 10 ∧ (∀ s ∈ ss, s.2.2 ≠ []) ∧ ∀ mu', Ext mu mu' → P (nmW (firstS ss)) mu'

theorem d_first_stand (D : Dfn K mg "first_stand" s_first_stand ["slots"]) (B : Bl mg) : DefOk P w K mg base "first_stand" ["slots"] 1 S_first := by
  refine dfnOk D sc_first_stand (fun ws mu P ⟨ss, e, _⟩ => by rw [e]; rfl) (fun f cdv A outer s H E hr ws mu Pt ⟨ss, e, len, ne, h⟩ => ?_)
  subst e
  have hu65 : (A.deeper (PyProof.Rows.envOfC "first_stand" (defScope s_first_stand) s.heap.objs.size f cdv)).units + 65 < cLine := by have := hr.un; omega
  refine sss_cons ?_
  refine ss_ret ?_
  refine se_tupleC ?_ B.tuple
  refine se_lc (own := [("_", 1), ("words", 2)]) (.tp [(.nm 1), (.nm 1), (.nm 2)]) rfl sc_first_stand.nd (blkOk_by (N := ["slots", "_", "words"]) (sc := defScope s_first_stand) (by decide +kernel)) rfl (fun _ _ _ _ _ => (pg_tup rfl (pgs_cons (pg_name (i := 1) sc_first_stand.nd rfl (Or.inl rfl)) (pgs_cons (pg_name (i := 1) sc_first_stand.nd rfl (Or.inl rfl)) (pgs_cons (pg_name (i := 2) sc_first_stand.nd rfl (Or.inl rfl)) pgs_nil))))) (by intro _; rfl) ?_  -- [words[0] for _, _, words in slots]
  refine si_tup ?_
  refine se_var (i := 0) rfl ?_  -- slots
  refine lc_pure (fun w => match w with | .tup [_, _, .tup (x :: _)] => x | _ => .str "") (fun _ _ => trivial) (by rw [List.length_map]; exact lt10 len) ?_ InBlk.mono ?_
  · intro w mu' hw he
    obtain ⟨t, ht, rfl⟩ := List.mem_map.mp hw
    refine ⟨_, rfl, fun s H C cl fp => ?_⟩
    refine se_ix ?_  -- words[0]
    refine se_var (i := 2) rfl ?_  -- words
    refine se_int ?_  -- 0
    obtain ⟨n, ho, wd⟩ := t
    cases wd with
    | nil => exact absurd rfl (ne _ ht)
    | cons x r => exact ⟨.str x, atI_nat' (i := 0) rfl, rfl, Ext.refl⟩
  have em : (ss.map slW1).map (fun w => match w with | .tup [_, _, .tup (x :: _)] => x | _ => W.str "") = stW (firstS ss) := by
    unfold stW firstS
    rw [List.map_map, List.map_map]
    refine List.map_congr_left fun t ht => ?_
    obtain ⟨n, ho, wd⟩ := t
    cases wd with
    | nil => rfl
    | cons x r => rfl
  rw [em]
  intro D mu' hD he he2
  exact ⟨_, setM_same, h _ he2⟩
end
end K1
set_option Elab.async false
set_option linter.all false
set_option maxRecDepth 100000
/-! Dict comprehensions; sorted of data; stars; comprehensions of two fors. -/
namespace Dv
open PySem L2
section
variable {X : Cx} {e a b c : Expr} {es : List Expr} {st : Stmt} {sts : List Stmt} {G : Gs} {mu mu' : Mu} {pos p apos cpos : Pos} {P : PW1}
abbrev dcPost (B : (Cx → Prop) → Prop) (T : Tg) (kx vx : Expr) (vs : List Nat) (G : Gs) (P : PW1) : List W → (Mu → Prop) → Mu → Prop := fun ws Gm mu1 => ∀ D, mu1 D = none → ∃ I : Nat → List (Key × W) → Mu → Prop, I 0 [] mu1 ∧ (∀ i acc mu', i ≤ ws.length → I i acc mu' → Gm mu') ∧
  (∀ i w acc mu', ws[i]? = some w → I i acc mu' → acc.length < sizeLine ∧ (acc.map (·.1)).Nodup ∧ ∃ G2, T.bind w (wipeG G vs) = some G2 ∧ B fun Y => SE Y kx G2 mu' fun kw mu3 => ∃ k, keyOf kw = some k ∧ B fun Z => SE Z vx G2 mu3 fun r mu4 => I (i + 1) (putW acc k r) mu4) ∧
  ∀ acc mu', I ws.length acc mu' → P (.m D) (setM mu' D (.dic acc))
theorem dc_rd {scope : Scope} {own : List (Str × Nat)} {tg iter kx vx : Expr} (T : Tg) {P : PW1} {σ : St} {H : Hp} {Q : VK} (ha : T.all (fun i => decide (i ∈ own.map (·.2))) = true) (d : DenG X.K H G σ) (m : HM X.K H mu) (k : Kont X.K mu H P Q)
    (h : SI X tg iter G mu (dcPost (InBlk X scope) T kx vx (own.map (·.2)) G P)) :
    tDc (tI X tg iter) (gT X.K T) tYes (fun σ2 H2 Q2 => ∀ (s : Shared) (H : Hp) (C : Addr) (cl : List (Str × Addr)) (fp : List Addr), tE (X.blk s H scope (compEnvC scope cl C X.env) fp) kx σ2 H2 Q2)
      (fun σ2 H2 Q2 => ∀ (s : Shared) (H : Hp) (C : Addr) (cl : List (Str × Addr)) (fp : List Addr), tE (X.blk s H scope (compEnvC scope cl C X.env) fp) vx σ2 H2 Q2) (own.map (·.2)) σ H Q := by
  refine h σ H _ d m fun J ws Gm mu1 H1 hI c1 m1 ⟨Gh, Y, wk, hg, hy⟩ D hD => ?_
  obtain ⟨I, i0, ig, it, ie⟩ := hI D (m1.dom hD)
  obtain ⟨c0, m0⟩ := laid (o := .dK []) m1 hD
  refine ⟨fun i n H' => n = ws.length - i ∧ i ≤ ws.length ∧ ∃ acc mu' xs, I i acc mu' ∧ H' D = some (.dK xs) ∧ DKV X.K H' acc xs ∧ mu' D = none ∧ HM X.K H' mu' ∧ Chg mu1 H1 mu' H',
    ⟨ws.length, by simp, Nat.zero_le _, [], mu1, [], i0, upd_same, ⟨rfl, rfl⟩, m1.dom hD, m0, c0⟩, ?_⟩
  rintro i n H' ⟨rfl, hi, acc, mu', xs, q, hx, dx, nD, m2, c2⟩
  have gh := hg mu' H' c2 m2 (ig i acc mu' hi q)
  by_cases hlt : i < ws.length
  · refine .inr ⟨wk.goes i H' hlt gh, fun H' => ∃ acc mu' xs, I (i + 1) acc mu' ∧ H' D = some (.dK xs) ∧ DKV X.K H' acc xs ∧ mu' D = none ∧ HM X.K H' mu' ∧ Chg mu1 H1 mu' H', fun H'' hN => ⟨ws.length - (i + 1), by omega, rfl, hlt, hN⟩, fun x H'' y => ?_⟩
    obtain ⟨w, hw, c3, m3, d3⟩ := hy i H' x H'' mu' hlt c2 m2 (ig i acc mu' hi q) (wk.yields i H' x H'' hlt gh y)
    obtain ⟨hl, hn, G2, hb, he⟩ := it i w acc mu' hw q
    have dw : DenG X.K H'' (wipeG G (own.map (·.2))) (wipe σ (own.map (·.2))) := c3.denG m2 (c2.denG m1 (c1.denG m (wipeG_den d _)))
    refine gT_run T hb ha dw d3 fun σ2 d2 e2 => ⟨e2.trans wipe_wipe, ?_⟩
    simp only [tYes, if_true]
    intro s Hs C cl fp
    refine he s Hs C cl fp σ2 H'' _ d2 m3 fun kv kw mu4 H4 h4 c4 d4 m4 s' Hs' C' cl' fp' => ?_
    obtain ⟨kk, hk, hv⟩ := h4
    refine hv s' Hs' C' cl' fp' σ2 H4 _ (c4.denG m3 d2) m4 fun v r mu5 H5 h5 c5 d5 m5 => ?_
    have hx5 := c5.keep _ _ (c4.keep _ _ (c3.keep _ _ hx nD) nD) (c4.new _ _ (c3.keep _ _ hx nD) nD)
    have nD5 := c5.new _ _ (c4.keep _ _ (c3.keep _ _ hx nD) nD) (c4.new _ _ (c3.keep _ _ hx nD) nD)
    have dx5 : DKV X.K H5 acc xs := ⟨dx.1, c5.denAll m4 (c4.denAll m3 (c3.denAll m2 dx.2))⟩
    have sq : ∀ a ys, SqT X.K H5 a ys → SqT X.K (upd H5 D (.dK (putK xs kk v))) a ys := fun a ys s => by
      rcases s with (s | ⟨o, s⟩) | s
      · exact .inl (.inl (by rw [upd_ne (ne_of s hx5 (by intro z; cases z))]; exact s))
      · exact .inl (.inr ⟨o, by rw [upd_ne (ne_of s hx5 (by intro z; cases z))]; exact s⟩)
      · exact .inr s
    have cc := ((c2.trans c3).trans c4).trans c5
    refine ⟨xs, kk, keyOf_den hk d4, hx5, ?_, putW acc kk r, mu5, putK xs kk v, h5, upd_same, ?_, nD5, fun a cc ha => CellOk.mono sq (m5 a cc ha) (upd_ne fun z => by subst z; rw [nD5] at ha; cases ha), ⟨fun b o e n => by rw [upd_ne (ne_of_none e hD)]; exact cc.keep b o e n, cc.old, cc.new⟩⟩
    · have := congrArg List.length dx.1
      simp only [List.length_map] at this
      omega
    · have := dx5.put hn d5 (k := kk)
      exact ⟨this.1, DenAll.mono sq _ this.2⟩
  · have ei : i = ws.length := by omega
    subst ei
    refine .inl ⟨wk.stops H' gh, k (.ref D) (.m D) (setM mu' D (.dic acc)) H' (ie acc mu' q) (c1.trans ⟨c2.keep, fun b cc e => ?_, fun b o e n => ?_⟩) rfl fun a cc ha => ?_⟩
    · by_cases z : b = D
      · subst z; exact ⟨_, setM_same⟩
      · rw [setM_ne z]; exact c2.old b cc e
    · rw [setM_ne (ne_of_none e hD)]
      exact c2.new b o e n
    · by_cases z : a = D
      · subst z
        rw [setM_same] at ha
        cases ha
        exact ⟨xs, hx, dx.1, dx.2⟩
      · rw [setM_ne z] at ha
        exact m2 a cc ha
theorem se_dc {scope : Scope} {own : List (Str × Nat)} {tg iter kx vx : Expr} (T : Tg) (hc : X.calm = true) (hN : X.N.Nodup) (ok : BlkOk X.N X.env.scope scope own) (ha : T.all (fun i => decide (i ∈ own.map (·.2))) = true)
    (hg : ∀ (s : Shared) (H : Hp) (C : Addr) (cl : List (Str × Addr)) (fp : List Addr), PG (X.blk s H scope (compEnvC scope cl C X.env) fp) tg (gT X.K T)) (hs : ∀ x, foldedSetIterable iter X.env x = pure x)
    (h : SI X tg iter G mu (dcPost (InBlk X scope) T kx vx (own.map (·.2)) G P)) : SE X (.DictComp kx vx [⟨tg, iter, [], 0⟩] scope pos) G mu P :=
  SE.mk (pe_dc hc hN piI ok hg (fun _ _ _ _ _ => pts_nil) (fun s H C cl fp => ⟨fun pins s' σ H' Q I h => h s H C cl fp pins s' I⟩) (fun s H C cl fp => ⟨fun pins s' σ H' Q I h => h s H C cl fp pins s' I⟩) hs) fun σ H Q d m k => dc_rd T ha d m k h
/-! two fors, the elements leave the cells as they are -/
def Ext' (mu mu' : Mu) : Prop := ∀ a c, mu a = some c → mu' a = some c
theorem lc2_rd {scope : Scope} {own : List (Str × Nat)} {vs1 : List Nat} {tg iter tg1 iter1 elt : Expr} (T T1 : Tg) {P : PW1} {σ : St} {H : Hp} {Q : VK} (ha : T.all (fun i => decide (i ∈ own.map (·.2))) = true) (ha1 : T1.all (fun i => decide (i ∈ vs1)) = true) (d : DenG X.K H G σ) (m : HM X.K H mu) (k : Kont X.K mu H P Q)
    (h : SI X tg iter G mu fun ws Gm mu1 => (∀ mu', Ext mu1 mu' → Gm mu') ∧ ∃ (us : W → List W) (g : W → W → W), (ws.flatMap fun w => (us w).map (g w)).length ≤ sizeLine ∧
      (∀ w ∈ ws, ∃ G2, T.bind w (wipeG G (own.map (·.2))) = some G2 ∧ ∀ mu', Ext mu1 mu' → InBlk X scope fun Y => SI Y tg1 iter1 G2 mu' fun us' Gm' mu2 => us' = us w ∧ mu2 = mu' ∧ (∀ mu'', Ext mu1 mu'' → Gm' mu'') ∧ ∀ u ∈ us w, ∃ G3, T1.bind u (wipeG G2 vs1) = some G3 ∧ ∀ mu'', Ext mu1 mu'' → InBlk X scope fun Z => SE Z elt G3 mu'' fun r mu4 => r = g w u ∧ mu4 = mu'') ∧
      ∀ D, mu1 D = none → P (.m D) (setM mu1 D (.lst (ws.flatMap fun w => (us w).map (g w))))) :
    tLc2 (tI X tg iter) (gT X.K T) tYes (fun σ2 H2 R2 => ∀ (s : Shared) (H : Hp) (C : Addr) (cl : List (Str × Addr)) (fp : List Addr), tI (X.blk s H scope (compEnvC scope cl C X.env) fp) tg1 iter1 σ2 H2 R2) (gT X.K T1) tYes
      (fun σ2 H2 Q2 => ∀ (s : Shared) (H : Hp) (C : Addr) (cl : List (Str × Addr)) (fp : List Addr), tE (X.blk s H scope (compEnvC scope cl C X.env) fp) elt σ2 H2 Q2) (own.map (·.2)) vs1 σ H Q := by
  refine h σ H _ d m fun J ws Gm mu1 H1 ⟨hGm, us, g, hl, it, ie⟩ c1 m1 ⟨Gh, Y, wk, hg, hy⟩ D hD => ?_
  have nD := m1.dom hD
  have ex : ∀ c, Ext mu1 (setM mu1 D c) := fun c => Ext.refl.set nD
  obtain ⟨c0, m0⟩ := laidC (o := .lst []) (c := .lst []) m1 hD (newLst (ws := []) rfl)
  refine ⟨fun i n H' => n = ws.length - i ∧ i ≤ ws.length ∧ HM X.K H' (setM mu1 D (.lst ((ws.take i).flatMap fun w => (us w).map (g w)))) ∧ Chg mu1 H1 (setM mu1 D (.lst ((ws.take i).flatMap fun w => (us w).map (g w)))) H', ⟨ws.length, by simp, Nat.zero_le _, m0, c0⟩, ?_⟩
  rintro i n H' ⟨rfl, hi, m2, c2⟩
  have gh := hg _ H' c2 m2 (hGm _ (ex _))
  by_cases hlt : i < ws.length
  · refine .inr ⟨wk.goes i H' hlt gh, fun H' => HM X.K H' (setM mu1 D (.lst ((ws.take (i + 1)).flatMap fun w => (us w).map (g w)))) ∧ Chg mu1 H1 (setM mu1 D (.lst ((ws.take (i + 1)).flatMap fun w => (us w).map (g w)))) H', fun H'' hN => ⟨ws.length - (i + 1), by omega, rfl, hlt, hN⟩, fun x H'' y => ?_⟩
    obtain ⟨w, hw, c3, m3, d3⟩ := hy i H' x H'' _ hlt c2 m2 (hGm _ (ex _)) (wk.yields i H' x H'' hlt gh y)
    obtain ⟨G2, hb, hin⟩ := it w (List.mem_of_getElem? hw)
    have dw : DenG X.K H'' (wipeG G (own.map (·.2))) (wipe σ (own.map (·.2))) := c3.denG m2 (c2.denG m1 (c1.denG m (wipeG_den d _)))
    have tk : (ws.take (i + 1)).flatMap (fun w => (us w).map (g w)) = ((ws.take i).flatMap fun w => (us w).map (g w)) ++ (us w).map (g w) := by
      rw [List.take_add_one, hw, List.flatMap_append]
      simp
    rw [tk]
    have lenle : ∀ j, j < (us w).length → (((ws.take i).flatMap fun w => (us w).map (g w)) ++ ((us w).take j).map (g w)).length < sizeLine := fun j hj => by
      have q1 : ws = ws.take i ++ w :: ws.drop (i + 1) := by
        have := List.take_append_drop i ws
        rw [List.drop_eq_getElem_cons hlt] at this
        have hw' : ws[i] = w := by
          have := List.getElem?_eq_getElem hlt
          rw [hw] at this
          exact (Option.some.inj this).symm
        rw [hw'] at this
        exact this.symm
      have q2 : (ws.flatMap fun w => (us w).map (g w)).length = (((ws.take i).flatMap fun w => (us w).map (g w)) ++ ((us w).map (g w) ++ (ws.drop (i + 1)).flatMap fun w => (us w).map (g w))).length := by
        conv => lhs; rw [q1]
        rw [List.flatMap_append, List.flatMap_cons]
      rw [List.length_append, List.length_append, List.length_map] at q2
      rw [List.length_append, List.length_map, List.length_take]
      omega
    refine gT_run T hb ha dw d3 fun σ2 d2 e2 => ⟨e2.trans wipe_wipe, ?_⟩
    simp only [tYes, if_true]
    intro s Hs C cl fp
    refine hin _ (ex _) s Hs C cl fp σ2 H'' _ d2 m3 fun J1 us' Gm' mu2 H4 ⟨e3, e4, hGm', tn⟩ c4 m4 ⟨Gh1, Y1, wk1, hg1, hy1⟩ => ?_
    subst e3 e4
    have c24 := (c2.trans c3).trans c4
    generalize hacc : ((ws.take i).flatMap fun w => (us w).map (g w)) = acc at *
    refine ⟨fun j n H' => n = (us w).length - j ∧ j ≤ (us w).length ∧ Chg (setM mu1 D (.lst acc)) H4 (setM mu1 D (.lst (acc ++ ((us w).take j).map (g w)))) H' ∧ HM X.K H' (setM mu1 D (.lst (acc ++ ((us w).take j).map (g w)))), ⟨(us w).length, by simp, Nat.zero_le _, ?_, ?_⟩, ?_⟩
    · simp only [List.take_zero, List.map_nil, List.append_nil]
      exact Chg.refl
    · simp only [List.take_zero, List.map_nil, List.append_nil]
      exact m4
    rintro j n H5 ⟨rfl, hj, c5, m5⟩
    have gh1 := hg1 _ H5 c5 m5 (hGm' _ (ex _))
    by_cases hjl : j < (us w).length
    · refine .inr ⟨wk1.goes j H5 hjl gh1, fun H' => Chg (setM mu1 D (.lst acc)) H4 (setM mu1 D (.lst (acc ++ ((us w).take (j + 1)).map (g w)))) H' ∧ HM X.K H' (setM mu1 D (.lst (acc ++ ((us w).take (j + 1)).map (g w)))), fun H'' hN => ⟨(us w).length - (j + 1), by omega, rfl, hjl, hN⟩, fun x1 H6 y1 => ?_⟩
      obtain ⟨u, hu, c6, m6, d6⟩ := hy1 j H5 x1 H6 _ hjl c5 m5 (hGm' _ (ex _)) (wk1.yields j H5 x1 H6 hjl gh1 y1)
      obtain ⟨G3, hb3, he⟩ := tn u (List.mem_of_getElem? hu)
      have dG2 : DenG X.K H6 (wipeG G2 vs1) (wipe σ2 vs1) := c6.denG m5 (c5.denG m4 (c4.denG m3 (wipeG_den d2 vs1)))
      refine gT_run T1 hb3 ha1 dG2 d6 fun σ3 d7 e7 => ⟨e7.trans wipe_wipe, ?_⟩
      simp only [tYes, if_true]
      intro s Hs C cl fp
      refine he _ (ex _) s Hs C cl fp σ3 H6 _ d7 m6 fun v r mu4 H7 ⟨e8, e9⟩ c8 d8 m8 => ?_
      subst e8 e9
      have tku : acc ++ ((us w).take (j + 1)).map (g w) = (acc ++ ((us w).take j).map (g w)) ++ [g w u] := by
        rw [List.take_add_one, hu, List.map_append, List.append_assoc]
        rfl
      obtain ⟨ys, hy7, dy7⟩ := m8 D _ setM_same
      obtain ⟨c9, m9⟩ := wrote (o := .lst (ys ++ [v])) (c := .lst ((acc ++ ((us w).take j).map (g w)) ++ [g w u])) m8 setM_same (newLst (DenAll.append dy7 ⟨v, [], rfl, d8, rfl⟩))
      rw [setM_set, ← tku] at c9 m9
      exact ⟨ys, hy7, by rw [← dy7.length]; exact lenle j hjl, ((c5.trans c6).trans c8).trans c9, m9⟩
    · have ej : j = (us w).length := by omega
      subst ej
      rw [List.take_length] at c5 m5
      exact .inl ⟨wk1.stops H5 gh1, m5, c24.trans c5⟩
  · have ei : i = ws.length := by omega
    subst ei
    rw [List.take_length] at m2 c2
    exact .inl ⟨wk.stops H' gh, k (.ref D) (.m D) _ H' (ie D nD) (c1.trans c2) rfl m2⟩
theorem ss_setlc2 {E : WE} {i : Nat} {y : Str} {py spos : Pos} {scope : Scope} {own : List (Str × Nat)} {vs1 : List Nat} {tg iter tg1 iter1 elt : Expr} (T T1 : Tg) (hc : X.calm = true) (hN : X.N.Nodup) (hy : X.N[i]? = some y) (hyl : X.env.scope.names.lookup y = some .local)
    (hsw : swapsWith (.ListComp elt [⟨tg, iter, [], 0⟩, ⟨tg1, iter1, [], 0⟩] scope pos) (some (.Name y py)) spos.line X.env = pure true) (ok : BlkOk X.N X.env.scope scope own) (hv : ∀ i ∈ vs1, i ∈ own.map (·.2)) (ha : T.all (fun i => decide (i ∈ own.map (·.2))) = true) (ha1 : T1.all (fun i => decide (i ∈ vs1)) = true)
    (hg : ∀ (s : Shared) (H : Hp) (C : Addr) (cl : List (Str × Addr)) (fp : List Addr), PG (X.blk s H scope (compEnvC scope cl C X.env) fp) tg (gT X.K T)) (hg1 : ∀ (s : Shared) (H : Hp) (C : Addr) (cl : List (Str × Addr)) (fp : List Addr), PG (X.blk s H scope (compEnvC scope cl C X.env) fp) tg1 (gT X.K T1)) (hs : ∀ x, foldedSetIterable iter X.env x = pure x) (hs1 : ∀ env x, foldedSetIterable iter1 env x = pure x)
    (h : SI X tg iter G mu fun ws Gm mu1 => (∀ mu', Ext mu1 mu' → Gm mu') ∧ ∃ (us : W → List W) (g : W → W → W), (ws.flatMap fun w => (us w).map (g w)).length ≤ sizeLine ∧
      (∀ w ∈ ws, ∃ G2, T.bind w (wipeG G (own.map (·.2))) = some G2 ∧ ∀ mu', Ext mu1 mu' → InBlk X scope fun Y => SI Y tg1 iter1 G2 mu' fun us' Gm' mu2 => us' = us w ∧ mu2 = mu' ∧ (∀ mu'', Ext mu1 mu'' → Gm' mu'') ∧ ∀ u ∈ us w, ∃ G3, T1.bind u (wipeG G2 vs1) = some G3 ∧ ∀ mu'', Ext mu1 mu'' → InBlk X scope fun Z => SE Z elt G3 mu'' fun r mu4 => r = g w u ∧ mu4 = mu'') ∧
      ∀ D, mu1 D = none → E.nx (G.set i (some (.m D))) (setM mu1 D (.lst (ws.flatMap fun w => (us w).map (g w))))) : SS X (.Assign [.Name y py] (.ListComp elt [⟨tg, iter, [], 0⟩, ⟨tg1, iter1, [], 0⟩] scope pos) spos) G mu E :=
  SS.mk (ps_setLc2 hc hN hy hyl hsw piI ok hv hg (fun _ _ _ _ _ => pts_nil) (fun s H C cl fp => ⟨fun pins s' σ H' Q I h => h s H C cl fp pins s' I⟩) hg1 (fun _ _ _ _ _ => pts_nil) (fun s H C cl fp => ⟨fun pins s' σ H' Q I h => h s H C cl fp pins s' I⟩) hs hs1) fun σ H D d m k =>
    lc2_rd (P := fun w mu1 => E.nx (G.set i (some w)) mu1) T T1 ha ha1 d m (fun v w mu1 H1 h1 c1 d1 m1 => k.nx _ _ _ _ h1 c1 (DenG.set (c1.denG m d) d1) m1) h
/-! a star of a tuple -/
theorem sa_star {P : List W → Mu → Prop} {p : Pos} (h : SE X e G mu fun w mu1 => match w with | .tup us => SA X es G mu1 fun ws mu2 => P (us ++ ws) mu2 | _ => False) (hs : starEach (.Starred e p :: es) X.env = (true, eval e X.env) :: starEach es X.env := by rfl) : SA X (.Starred e p :: es) G mu P :=
  SA.mk (StX.pa_star peE paA hs) fun σ H Q d m k => h σ H _ d m fun v w mu1 H1 h1 c1 d1 m1 => by
    cases w with
    | tup us =>
      obtain ⟨a, xs, rfl, s, dx⟩ := d1
      exact ⟨a, xs, rfl, .inl s, h1 σ H1 _ (c1.denG m d) m1 fun vs ws mu2 H2 h2 c2 d2 m2 => k _ _ _ _ h2 (c1.trans c2) (DenAll.append (c2.denAll m1 dx) d2) m2⟩
    | _ => exact False.elim h1
/-! sorted of data -/
theorem dats_mapD : ∀ us : List W, dats us = us.map dat
  | [] => by simp [dats]
  | u :: us => by simp [dats, dats_mapD us]
theorem each_zip {K : PySem.W.Frag} {H : Hp} : ∀ {us : List W} {xs : List V} {its : List Value}, DenAll K H us xs → Vals xs its → PySem.W.EachIs (fun u (b : V × W) => RelV b.1 u) its (xs.zip us)
  | [], xs, its, d, r => by
    have d : xs = [] := d
    subst d
    cases r
    exact .nil
  | u :: us, _, its, ⟨v, xs, e, d1, d2⟩, r => by
    subst e
    cases r with
    | cons r1 r2 => exact .cons r1 (each_zip d2 r2)
theorem each_reads {X : Cx} {pins : List (Addr × Obj)} {σ : St} {H : Hp} {s : Shared} (I : Inv X pins σ H s) : ∀ {us : List W} {xs : List V} {its : List Value}, plsW us = true → DenAll X.K H us xs → Vals xs its → PySem.W.EachIs (fun u (b : V × W) => ∃ as, Reads s.heap u (dat b.2) as) its (xs.zip us)
  | [], xs, its, _, d, r => by
    have d : xs = [] := d
    subst d
    cases r
    exact .nil
  | u :: us, _, its, p, ⟨v, xs, e, d1, d2⟩, r => by
    subst e
    unfold plsW at p
    rw [Bool.and_eq_true] at p
    cases r with
    | cons r1 r2 => exact .cons (Dp.reads I (dat u) v _ (Den.dp u p.1 d1) r1) (each_reads I p.2 d2 r2)
theorem each_vals : ∀ {bs : List (V × W)} {out : List Value}, PySem.W.EachIs (fun u (b : V × W) => RelV b.1 u) out bs → Vals (bs.map (·.1)) out
  | _, _, .nil => .nil
  | _, _, .cons r t => .cons r (each_vals t)
theorem zip_snd {K : PySem.W.Frag} {H : Hp} {us : List W} {xs : List V} (d : DenAll K H us xs) : (xs.zip us).map (·.2) = us := by
  have := d.length
  rw [List.map_snd_zip]
  omega
theorem zip_den {K : PySem.W.Frag} {H : Hp} : ∀ {us : List W} {xs : List V}, DenAll K H us xs → ∀ b ∈ xs.zip us, Den K H b.2 b.1
  | [], xs, d, b, hb => by simp at hb
  | u :: us, _, ⟨v, xs, e, d1, d2⟩, b, hb => by
    subst e
    rcases List.mem_cons.mp hb with rfl | hb
    · exact d1
    · exact zip_den d2 b hb
theorem denAll_of {K : PySem.W.Frag} {H : Hp} : ∀ {bs : List (V × W)}, (∀ b ∈ bs, Den K H b.2 b.1) → DenAll K H (bs.map (·.2)) (bs.map (·.1))
  | [], _ => rfl
  | b :: bs, h => ⟨b.1, _, rfl, h b (by simp), denAll_of fun c hc => h c (by simp [hc])⟩
theorem mem_dats {us : List W} {d : PyData} : d ∈ dats us ↔ ∃ u ∈ us, d = dat u := by
  induction us with
  | nil => simp [dats]
  | cons u us ih => simp [dats, ih]
def leW (a b : W) : Bool := PySem.W.dataLe false (fun w : W => dat w) a b
def rSortW (K : PySem.W.Frag) : List V → Hp → VK → Prop := fun vs H Q => ∃ (a : Addr) (xs : List V) (us : List W), vs = [.ref a] ∧ SqL K H a xs ∧ DenAll K H us xs ∧ plsW us = true ∧ PySem.W.AllAlike (dats us) ∧ PySem.W.Sortable (dats us) ∧ us.length ≤ sizeLine ∧ (∀ u ∈ us, (dat u).depth ≤ 64) ∧
  ∀ p ys, H p = none → DenAll K H (us.mergeSort leW) ys → Q (.ref p) (upd H p (.lst ys))
theorem cr_sortedW {j : Nat} (hr : Room j X.A) : CallR X (.builtin "sorted") (rSortW X.K) := by
  intro pins s σ H vs us' Q I r h
  obtain ⟨a, xs, us, rfl, hs, dx, pl, al, so, hl, dp, q⟩ := h
  obtain ⟨its, rv, pL, hz⟩ := I.list hs
  cases r with
  | cons ra rn =>
    cases rn
    cases ra
    have em : (xs.zip us).map (fun b => dat b.2) = dats us := by
      have := congrArg (List.map dat) (zip_snd dx)
      rw [List.map_map] at this
      rw [show dats us = us.map dat from by simpa using dats_mapD us]
      exact this
    have hlen : (xs.zip us).length = us.length := by rw [List.length_zip, ← dx.length]; omega
    refine PySem.W.sorted_data (β := V × W) (bs := xs.zip us) (enc := fun b => dat b.2) pL.isList (each_zip dx rv) (each_reads I pl dx rv) (by rw [em]; exact al) (by rw [em]; exact so) (by rw [hlen]; exact hl) (fun b hb => ?_) fun out ho he => ?_
    · have := dp b.2 (List.of_mem_zip hb).2
      have := hr.un
      omega
    · obtain ⟨c, hc⟩ := PyProof.Rows.sortedAll_at s.heap its out.toArray
      have hp : s.heap.objs.size ≤ s.heap.objs.size + 1 := Nat.le_succ _
      have hn : H (s.heap.objs.size + 1) = none := I.hok.fresh hp
      have rel := each_vals he
      have dn : DenAll X.K H (us.mergeSort leW) (((xs.zip us).mergeSort (PySem.W.dataLe false fun b => dat b.2)).map (·.1)) := by
        have h1 := denAll_of (K := X.K) (H := H) (bs := (xs.zip us).mergeSort (PySem.W.dataLe false fun b => dat b.2)) fun b hb => zip_den dx b ((List.mergeSort_perm _ _).mem_iff.mp hb)
        have h2 : ((xs.zip us).mergeSort (PySem.W.dataLe false fun b => dat b.2)).map (·.2) = us.mergeSort leW := by
          exact (PySem.W.sort_maps (r := PySem.W.dataLe false fun b : V × W => dat b.2) (s := leW) (l := xs.zip us) (fun b : V × W => b.2) fun a _ b _ => rfl).trans (by rw [zip_snd dx])
        rw [h2] at h1
        exact h1
      refine ⟨.ref (s.heap.objs.size + 1), upd H (s.heap.objs.size + 1) (.lst _), I.laid (t' := s.toks) (fun _ _ => PyProof.Rows.sortedAll_old) hp ⟨?_, out, c, rel, hc⟩, rfl, q _ _ hn dn⟩
      rw [List.length_map, List.length_mergeSort, hlen]
      exact hl
abbrev sortedW (ws : List W) (mu : Mu) (P : PW1) : Prop := match ws with | [.m a] => ∃ us, mu a = some (.lst us) ∧ plsW us = true ∧ PySem.W.AllAlike (dats us) ∧ PySem.W.Sortable (dats us) ∧ us.length ≤ sizeLine ∧ (∀ u ∈ us, (dat u).depth ≤ 64) ∧ ∀ p, mu p = none → P (.m p) (setM mu p (.lst (us.mergeSort leW))) | _ => False
theorem sorted_w : CallW X (rSortW X.K) sortedW := fun ws vs mu H P Q d m h k => by
  unfold sortedW at h
  split at h
  · rename_i a
    obtain ⟨us, h1, pl, al, so, hl, dp, q⟩ := h
    obtain ⟨v, rfl, dv⟩ := d.one
    have dv : v = .ref a := dv
    subst dv
    obtain ⟨xs, hx, dx⟩ := m a _ h1
    refine ⟨a, xs, us, rfl, SqL.of hx, dx, pl, al, so, hl, dp, fun p ys hp dy => ?_⟩
    obtain ⟨c2, m2⟩ := laidC (o := .lst ys) (c := .lst (us.mergeSort leW)) m hp (newLst dy)
    exact k _ _ _ _ (q p (m.dom hp)) c2 rfl m2
  · exact h.elim
theorem se_sorted {j : Nat} (hr : Room j X.A) (h : SE X e G mu fun w mu1 => sortedW [w] mu1 P) (hm : X.mg "sorted" = none) (hg : Gl X "sorted" := by rfl) (he : starEach [e] X.env = [(false, eval e X.env)] := by rfl) (hpl : (backTo pos (starEach [] X.env)).any (·.1) = false := by rfl) :
    SE X (.Call (.Name "sorted" p) [e] [] pos) G mu P := se_blt (cr_sortedW hr) sorted_w hm (sa_one h he) (by decide +kernel) hg (by decide) (by decide) he hpl
end
end Dv
set_option Elab.async false
set_option linter.all false
set_option maxRecDepth 100000
namespace K1
open PySem L2 Dv
section
variable {P : Program} {w : World} {K : PySem.W.Frag} {mg : Str → Option Value} {base : Heap}
def manyS : List Slot → Nat
  | [] => 1
  | s :: r => s.2.2.length * manyS r
theorem manyS_append (a b : List Slot) : manyS (a ++ b) = manyS a * manyS b := by
  induction a with
  | nil => simp [manyS]
  | cons s a ih => simp [manyS, ih, Nat.mul_assoc]
theorem manyS_le {ss : List Slot} (h : ∀ s ∈ ss, 1 ≤ s.2.2.length) (i : Nat) : 1 ≤ manyS (ss.take i) ∧ manyS (ss.take i) ≤ manyS ss := by
  have pos : ∀ {l : List Slot}, (∀ s ∈ l, 1 ≤ s.2.2.length) → 1 ≤ manyS l := by
    intro l
    induction l with
    | nil => intro _; exact Nat.le_refl _
    | cons s r ih => intro hl; exact Nat.mul_le_mul (hl s (by simp)) (ih fun t ht => hl t (by simp [ht]))
  have e : manyS ss = manyS (ss.take i) * manyS (ss.drop i) := by rw [← manyS_append, List.take_append_drop]
  refine ⟨pos fun s hs => h s (List.mem_of_mem_take hs), ?_⟩
  rw [e]
  exact Nat.le_mul_of_pos_right _ (pos fun s hs => h s (List.mem_of_mem_drop hs))
theorem log2_le {n m : Nat} (h : n ≤ 2 ^ m) : n.log2 ≤ m := by
  by_cases z : n = 0
  · subst z; simp
  · have := (Nat.log2_lt z (k := m + 1)).mpr (Nat.lt_of_le_of_lt h (by rw [Nat.pow_succ]; have := Nat.two_pow_pos m; omega))
    omega

abbrev s_count_stands : Stmt := top 20
theorem sc_count_stands : FnScope ["slots", "many", "_", "words"] ["slots"] (defScope s_count_stands) := ⟨rfl, rfl, rfl, by decide +kernel, rfl, by decide +kernel, by decide +kernel⟩
def S_count : SpW := fun ws mu P => ∃ ss, ws = [slsW ss] ∧ (∀ s ∈ ss, 1 ≤ s.2.2.length ∧ s.2.2.length ≤ 4) ∧ manyS ss ≤ 32 ∧ ∀ mu', Ext mu mu' → P (.int (manyS ss : Nat)) mu'
theorem d_count_stands (D : Dfn K mg "count_stands" s_count_stands ["slots"]) (B : Bl mg) : DefOk P w K mg base "count_stands" ["slots"] 1 S_count := by
  refine dfnOk D sc_count_stands (fun ws mu P ⟨ss, e, _⟩ => by rw [e]; rfl) (fun f cdv A outer s H E hr ws mu Pt ⟨ss, e, h4, h32, h⟩ => ?_)
  subst e
  refine sss_cons ?_
  refine ss_asg ?_
  refine se_int ?_
  refine sg_name (i := 1) ?_ sc_count_stands.nd
  refine sss_cons ?_
  refine ss_for PassesOwn.never rfl (by intro _; rfl) ?_
  refine si_tup ?_
  refine se_var (i := 0) rfl ?_
  refine ⟨fun i G' mu' => mu' = mu ∧ ∃ x y, G' = [some (slsW ss), some (.int (manyS (ss.take i) : Nat)), x, y], ⟨rfl, none, none, rfl⟩, fun _ _ _ _ _ => trivial, fun i w G' mu' hw ⟨e, x, y, eG⟩ => ?_, fun G' mu' ⟨e, x, y, eG⟩ => ?_⟩
  · subst e eG
    rw [List.getElem?_map] at hw
    cases ht : ss[i]? with
    | none => rw [ht] at hw; cases hw
    | some t =>
      rw [ht] at hw
      cases hw
      refine sg_tup (sgs_cons (sg_name (i := 2) (sgs_cons (sg_name (i := 2) (sgs_cons (sg_name (i := 3) (sgs_nil ?_) sc_count_stands.nd)) sc_count_stands.nd)) sc_count_stands.nd))
      refine sss_cons ?_
      refine ss_augMul (i := 1) rfl ?_ sc_count_stands.nd
      refine se_len ?_ B.len
      refine se_var (i := 3) rfl ?_
      have tm := h4 t (List.mem_of_getElem? ht)
      have ml := manyS_le (fun s hs => (h4 s hs).1) i
      have e1 : manyS (ss.take (i + 1)) = manyS (ss.take i) * t.2.2.length := by
        rw [List.take_add_one, ht, manyS_append]
        simp [manyS]
      refine ⟨?_, ?_⟩
      · unfold CMulW
        have h1 := log2_le (m := 5) (Nat.le_trans ml.2 h32)
        have h2 : (stW t.2.2).length.log2 ≤ 2 := log2_le (m := 2) (by rw [stW, List.length_map]; exact tm.2)
        show (manyS (ss.take i)).log2 + (stW t.2.2).length.log2 < 1000000
        omega
      · refine sss_nil ?_
        refine ⟨rfl, some (.str t.2.1), some (nmW t.2.2), ?_⟩
        rw [e1, Int.natCast_mul]
        have el : (stW t.2.2).length = t.2.2.length := by rw [stW, List.length_map]
        rw [el]
        rfl
  · subst e eG
    rw [List.length_map, List.take_length]
    refine sss_cons (ss_ret ?_)
    refine se_var (i := 1) rfl ?_
    exact h _ Ext.refl

structure SsOk (hs : List Str) (ss : List Slot) : Prop where
  lo : 1 ≤ ss.length
  hi : ss.length ≤ 6
  each : ∀ s ∈ ss, SlOk hs s
  nd : (ss.map (·.1)).Nodup
  many : manyS ss ≤ 32
theorem SsOk.nm {hs : List Str} {ss : List Slot} (h : SsOk hs ss) (hh : HsOk hs) : SsNm ss := ⟨h.hi, fun s hs' => ⟨(h.each s hs').nm, hh.nm _ (h.each s hs').home, (h.each s hs').hi, (h.each s hs').wm⟩⟩

abbrev s_are_slots : Stmt := top 18
theorem sc_are_slots : FnScope ["houses", "value", "slot", "name", "_"] ["houses", "value"] (defScope s_are_slots) := ⟨rfl, rfl, rfl, by decide +kernel, rfl, by decide +kernel, by decide +kernel⟩
def S_are_slots : SpW := S_t fun ws mu => ∃ hs ss, ws = [nmW hs, slsW ss] ∧ HsOk hs ∧ SsOk hs ss
theorem d_are_slots (D : Dfn K mg "are_slots" s_are_slots ["houses", "value"]) (B : Bl mg) (D_is_tuple : DefOk P w K mg base "is_tuple" ["value", "least", "most"] 1 S_is_tuple) (D_is_slot : DefOk P w K mg base "is_slot" ["houses", "value"] 3 S_is_slot) (D_are_different : DefOk P w K mg base "are_different" ["names"] 1 S_are_different) (D_count_stands : DefOk P w K mg base "count_stands" ["slots"] 1 S_count) : DefOk P w K mg base "are_slots" ["houses", "value"] 4 S_are_slots := by
  refine dfnOk D sc_are_slots (fun ws mu P ⟨⟨hs, ss, e, _⟩, _⟩ => by rw [e]; rfl) (fun f cdv A outer s H E hr ws mu Pt ⟨⟨hs, ss, e, hh, ok⟩, h⟩ => ?_)
  subst e
  have hu65 : (A.deeper (PyProof.Rows.envOfC "are_slots" (defScope s_are_slots) s.heap.objs.size f cdv)).units + 65 < cLine := by have := hr.un; omega
  refine sss_cons ?_
  refine ss_if ?_
  refine st_of_w ?_
  refine sw_or ?_
  refine st_not ?_
  refine st_val ?_
  refine se_callD D_is_tuple (hr.mono (by decide)) ?_
  refine sa_cons ?_
  refine se_var (i := 1) rfl ?_  -- value
  refine sa_cons ?_
  refine se_int ?_  -- 1
  refine sa_cons ?_
  refine se_int ?_  -- 6
  refine sa_nil ?_
  refine ⟨_, 1, 6, rfl, fun r mu1 e e1 => ?_⟩
  obtain rfl : r = true := bit (a := 1) (b := 6) e (by rw [List.length_map]; exact ok.lo) (by rw [List.length_map]; exact ok.hi)
  refine sw_or1 ?_
  refine st_not ?_
  refine st_val ?_
  refine se_all ?_ B.all
  refine se_lc (own := [("slot", 2)]) (.nm 2) rfl sc_are_slots.nd (blkOk_by (N := ["houses", "value", "slot", "name", "_"]) (sc := defScope s_are_slots) (by decide +kernel)) rfl (fun _ _ _ _ _ => (pg_name (i := 2) sc_are_slots.nd rfl (Or.inl rfl))) (by intro _; rfl) ?_  -- [is_slot(houses, slot) for slot in value]
  refine si_tup ?_
  refine se_var (i := 1) rfl ?_  -- value
  refine lc_all_t (fun _ _ => trivial) (by rw [List.length_map]; exact lt10 (Nat.le_trans ok.hi (by decide))) InBlk.mono ?_ ?_
  · intro w mu' hw he
    obtain ⟨t, ht, rfl⟩ := List.mem_map.mp hw
    refine ⟨_, rfl, fun s H C cl fp => ?_⟩
    refine se_callD D_is_slot (hr.mono (by decide)) ?_
    refine sa_cons ?_
    refine se_var (i := 0) rfl ?_  -- houses
    refine sa_cons ?_
    refine se_var (i := 2) rfl ?_  -- slot
    refine sa_nil ?_
    exact ⟨⟨hs, t, rfl, hh, ok.each t ht⟩, fun mu4 e4 => ⟨rfl, e4⟩⟩
  intro mu2 e2
  refine sss_nil ?_
  refine sss_cons ?_
  refine ss_ret ?_
  refine se_and ?_
  refine se_callD D_are_different (hr.mono (by decide)) ?_
  refine sa_cons ?_
  refine se_lc (own := [("name", 3), ("_", 4)]) (.tp [(.nm 3), (.nm 4), (.nm 4)]) rfl sc_are_slots.nd (blkOk_by (N := ["houses", "value", "slot", "name", "_"]) (sc := defScope s_are_slots) (by decide +kernel)) rfl (fun _ _ _ _ _ => (pg_tup rfl (pgs_cons (pg_name (i := 3) sc_are_slots.nd rfl (Or.inl rfl)) (pgs_cons (pg_name (i := 4) sc_are_slots.nd rfl (Or.inl rfl)) (pgs_cons (pg_name (i := 4) sc_are_slots.nd rfl (Or.inl rfl)) pgs_nil))))) (by intro _; rfl) ?_  -- [name for name, _, _ in value]
  refine si_tup ?_
  refine se_var (i := 1) rfl ?_  -- value
  refine lc_pure (fun w => match w with | .tup [x, _, _] => x | _ => .non) (fun _ _ => trivial) (by rw [List.length_map]; exact lt10 (Nat.le_trans ok.hi (by decide))) ?_ InBlk.mono ?_
  · intro w mu' hw he
    obtain ⟨t, ht, rfl⟩ := List.mem_map.mp hw
    refine ⟨_, rfl, fun s H C cl fp => ?_⟩
    refine se_var (i := 3) rfl ?_  -- name
    exact ⟨rfl, Ext.refl⟩
  have em : (ss.map slW1).map (fun w => match w with | W.tup [x, _, _] => x | _ => W.non) = stW (ss.map (·.1)) := by
    unfold stW
    rw [List.map_map, List.map_map]
    rfl
  rw [em]
  intro D mu3 hD he he2
  refine sa_nil ?_
  refine ⟨⟨_, _, rfl, .inr ⟨D, rfl, setM_same⟩, ok.nd, by rw [List.length_map]; exact Nat.le_trans ok.hi (by decide), fun n hn => ?_⟩, fun mu4 e4 => ?_⟩
  · obtain ⟨t, ht, rfl⟩ := List.mem_map.mp hn
    exact (ok.each t ht).nm
  refine bW_t rfl ?_
  refine se_one ?_
  refine se_cmp op_le cmpI_w (nomark _) ?_  -- count_stands(value) <= MOST_STANDS
  refine se_callD D_count_stands (hr.mono (by decide)) ?_
  refine sa_cons ?_
  refine se_var (i := 1) rfl ?_  -- value
  refine sa_nil ?_
  refine ⟨ss, rfl, fun t ht => ⟨by have := (ok.each t ht).lo; omega, (ok.each t ht).hi⟩, ok.many, fun mu5 e5 => ?_⟩
  obtain ⟨t, ht⟩ := B.stands
  refine se_glob (w := .int 32) (v := .int 32) ht ⟨t, rfl⟩ (fun _ _ => rfl) ?_
  show Pt (.bl (decide ((manyS ss : Int) ≤ 32))) mu5
  rw [decide_eq_true (by have := ok.many; omega)]
  exact h _ ((((e1.trans e2).trans he2).trans e4).trans e5)
end
end K1
set_option Elab.async false
set_option linter.all false
set_option maxRecDepth 100000
namespace K1
open PySem L2 Dv
section
variable {P : Program} {w : World} {K : PySem.W.Frag} {mg : Str → Option Value} {base : Heap}
/-- the word of a slot at a stand -/
def look (ss : List Slot) (st : List Str) (n : Str) : Option Str := match ss, st with
  | s :: ss, x :: st => if s.1 = n then some x else look ss st n
  | _, _ => none
def holds (ss : List Slot) (st : List Str) (p : Pat) : Bool := p.all fun q => decide (look ss st q.1 = some q.2)
def wordsOf (ss : List Slot) (st : List Str) : List (Key × W) := (ss.zip st).map fun q => (.inr q.1.1, .str q.2)
theorem wordsOf_keys : ∀ {ss : List Slot} {st : List Str}, st.length = ss.length → (wordsOf ss st).map (·.1) = ss.map fun s => (Sum.inr s.1 : Key)
  | [], [], _ => rfl
  | s :: ss, x :: st, h => by
    have := wordsOf_keys (ss := ss) (st := st) (by simpa using h)
    unfold wordsOf at this ⊢
    simp only [List.zip_cons_cons, List.map_cons, this]
  | [], x :: st, h => by simp at h
  | s :: ss, [], h => by simp at h
theorem wordsOf_get : ∀ {ss : List Slot} {st : List Str} {n : Str}, valW (wordsOf ss st) (.inr n) = (look ss st n).map W.str
  | [], _, n => by simp [wordsOf, valW, look]
  | s :: ss, [], n => by simp [wordsOf, valW, look]
  | s :: ss, x :: st, n => by
    have ih := wordsOf_get (ss := ss) (st := st) (n := n)
    unfold wordsOf at ih ⊢
    simp only [List.zip_cons_cons, List.map_cons, valW, look]
    by_cases e : s.1 = n
    · simp [e]
    · have : ¬ (Sum.inr s.1 : Key) = Sum.inr n := fun z => e (Sum.inr.inj z)
      rw [if_neg this, if_neg e]
      exact ih
theorem look_some : ∀ {ss : List Slot} {st : List Str} {n : Str}, st.length = ss.length → n ∈ ss.map (·.1) → ∃ x, look ss st n = some x ∧ x ∈ st
  | [], _, n, _, h => by simp at h
  | s :: ss, [], n, h, _ => by simp at h
  | s :: ss, x :: st, n, h, hn => by
    unfold look
    by_cases e : s.1 = n
    · exact ⟨x, by rw [if_pos e], by simp⟩
    · rw [if_neg e]
      have hn' : n ∈ ss.map (·.1) := by
        rcases List.mem_cons.mp hn with z | z
        · exact absurd z.symm e
        · exact z
      obtain ⟨y, h1, h2⟩ := look_some (st := st) (by simpa using h) hn'
      exact ⟨y, h1, by simp [h2]⟩
theorem putW_new {κ : Type} [DecidableEq κ] {k : κ} {w : W} : ∀ {kvs : List (κ × W)}, k ∉ kvs.map (·.1) → putW kvs k w = kvs ++ [(k, w)]
  | [], _ => rfl
  | (j, u) :: r, h => by
    unfold putW
    have : ¬ j = k := fun z => h (by simp [z])
    rw [if_neg this, putW_new (kvs := r) fun z => h (by simp [z])]
    rfl
structure StOk (ss : List Slot) (st : List Str) : Prop where
  len : st.length = ss.length
  nm : ∀ x ∈ st, NmOk x

abbrev s_pattern_holds : Stmt := top 28
theorem sc_pattern_holds : FnScope ["slots", "pattern", "stand", "words", "slot", "word"] ["slots", "pattern", "stand"] (defScope s_pattern_holds) := ⟨rfl, rfl, rfl, by decide +kernel, rfl, by decide +kernel, by decide +kernel⟩
def S_holds : SpW := fun ws mu P => ∃ ss p st, ws = [slsW ss, ptW p, nmW st] ∧ SsNm ss ∧ (ss.map (·.1)).Nodup ∧ StOk ss st ∧ (∀ q ∈ p, PrOk ss q) ∧ p.length ≤ 10 ∧ ∀ mu', Ext mu mu' → P (.bl (holds ss st p)) mu'
theorem d_pattern_holds (D : Dfn K mg "pattern_holds" s_pattern_holds ["slots", "pattern", "stand"]) (B : Bl mg) : DefOk P w K mg base "pattern_holds" ["slots", "pattern", "stand"] 1 S_holds := by
  refine dfnOk D sc_pattern_holds (fun ws mu P ⟨ss, p, st, e, _⟩ => by rw [e]; rfl) (fun f cdv A outer s H E hr ws mu Pt ⟨ss, p, st, e, nm, nd, so, ok, len, h⟩ => ?_)
  subst e
  refine sss_cons (ss_asg ?_)
  refine se_dc (own := [("slot", 4), ("word", 5)]) (.tp [.nm 4, .nm 5]) rfl sc_pattern_holds.nd (blkOk_by (N := ["slots", "pattern", "stand", "words", "slot", "word"]) (sc := defScope s_pattern_holds) (by decide +kernel)) rfl (fun _ _ _ _ _ => (pg_tup rfl (pgs_cons (pg_name (i := 4) sc_pattern_holds.nd rfl (Or.inl rfl)) (pgs_cons (pg_name (i := 5) sc_pattern_holds.nd rfl (Or.inl rfl)) pgs_nil)))) (by intro _; rfl) ?_
  refine si_zip ?_ B.zip
  refine se_var (i := 0) rfl ?_
  refine se_var (i := 2) rfl ?_
  intro D hD
  have hz : ((ss.map slW1).zip (stW st)).map (fun q => W.tup [q.1, q.2]) = (ss.zip st).map fun q => W.tup [slW1 q.1, .str q.2] := by
    unfold stW
    rw [List.zip_map, List.map_map]
    rfl
  have hl : (ss.zip st).length = ss.length := by rw [List.length_zip, so.len]; omega
  rw [hz]
  refine ⟨fun i acc mu' => mu' = mu ∧ acc = (wordsOf ss st).take i, ⟨rfl, rfl⟩, fun _ _ _ _ _ => trivial, fun i w acc mu' hw ⟨e1, e2⟩ => ?_, fun acc mu' ⟨e1, e2⟩ => ?_⟩
  · subst e1 e2
    rw [List.getElem?_map] at hw
    cases hq : (ss.zip st)[i]? with
    | none => rw [hq] at hw; cases hw
    | some q =>
      rw [hq] at hw
      cases hw
      have hi : i < ss.length := by rw [← hl]; exact (List.getElem?_eq_some_iff.mp hq).1
      have kn : ((wordsOf ss st).map (·.1)).Nodup := by
        rw [wordsOf_keys so.len]
        have := nd
        rw [List.Nodup, List.pairwise_map] at this ⊢
        exact this.imp fun hne z => hne (Sum.inr.inj z)
      refine ⟨?_, ?_, ?_⟩
      · rw [List.length_take]
        have := nm.len
        have : i < 10 := by omega
        exact Nat.lt_of_le_of_lt (Nat.min_le_left _ _) (Nat.lt_of_lt_of_le this (by decide))
      · exact (List.Sublist.map _ (List.take_sublist _ _)).nodup kn
      refine ⟨_, rfl, fun s H C cl fp => ?_⟩
      refine se_ix ?_
      refine se_var (i := 4) rfl ?_
      refine se_int ?_
      refine ⟨.str q.1.1, atI_nat' (i := 0) rfl, .inr q.1.1, rfl, fun s H C cl fp => ?_⟩
      refine se_var (i := 5) rfl ?_
      have tk : (wordsOf ss st).take (i + 1) = (wordsOf ss st).take i ++ [(.inr q.1.1, .str q.2)] := by
        rw [List.take_add_one]
        have : (wordsOf ss st)[i]? = some (.inr q.1.1, .str q.2) := by
          unfold wordsOf
          rw [List.getElem?_map, hq]
          rfl
        rw [this]
        rfl
      refine ⟨rfl, ?_⟩
      rw [tk]
      refine putW_new fun hm => ?_
      have h2 : (((wordsOf ss st).take (i + 1)).map (·.1)).Nodup := (List.Sublist.map _ (List.take_sublist _ _)).nodup kn
      rw [tk, List.map_append, List.nodup_append] at h2
      exact h2.2.2 _ hm _ (by simp) rfl
  · subst e1 e2
    have hw : (wordsOf ss st).take ((ss.zip st).map fun q => W.tup [slW1 q.1, .str q.2]).length = wordsOf ss st := by
      rw [List.length_map]
      have : (wordsOf ss st).length = (ss.zip st).length := by unfold wordsOf; rw [List.length_map]
      rw [← this, List.take_length]
    rw [hw]
    refine sg_name (i := 3) ?_ sc_pattern_holds.nd
    have e0 : Ext mu' (setM mu' D (.dic (wordsOf ss st))) := Ext.refl.set hD
    refine sss_cons (ss_ret ?_)
    refine se_all ?_ B.all
    refine se_lc (own := [("slot", 4), ("word", 5)]) (.tp [.nm 4, .nm 5]) rfl sc_pattern_holds.nd (blkOk_by (N := ["slots", "pattern", "stand", "words", "slot", "word"]) (sc := defScope s_pattern_holds) (by decide +kernel)) rfl (fun _ _ _ _ _ => (pg_tup rfl (pgs_cons (pg_name (i := 4) sc_pattern_holds.nd rfl (Or.inl rfl)) (pgs_cons (pg_name (i := 5) sc_pattern_holds.nd rfl (Or.inl rfl)) pgs_nil)))) (by intro _; rfl) ?_
    refine si_tup ?_
    refine se_var (i := 1) rfl ?_
    refine lc_all_g (fun w => match w with | .tup [.str n, .str x] => decide (look ss st n = some x) | _ => false) (fun _ _ => trivial) (by rw [List.length_map]; exact lt10 len) InBlk.mono ?_ fun mu2 e2 => ?_
    · intro w mu2 hw2 he
      obtain ⟨q, hq, rfl⟩ := List.mem_map.mp hw2
      have qn := pt_names nm ok q hq
      obtain ⟨x, hx, hxs⟩ := look_some (ss := ss) (st := st) (n := q.1) so.len (by obtain ⟨u, hu, e1, _⟩ := ok q hq; exact List.mem_map.mpr ⟨u, hu, e1⟩)
      refine ⟨_, rfl, fun s H C cl fp => ?_⟩
      refine se_cmp (op_eqD hr.units) eq_w (nomark _) ?_
      refine se_dget (hu_of hr) ?_
      refine se_var (i := 3) rfl ?_
      refine se_var (i := 4) rfl ?_
      refine ⟨D, wordsOf ss st, .inr q.1, .str x, rfl, he _ _ setM_same, rfl, by rw [wordsOf_get, hx]; rfl, ?_⟩
      refine se_var (i := 5) rfl ?_
      refine eq_strs (so.nm x hxs) qn.2 ⟨?_, Ext.refl⟩
      show W.bl (decide (x = q.2)) = W.bl (decide (look ss st q.1 = some q.2))
      rw [hx]
      congr 1
      simp
    · have : ((p.map prW).all fun w => match w with | .tup [.str n, .str x] => decide (look ss st n = some x) | _ => false) = holds ss st p := by
        rw [List.all_map]
        rfl
      rw [this]
      exact h _ (e0.trans e2)

abbrev s_one_holds : Stmt := top 29
theorem sc_one_holds : FnScope ["slots", "patterns", "stand", "pattern"] ["slots", "patterns", "stand"] (defScope s_one_holds) := ⟨rfl, rfl, rfl, by decide +kernel, rfl, by decide +kernel, by decide +kernel⟩
def prB (ss : List Slot) (st : List Str) : W → Bool
  | .tup [.str n, .str x] => decide (look ss st n = some x)
  | _ => false
def ptB (ss : List Slot) (st : List Str) : W → Bool
  | .tup us => us.all (prB ss st)
  | _ => false
theorem ptB_pt (ss : List Slot) (st : List Str) (p : Pat) : ptB ss st (ptW p) = holds ss st p := by
  unfold holds
  show (p.map prW).all (prB ss st) = _
  rw [List.all_map]
  rfl
def oneHolds (ss : List Slot) (st : List Str) (ps : List Pat) : Bool := ps.any (holds ss st)
def S_one : SpW := fun ws mu P => ∃ ss ps st, ws = [slsW ss, ptsW ps, nmW st] ∧ SsNm ss ∧ (ss.map (·.1)).Nodup ∧ StOk ss st ∧ (∀ p ∈ ps, (∀ q ∈ p, PrOk ss q) ∧ p.length ≤ 10) ∧ ps.length ≤ 10 ∧ ∀ mu', Ext mu mu' → P (.bl (oneHolds ss st ps)) mu'
theorem d_one_holds (D : Dfn K mg "one_holds" s_one_holds ["slots", "patterns", "stand"]) (B : Bl mg) (D_pattern_holds : DefOk P w K mg base "pattern_holds" ["slots", "pattern", "stand"] 1 S_holds) : DefOk P w K mg base "one_holds" ["slots", "patterns", "stand"] 2 S_one := by
  refine dfnOk D sc_one_holds (fun ws mu P ⟨ss, ps, st, e, _⟩ => by rw [e]; rfl) (fun f cdv A outer s H E hr ws mu Pt ⟨ss, ps, st, e, nm, nd, so, ok, len, h⟩ => ?_)
  subst e
  have hu65 : (A.deeper (PyProof.Rows.envOfC "one_holds" (defScope s_one_holds) s.heap.objs.size f cdv)).units + 65 < cLine := by have := hr.un; omega
  refine sss_cons ?_
  refine ss_ret ?_
  refine se_any ?_ B.any
  refine se_lc (own := [("pattern", 3)]) (.nm 3) rfl sc_one_holds.nd (blkOk_by (N := ["slots", "patterns", "stand", "pattern"]) (sc := defScope s_one_holds) (by decide +kernel)) rfl (fun _ _ _ _ _ => (pg_name (i := 3) sc_one_holds.nd rfl (Or.inl rfl))) (by intro _; rfl) ?_  -- [pattern_holds(slots, pattern, stand) for pattern in patterns]
  refine si_tup ?_
  refine se_var (i := 1) rfl ?_  -- patterns
  refine lc_any_g (ptB ss st) (fun _ _ => trivial) (by rw [List.length_map]; exact lt10 len) InBlk.mono ?_ fun mu2 e2 => ?_
  · intro w mu' hw he
    obtain ⟨p, hp, rfl⟩ := List.mem_map.mp hw
    refine ⟨_, rfl, fun s H C cl fp => ?_⟩
    refine se_callD D_pattern_holds (hr.mono (by decide)) ?_
    refine sa_cons ?_
    refine se_var (i := 0) rfl ?_  -- slots
    refine sa_cons ?_
    refine se_var (i := 3) rfl ?_  -- pattern
    refine sa_cons ?_
    refine se_var (i := 2) rfl ?_  -- stand
    refine sa_nil ?_
    refine ⟨ss, p, st, rfl, nm, nd, so, (ok p hp).1, (ok p hp).2, fun mu4 e4 => ⟨?_, e4⟩⟩
    rw [ptB_pt]
  · have : (ps.map ptW).any (ptB ss st) = oneHolds ss st ps := by
      unfold oneHolds
      rw [List.any_map]
      congr 1
      funext p
      exact ptB_pt ss st p
    rw [this]
    exact h _ e2
end
end K1
set_option Elab.async false
set_option linter.all false
set_option maxRecDepth 100000
namespace K1
open PySem L2 Dv
section
variable {P : Program} {w : World} {K : PySem.W.Frag} {mg : Str → Option Value} {base : Heap}
def grow (acc : List (List Str)) (wd : List Str) : List (List Str) := acc.flatMap fun st => wd.map fun x => st ++ [x]
def raw (ss : List Slot) : List (List Str) := (ss.map (·.2.2)).foldl grow [[]]
theorem raw_take {ss : List Slot} {i : Nat} {t : Slot} (h : ss[i]? = some t) : raw (ss.take (i + 1)) = grow (raw (ss.take i)) t.2.2 := by
  unfold raw
  rw [List.take_add_one, h, List.map_append, List.foldl_append]
  rfl
theorem grow_len (acc : List (List Str)) (wd : List Str) : (grow acc wd).length = acc.length * wd.length := by
  unfold grow
  induction acc with
  | nil => simp
  | cons a r ih =>
    rw [List.flatMap_cons, List.length_append, ih, List.length_map, List.length_cons, Nat.succ_mul, Nat.add_comm]
theorem raw_len : ∀ (ss : List Slot) (acc : List (List Str)), ((ss.map (·.2.2)).foldl grow acc).length = acc.length * manyS ss
  | [], acc => by simp [manyS]
  | s :: ss, acc => by
    show ((ss.map (·.2.2)).foldl grow (grow acc s.2.2)).length = _
    rw [raw_len ss, grow_len, manyS, Nat.mul_assoc]
theorem raw_each : ∀ (ss : List Slot) (acc : List (List Str)) (n : Nat), (∀ st ∈ acc, st.length = n) → ∀ st ∈ (ss.map (·.2.2)).foldl grow acc, st.length = n + ss.length
  | [], acc, n, h, st, hs => by simpa using h st hs
  | s :: ss, acc, n, h, st, hs => by
    have := raw_each ss (grow acc s.2.2) (n + 1) (fun st hst => by
      unfold grow at hst
      obtain ⟨a, ha, hst⟩ := List.mem_flatMap.mp hst
      obtain ⟨x, hx, rfl⟩ := List.mem_map.mp hst
      rw [List.length_append, h a ha]
      rfl) st hs
    rw [this, List.length_cons]
    omega
theorem alikeAll_str : ∀ a b : List Str, PySem.W.alikeAll (dats (stW a)) (dats (stW b)) = true
  | [], _ => by simp [stW, dats, PySem.W.alikeAll]
  | x :: a, [] => by simp [stW, dats, PySem.W.alikeAll]
  | x :: a, y :: b => by
    have := alikeAll_str a b
    unfold stW at this ⊢
    simp only [List.map_cons, dats, dat, PySem.W.alikeAll, PySem.W.alike, this, Bool.and_self]
theorem alike_nm (a b : List Str) : PySem.W.alike (dat (nmW a)) (dat (nmW b)) = true := by
  unfold nmW
  simp only [dat, PySem.W.alike]
  exact alikeAll_str a b
theorem depth_nm (a : List Str) : (dat (nmW a)).depth ≤ 1 := by
  unfold nmW stW
  simp only [dat, PyData.depth]
  rw [dats_map]
  have := depth_all (fun z : Str => dat (.str z)) (n := 0) (xs := a) fun z _ => by simp [dat, PyData.depth]
  omega
/-- what sorted asks of stands -/
theorem sort_stands {us : List (List Str)} (ne : ∀ st ∈ us, st ≠ []) : plsW (us.map nmW) = true ∧ PySem.W.AllAlike (dats (us.map nmW)) ∧ PySem.W.Sortable (dats (us.map nmW)) ∧ ∀ u ∈ us.map nmW, (dat u).depth ≤ 64 := by
  refine ⟨plains_map _ plain_nm us, fun d hd d' hd' => ?_, .inl fun d hd => ?_, fun u hu => ?_⟩
  · obtain ⟨u, hu, rfl⟩ := mem_dats.mp hd
    obtain ⟨u', hu', rfl⟩ := mem_dats.mp hd'
    obtain ⟨a, _, rfl⟩ := List.mem_map.mp hu
    obtain ⟨b, _, rfl⟩ := List.mem_map.mp hu'
    exact alike_nm a b
  · obtain ⟨u, hu, rfl⟩ := mem_dats.mp hd
    obtain ⟨a, ha, rfl⟩ := List.mem_map.mp hu
    cases a with
    | nil => exact absurd rfl (ne [] ha)
    | cons x r => exact ⟨.str x, dats (stW r), by simp [nmW, stW, dat, dats]⟩
  · obtain ⟨a, ha, rfl⟩ := List.mem_map.mp hu
    exact Nat.le_trans (depth_nm a) (by decide)
def growW (w u : W) : W := match w with | .tup us => .tup (us ++ [u]) | _ => .non
theorem grow_W (acc : List (List Str)) (wd : List Str) : ((acc.map nmW).flatMap fun w => (stW wd).map (growW w)) = (grow acc wd).map nmW := by
  unfold grow
  induction acc with
  | nil => rfl
  | cons a r ih =>
    simp only [List.map_cons, List.flatMap_cons, ih, List.map_append]
    congr 1
    unfold stW growW nmW
    rw [List.map_map, List.map_map]
    refine List.map_congr_left fun x hx => ?_
    show W.tup (stW a ++ [.str x]) = W.tup (stW (a ++ [x]))
    unfold stW
    rw [List.map_append]
    rfl
/-- all stands, as sorted -/
def standsW (ss : List Slot) : List W := ((raw ss).map nmW).mergeSort leW
abbrev s_all_stands : Stmt := top 22
theorem sc_all_stands : FnScope ["slots", "stands", "_", "words", "stand", "word"] ["slots"] (defScope s_all_stands) := ⟨rfl, rfl, rfl, by decide +kernel, rfl, by decide +kernel, by decide +kernel⟩
def S_all : SpW := fun ws mu P => ∃ ss, ws = [slsW ss] ∧ ss ≠ [] ∧ ss.length ≤ 10 ∧ (∀ s ∈ ss, 1 ≤ s.2.2.length) ∧ manyS ss ≤ 32 ∧ ∀ mu', Ext mu mu' → P (.tup (standsW ss)) mu'
theorem d_all_stands (D : Dfn K mg "all_stands" s_all_stands ["slots"]) (B : Bl mg) : DefOk P w K mg base "all_stands" ["slots"] 1 S_all := by
  refine dfnOk D sc_all_stands (fun ws mu P ⟨ss, e, _⟩ => by rw [e]; rfl) (fun f cdv A outer s H E hr ws mu Pt ⟨ss, e, ne, l10, w1, h32, h⟩ => ?_)
  subst e
  refine sss_cons ?_
  refine ss_asg ?_
  refine se_lst ?_
  refine sa_cons ?_
  refine se_tup ?_
  refine sa_nil ?_
  refine ⟨by decide, ?_⟩
  refine sa_nil ?_
  refine ⟨by decide, fun p0 np0 => ?_⟩
  refine sg_name (i := 1) ?_ sc_all_stands.nd
  have e0 : Ext mu (setM mu p0 (.lst [.tup []])) := Ext.refl.set np0
  refine sss_cons ?_
  refine ss_for PassesOwn.never rfl (by intro _; rfl) ?_
  refine si_tup ?_
  refine se_var (i := 0) rfl ?_
  have sz : ∀ i, (raw (ss.take i)).length ≤ 32 := fun i => by
    unfold raw
    rw [raw_len, List.length_singleton, Nat.one_mul]
    exact Nat.le_trans (manyS_le w1 i).2 h32
  refine ⟨fun i G' mu' => Ext mu mu' ∧ ∃ p x y z u, mu' p = some (.lst ((raw (ss.take i)).map nmW)) ∧ G' = [some (slsW ss), some (.m p), x, y, z, u], ⟨e0, p0, none, none, none, none, setM_same, rfl⟩, fun _ _ _ _ _ => trivial, fun i w G' mu' hw ⟨e1, q, x, y, z, u, hq, eG⟩ => ?_, fun G' mu' ⟨e1, q, x, y, z, u, hq, eG⟩ => ?_⟩
  · subst eG
    rw [List.getElem?_map] at hw
    cases ht : ss[i]? with
    | none => rw [ht] at hw; cases hw
    | some t =>
      rw [ht] at hw
      cases hw
      refine sg_tup (sgs_cons (sg_name (i := 2) (sgs_cons (sg_name (i := 2) (sgs_cons (sg_name (i := 3) (sgs_nil ?_) sc_all_stands.nd)) sc_all_stands.nd)) sc_all_stands.nd))
      refine sss_cons ?_
      refine ss_setlc2 (i := 1) (own := [("stand", 4), ("word", 5)]) (vs1 := [5]) (.nm 4) (.nm 5) rfl sc_all_stands.nd rfl rfl (by rfl) (blkOk_by (N := ["slots", "stands", "_", "words", "stand", "word"]) (sc := defScope s_all_stands) (by decide +kernel)) (by decide) rfl rfl (fun _ _ _ _ _ => (pg_name (i := 4) sc_all_stands.nd rfl (Or.inl rfl))) (fun _ _ _ _ _ => (pg_name (i := 5) sc_all_stands.nd rfl (Or.inl rfl))) (by intro _; rfl) (by intro _ _; rfl) ?_
      refine si_lst ?_
      refine se_var (i := 1) rfl ?_
      refine ⟨_, hq, fun mu2 e2 => e2 _ _ hq, fun _ => stW t.2.2, growW, ?_, fun w hw => ?_, fun Dd hD => ?_⟩
      · rw [grow_W, List.length_map, ← raw_take ht]
        exact Nat.le_trans (sz _) (by decide)
      · obtain ⟨st, hst, rfl⟩ := List.mem_map.mp hw
        refine ⟨_, rfl, fun mu2 e2 s Hs C cl fp => ?_⟩
        refine si_tup ?_
        refine se_var (i := 3) rfl ?_
        refine ⟨rfl, rfl, fun _ _ => trivial, fun u2 hu2 => ⟨_, rfl, fun mu3 e3 s Hs C cl fp => ?_⟩⟩
        refine se_tup ?_
        refine sa_star ?_
        refine se_var (i := 4) rfl ?_
        refine sa_cons ?_
        refine se_var (i := 5) rfl ?_
        refine sa_nil ?_
        refine ⟨?_, rfl, rfl⟩
        have := raw_each (ss.take i) [[]] 0 (by simp) st hst
        rw [List.length_append, stW, List.length_map, this, List.length_take]
        have hi := (List.getElem?_eq_some_iff.mp ht).1
        show 0 + min i ss.length + 1 ≤ sizeLine
        exact Nat.le_trans (by omega : _ ≤ 33) (by decide)
      · refine sss_nil ⟨e1.trans (Ext.refl.set hD), Dd, some (.str t.2.1), some (nmW t.2.2), z, u, ?_, rfl⟩
        rw [setM_same, grow_W, ← raw_take ht]
  · subst eG
    rw [List.length_map, List.take_length] at hq
    refine sss_cons (ss_ret ?_)
    refine se_tupleC ?_ B.tuple
    refine se_sorted hr ?_ B.sorted
    refine se_var (i := 1) rfl ?_
    have nE : ∀ st ∈ raw ss, st ≠ [] := fun st hst z => by
      have := raw_each ss [[]] 0 (by simp) st hst
      rw [z] at this
      cases ss with
      | nil => exact ne rfl
      | cons a r => simp at this
    obtain ⟨s1, s2, s3, s4⟩ := sort_stands nE
    refine ⟨_, hq, s1, s2, s3, ?_, s4, fun p np => ?_⟩
    · rw [List.length_map]
      have := sz ss.length
      rw [List.take_length] at this
      exact Nat.le_trans this (by decide)
    · exact ⟨_, setM_same, h _ (e1.trans (Ext.refl.set np))⟩
end
end K1
set_option Elab.async false
set_option linter.all false
set_option maxRecDepth 100000
/-! Instances of own classes by values: made, their fields stored, their methods called. -/
namespace Dv
open PySem L2
section
variable {K : PySem.W.Frag} {H : Hp}
theorem DKV.putF : ∀ {fs : List (Str × W)} {vs : List (Str × V)} {f : Str} {w : W} {v : V}, DKV K H fs vs → Den K H w v → DKV K H (putW fs f w) (putF f v vs)
  | [], _, f, w, v, d, dv => by
    rw [d.nil]
    exact DKV.mk dv ⟨rfl, rfl⟩
  | (j, u) :: r, _, f, w, v, d, dv => by
    obtain ⟨v', vs', rfl, d1, d2⟩ := d.cons
    unfold putW L2.putF
    by_cases e : j = f
    · rw [if_pos e, if_pos e]
      first
        | exact DKV.mk dv d2
        | (subst e; exact DKV.mk dv d2)
    · rw [if_neg e, if_neg e]
      exact DKV.mk d1 (DKV.putF d2 dv)
end
/-- a method as it stands behind the top -/
structure MDfn (K : PySem.W.Frag) (Cl : Addr) (m qual : Str) (st : Stmt) (ps : List Str) : Prop where
  ex : ∃ f fd, Fun K m qual st f fd ∧ Meth K Cl m f ∧ Binds K fd ps []
structure MetOk (P : Program) (w : World) (K : PySem.W.Frag) (mg : Str → Option Value) (base : Heap) (Cl : Addr) (m : Str) (ps : List Str) (k : Nat) (S : SpW) : Prop where
  ex : ∃ f fd, FnOk P w K mg base CX0 k f fd ps (spW K S) ∧ Meth K Cl m f ∧ Binds K fd ps []
structure MakOk (P : Program) (w : World) (K : PySem.W.Frag) (mg : Str → Option Value) (base : Heap) (x : Str) (Cl : Addr) (ps : List Str) (k : Nat) (S : SpW) : Prop where
  ex : ∃ f fd, FnOk P w K mg base CX0 k f fd ps (spW K S) ∧ Mk K Cl f ∧ mg x = some (.ref Cl) ∧ Binds K fd ps []
structure KDfn (K : PySem.W.Frag) (mg : Str → Option Value) (x : Str) (Cl : Addr) (qual : Str) (st : Stmt) (ps : List Str) : Prop where
  ex : ∃ f fd, Fun K "__init__" qual st f fd ∧ Mk K Cl f ∧ mg x = some (.ref Cl) ∧ Binds K fd ps []
section
variable {P : Program} {w : World} {K : PySem.W.Frag} {mg : Str → Option Value} {base : Heap}
theorem metOk {Cl : Addr} {m qual : Str} {st : Stmt} {N ps : List Str} {k : Nat} {S : SpW} (D : MDfn K Cl m qual st ps) (Sc : FnScope N ps (defScope st)) (len : ∀ ws mu P, S ws mu P → ws.length = ps.length)
    (body : ∀ (f : Addr) (cdv : Value) (A : Around) (outer : List Env) (s : Shared) (H : Hp) (E : XK), Room k (A.deeper (PyProof.Rows.envOfC qual (defScope st) s.heap.objs.size f cdv)) → ∀ ws mu Pt, S ws mu Pt →
      SSs (cxOf CX0 P w K mg base N qual (defScope st) f cdv A outer s H E).nox (defBody st) (startW N ws) mu { nx := fun _ mu' => Pt .non mu', rt := Pt }) : MetOk P w K mg base Cl m ps (k + 1) S := by
  obtain ⟨f, fd, F, hm, hb⟩ := D.ex
  exact ⟨f, fd, okW F Sc len (body f), hm, hb⟩
theorem makOk {x : Str} {Cl : Addr} {qual : Str} {st : Stmt} {N ps : List Str} {k : Nat} {S : SpW} (D : KDfn K mg x Cl qual st ps) (Sc : FnScope N ps (defScope st)) (len : ∀ ws mu P, S ws mu P → ws.length = ps.length)
    (body : ∀ (f : Addr) (cdv : Value) (A : Around) (outer : List Env) (s : Shared) (H : Hp) (E : XK), Room k (A.deeper (PyProof.Rows.envOfC qual (defScope st) s.heap.objs.size f cdv)) → ∀ ws mu Pt, S ws mu Pt →
      SSs (cxOf CX0 P w K mg base N qual (defScope st) f cdv A outer s H E).nox (defBody st) (startW N ws) mu { nx := fun _ mu' => Pt .non mu', rt := Pt }) : MakOk P w K mg base x Cl ps (k + 1) S := by
  obtain ⟨f, fd, F, hm, hg, hb⟩ := D.ex
  exact ⟨f, fd, okW F Sc len (body f), hm, hg, hb⟩
end
section
variable {X : Cx} {e a b c : Expr} {es : List Expr} {st : Stmt} {sts : List Stmt} {G : Gs} {mu mu' : Mu} {pos p apos cpos : Pos} {P : PW1}
theorem newIns {K : PySem.W.Frag} {H : Hp} {x Cl dx : Addr} {vs : List (Str × V)} {fs : List (Str × W)} (d : DKV K H fs vs) : ∀ H', (∀ a xs, SqT K H a xs → SqT K H' a xs) → H' x = some (.ins Cl dx vs) → CellOk K H' x (.ins Cl fs) := fun H' st h => ⟨dx, vs, h, d.1, DenAll.mono st _ d.2⟩
/-- self.f = e -/
theorem ss_fld {E : WE} {f : Str} {pos' : Pos} (h : SE X e G mu fun w mu1 => SE X a G mu1 fun o mu2 => ∃ aa Cl fs, o = .m aa ∧ mu2 aa = some (.ins Cl fs) ∧ Cls X.K Cl ∧ NoAttr X.K Cl f ∧ fs.length < 1000 ∧ E.nx G (setM mu2 aa (.ins Cl (putW fs f w))))
    (hs : swapsWith e (some (.Attribute a f pos')) pos.line X.env = pure false := by rfl) : SS X (.Assign [.Attribute a f pos'] e pos) G mu E :=
  SS.mk (ps_fld peE peE hs) fun σ H D d m k => h σ H _ d m fun v w mu1 H1 h1 c1 d1 m1 => h1 σ H1 _ (c1.denG m d) m1 fun x o mu2 H2 h2 c2 d2 m2 => by
    obtain ⟨aa, Cl, fs, rfl, e0, hc, hn, hl, q⟩ := h2
    have d2 : x = .ref aa := d2
    subst d2
    obtain ⟨dx, vs, hx, dk⟩ := m2 aa _ e0
    have dk : DKV X.K H2 fs vs := dk
    have d1 := c2.den m1 d1
    obtain ⟨c4, m4⟩ := wrote (o := .ins Cl dx (L2.putF f v vs)) (c := .ins Cl (putW fs f w)) m2 e0 (newIns (dx := dx) (dk.putF d1))
    have cc := c1.trans c2
    refine ⟨aa, Cl, dx, vs, rfl, hx, hc, hn, ?_, k.nx _ _ _ _ q (cc.trans c4) (c4.denG m2 (cc.denG m d)) m4⟩
    have := congrArg List.length dk.1
    simp only [List.length_map] at this
    omega
/-- C(e, ..) -/
theorem se_make {x : Str} {Cl : Addr} {ps : List Str} {k : Nat} {S : SpW} (D : MakOk X.prog X.w X.K X.mg X.base x Cl ps k S) (hr : Room (k + 1) X.A) (h : SA X (e :: es) G mu fun ws mu1 => ∀ y, mu1 y = none → S (.m y :: ws) (setM mu1 y (.ins Cl [])) fun w mu2 => w = .non ∧ P (.m y) mu2)
    (hg : Gl X x := by rfl) (hdb : (x == ("__debug__" : Str)) = false := by decide) (he : starEach (e :: es) X.env = (false, eval e X.env) :: starEach es X.env := by rfl) (hpl : (backTo pos (starEach es X.env)).any (·.1) = false := by rfl) : SE X (.Call (.Name x p) (e :: es) [] pos) G mu P := by
  obtain ⟨f, fd, F, hm, hgm, hb⟩ := D.ex
  exact SE.mk (pe_make hm F hr hg hgm hb .nil pass0 paA hdb he hpl) fun σ H Q d m k => h σ H _ d m fun vs ws mu1 H1 h1 c1 d1 m1 => fun y dx hy hdx ne => by
    obtain ⟨c2, m2⟩ := laid (o := .own y) m1 hdx
    have hy2 : upd H1 dx (.own y) y = none := by rw [upd_ne fun z => ne z.symm]; exact hy
    obtain ⟨c3, m3⟩ := laidC (o := .ins Cl dx []) (c := .ins Cl []) m2 hy2 (newIns (dx := dx) (fs := []) ⟨rfl, rfl⟩)
    refine ⟨_, _, _, h1 y (m1.dom hy), ⟨_, _, rfl, rfl, ?_⟩, m3, fun v w mu4 H4 h4 c4 d4 m4 => ?_⟩
    · rw [List.append_nil]
      exact c3.denAll m2 (c2.denAll m1 d1)
    · obtain ⟨rfl, q⟩ := h4
      exact ⟨d4, k _ _ _ _ q (((c1.trans c2).trans c3).trans c4) rfl m4⟩
/-- o.m(e, ..) -/
theorem se_meth {mn : Str} {Cl : Addr} {ps : List Str} {k : Nat} {S : SpW} {o : Expr} {pl : Sem Bool} (D : MetOk X.prog X.w X.K X.mg X.base Cl mn ps k S) (hc : Cls X.K Cl) (hr : Room k X.A)
    (h : SE X o G mu fun w mu1 => ∃ aa fs, w = .m aa ∧ mu1 aa = some (.ins Cl fs) ∧ valW fs mn = none ∧ SA X (e :: es) G mu1 fun ws mu2 => S (.m aa :: ws) mu2 P)
    (he : starEach (e :: es) X.env = (false, eval e X.env) :: starEach es X.env := by rfl) (hpl : (backTo pos (starEach es X.env)).any (·.1) = false := by rfl)
    (hev : eval (.Call (.Attribute o mn apos) (e :: es) [] pos) X.env = (do
      let ov ← eval o X.env
      standAt apos.atName
      let __x ← holding [ov] (getMethod ov mn pl)
      match __x with
        | (f, first) => callWith pos f first (backTo pos (starEach (e :: es) X.env)) (backToKw pos (keywordEach [] X.env))) := by rfl) : SE X (.Call (.Attribute o mn apos) (e :: es) [] pos) G mu P := by
  obtain ⟨f, fd, F, hm, hb⟩ := D.ex
  exact SE.mk (pe_meth peE hc hm F hr hb .nil pass0 paA he hpl hev) fun σ H Q d m k => h σ H _ d m fun v w mu1 H1 h1 c1 d1 m1 => by
    obtain ⟨aa, fs, rfl, e0, hn, h2⟩ := h1
    have d1 : v = .ref aa := d1
    subst d1
    obtain ⟨dx, vs, hx, dk⟩ := m1 aa _ e0
    refine ⟨aa, dx, vs, rfl, hx, (lookup_valV vs mn).trans (DKV.getN (K := X.K) (H := H1) dk hn), h2 σ H1 _ (c1.denG m d) m1 fun vs' ws mu2 H2 h3 c2 d2 m2 => ⟨_, _, P, h3, ⟨_, _, rfl, rfl, ?_⟩, m2, k.step (c1.trans c2)⟩⟩
    rw [List.append_nil]
    exact d2
end
end Dv
set_option Elab.async false
set_option linter.all false
set_option maxRecDepth 100000
namespace K1
open PySem L2 Dv
section
variable {P : Program} {w : World} {K : PySem.W.Frag} {mg : Str → Option Value} {base : Heap}
abbrev s_is_world : Stmt := top 16
theorem sc_is_world : FnScope ["houses", "slots", "bears", "never", "lapses", "first", "lapse"] ["houses", "slots", "bears", "never", "lapses"] (defScope s_is_world) := ⟨rfl, rfl, rfl, by decide +kernel, rfl, by decide +kernel, by decide +kernel⟩
structure PsOk (ss : List Slot) (ps : List Pat) : Prop where
  each : ∀ p ∈ ps, PtOk ss p ∧ p ≠ []
  up : rising (ps.map ptW) = true
  len : ps.length ≤ 10
  no : oneHolds ss (firstS ss) ps = false
structure WdOk (v : Wd) : Prop where
  hs : HsOk v.houses
  ss : SsOk v.houses v.slots
  bears : PsOk v.slots v.bears
  some_ : v.bears ≠ []
  never : PsOk v.slots v.never
  len : v.lapses.length ≤ 4
  each : ∀ l ∈ v.lapses, LpOk v.slots l
theorem first_ok {hs : List Str} {ss : List Slot} (h : SsOk hs ss) : StOk ss (firstS ss) := by
  refine ⟨by unfold firstS; rw [List.length_map], fun x hx => ?_⟩
  obtain ⟨t, ht, rfl⟩ := List.mem_map.mp hx
  have := (h.each t ht)
  cases e : t.2.2 with
  | nil => have := this.lo; rw [e] at this; simp at this
  | cons a r => exact this.wm a (by rw [e]; simp)
theorem shaped_pts {ss : List Slot} {ps : List Pat} (nm : SsNm ss) (h : ∀ p ∈ ps, ∀ q ∈ p, PrOk ss q) : SeqAt.shaped (dat (ptsW ps)) = true := by
  unfold SeqAt.shaped ptsW
  simp only [dat, PyData.depth, PyData.canLay0]
  rw [dats_map]
  have := depth_all (fun p : Pat => dat (ptW p)) (n := 2) (xs := ps) fun p _ => depth_pt p
  rw [lay_all _ fun p hp => lay_pt (pt_names nm (h p hp)), decide_eq_true (by omega)]
  rfl
def S_is_world : SpW := S_t fun ws mu => ∃ v : Wd, ws = [nmW v.houses, slsW v.slots, ptsW v.bears, ptsW v.never, lpsW v.lapses] ∧ WdOk v
theorem d_is_world (D : Dfn K mg "is_world" s_is_world ["houses", "slots", "bears", "never", "lapses"]) (B : Bl mg) (D_are_houses : DefOk P w K mg base "are_houses" ["value"] 3 S_are_houses) (D_are_slots : DefOk P w K mg base "are_slots" ["houses", "value"] 4 S_are_slots) (D_are_full_patterns : DefOk P w K mg base "are_full_patterns" ["slots", "value"] 4 S_are_full) (D_first_stand : DefOk P w K mg base "first_stand" ["slots"] 1 S_first) (D_one_holds : DefOk P w K mg base "one_holds" ["slots", "patterns", "stand"] 2 S_one) (D_is_tuple : DefOk P w K mg base "is_tuple" ["value", "least", "most"] 1 S_is_tuple) (D_is_lapse : DefOk P w K mg base "is_lapse" ["slots", "value"] 5 S_is_lapse) : DefOk P w K mg base "is_world" ["houses", "slots", "bears", "never", "lapses"] 6 S_is_world := by
  refine dfnOk D sc_is_world (fun ws mu P ⟨⟨v, e, _⟩, _⟩ => by rw [e]; rfl) (fun f cdv A outer s H E hr ws mu Pt ⟨⟨v, e, ok⟩, h⟩ => ?_)
  subst e
  have hu65 : (A.deeper (PyProof.Rows.envOfC "is_world" (defScope s_is_world) s.heap.objs.size f cdv)).units + 65 < cLine := by have := hr.un; omega
  refine sss_cons ?_
  refine ss_if ?_
  refine st_of_w ?_
  refine sw_or ?_
  refine st_not ?_
  refine st_val ?_
  refine se_callD D_are_houses (hr.mono (by decide)) ?_
  refine sa_cons ?_
  refine se_var (i := 0) rfl ?_  -- houses
  refine sa_nil ?_
  have nm := ok.ss.nm ok.hs
  refine ⟨⟨v.houses, rfl, ok.hs⟩, fun mu1 e1 => ?_⟩
  refine sw_or1 ?_
  refine st_not ?_
  refine st_val ?_
  refine se_callD D_are_slots (hr.mono (by decide)) ?_
  refine sa_cons ?_
  refine se_var (i := 0) rfl ?_  -- houses
  refine sa_cons ?_
  refine se_var (i := 1) rfl ?_  -- slots
  refine sa_nil ?_
  refine ⟨⟨v.houses, v.slots, rfl, ok.hs, ok.ss⟩, fun mu2 e2 => ?_⟩
  refine sss_nil ?_
  refine sss_cons ?_
  refine ss_if ?_
  refine st_of_w ?_
  refine sw_or ?_
  refine st_not ?_
  refine st_val ?_
  refine se_callD D_are_full_patterns (hr.mono (by decide)) ?_
  refine sa_cons ?_
  refine se_var (i := 1) rfl ?_  -- slots
  refine sa_cons ?_
  refine se_var (i := 2) rfl ?_  -- bears
  refine sa_nil ?_
  refine ⟨⟨v.slots, v.bears, rfl, nm, ok.bears.each, ok.bears.up, ok.bears.len⟩, fun mu3 e3 => ?_⟩
  refine sw_or ?_
  refine st_not ?_
  refine st_val ?_
  refine se_callD D_are_full_patterns (hr.mono (by decide)) ?_
  refine sa_cons ?_
  refine se_var (i := 1) rfl ?_  -- slots
  refine sa_cons ?_
  refine se_var (i := 3) rfl ?_  -- never
  refine sa_nil ?_
  refine ⟨⟨v.slots, v.never, rfl, nm, ok.never.each, ok.never.up, ok.never.len⟩, fun mu4 e4 => ?_⟩
  refine sw_or1 ?_
  refine st_cmp (op_eqD hr.units) eq_w (nomark _) ?_  -- bears == ()
  refine se_var (i := 2) rfl ?_  -- bears
  refine se_tup ?_
  refine sa_nil ?_
  refine ⟨by decide, ?_⟩
  refine ⟨dat (ptsW v.bears), dat (.tup []), ?_, rfl, shaped_pts nm fun p hp => (ok.bears.each p hp).1.pr, by decide, ?_⟩
  · show (if plW (ptsW v.bears) = true then some (dat (ptsW v.bears)) else none) = _
    rw [if_pos (by unfold ptsW plW; exact plains_map _ plain_pt _)]
  have en : PyData.eqv (dat (ptsW v.bears)) (dat (W.tup [])) = false := by
    cases e : v.bears with
    | nil => exact absurd e ok.some_
    | cons q r => simp [ptsW, dat, dats, PyData.eqv, PyData.eqvAll]
  rw [en]
  refine sss_nil ?_
  refine sss_cons ?_
  refine ss_asg ?_
  refine se_callD D_first_stand (hr.mono (by decide)) ?_
  refine sa_cons ?_
  refine se_var (i := 1) rfl ?_  -- slots
  refine sa_nil ?_
  refine ⟨v.slots, rfl, Nat.le_trans ok.ss.hi (by decide), fun t ht z => ?_, fun mu5 e5 => ?_⟩
  · have := (ok.ss.each t ht).lo
    rw [z] at this
    simp at this
  refine sg_name (i := 5) ?_ sc_is_world.nd  -- first =
  refine sss_cons ?_
  refine ss_if ?_
  refine st_of_w ?_
  refine sw_or ?_
  refine st_val ?_
  refine se_callD D_one_holds (hr.mono (by decide)) ?_
  refine sa_cons ?_
  refine se_var (i := 1) rfl ?_  -- slots
  refine sa_cons ?_
  refine se_var (i := 2) rfl ?_  -- bears
  refine sa_cons ?_
  refine se_var (i := 5) rfl ?_  -- first
  refine sa_nil ?_
  refine ⟨v.slots, v.bears, firstS v.slots, rfl, nm, ok.ss.nd, first_ok ok.ss, fun p hp => ⟨(ok.bears.each p hp).1.pr, Nat.le_trans (ok.bears.each p hp).1.len (by decide)⟩, ok.bears.len, fun mu6 e6 => ?_⟩
  rw [ok.bears.no]
  refine sw_or1 ?_
  refine st_val ?_
  refine se_callD D_one_holds (hr.mono (by decide)) ?_
  refine sa_cons ?_
  refine se_var (i := 1) rfl ?_  -- slots
  refine sa_cons ?_
  refine se_var (i := 3) rfl ?_  -- never
  refine sa_cons ?_
  refine se_var (i := 5) rfl ?_  -- first
  refine sa_nil ?_
  refine ⟨v.slots, v.never, firstS v.slots, rfl, nm, ok.ss.nd, first_ok ok.ss, fun p hp => ⟨(ok.never.each p hp).1.pr, Nat.le_trans (ok.never.each p hp).1.len (by decide)⟩, ok.never.len, fun mu7 e7 => ?_⟩
  rw [ok.never.no]
  refine sss_nil ?_
  refine sss_cons ?_
  refine ss_ret ?_
  refine se_and ?_
  refine se_callD D_is_tuple (hr.mono (by decide)) ?_
  refine sa_cons ?_
  refine se_var (i := 4) rfl ?_  -- lapses
  refine sa_cons ?_
  refine se_int ?_  -- 0
  refine sa_cons ?_
  refine se_int ?_  -- 4
  refine sa_nil ?_
  refine ⟨_, 0, 4, rfl, fun r mu8 e e8 => ?_⟩
  refine bW_t (bit (a := 0) (b := 4) e (Nat.zero_le _) (by rw [List.length_map]; exact ok.len)) ?_
  refine se_one ?_
  refine se_all ?_ B.all
  refine se_lc (own := [("lapse", 6)]) (.nm 6) rfl sc_is_world.nd (blkOk_by (N := ["houses", "slots", "bears", "never", "lapses", "first", "lapse"]) (sc := defScope s_is_world) (by decide +kernel)) rfl (fun _ _ _ _ _ => (pg_name (i := 6) sc_is_world.nd rfl (Or.inl rfl))) (by intro _; rfl) ?_  -- [is_lapse(slots, lapse) for lapse in lapses]
  refine si_tup ?_
  refine se_var (i := 4) rfl ?_  -- lapses
  refine lc_all_t (fun _ _ => trivial) (by rw [List.length_map]; exact lt10 (Nat.le_trans ok.len (by decide))) InBlk.mono ?_ ?_
  · intro w mu' hw he
    obtain ⟨t, ht, rfl⟩ := List.mem_map.mp hw
    refine ⟨_, rfl, fun s H C cl fp => ?_⟩
    refine se_callD D_is_lapse (hr.mono (by decide)) ?_
    refine sa_cons ?_
    refine se_var (i := 1) rfl ?_  -- slots
    refine sa_cons ?_
    refine se_var (i := 6) rfl ?_  -- lapse
    refine sa_nil ?_
    exact ⟨⟨v.slots, t, rfl, nm, ok.each t ht⟩, fun mu4 e4 => ⟨rfl, e4⟩⟩
  exact fun mu9 e9 => h _ ((((((((e1.trans e2).trans e3).trans e4).trans e5).trans e6).trans e7).trans e8).trans e9)
end
end K1
set_option Elab.async false
set_option linter.all false
set_option maxRecDepth 100000
namespace K1
open PySem L2 Dv
def ExtBut (y : Addr) (mu mu' : Mu) : Prop := ∀ a c, a ≠ y → mu a = some c → mu' a = some c
theorem ExtBut.refl {y : Addr} {mu : Mu} : ExtBut y mu mu := fun _ _ _ h => h
theorem ExtBut.ext {y : Addr} {mu mu' mu2 : Mu} (e : ExtBut y mu mu') (e2 : Ext mu' mu2) : ExtBut y mu mu2 := fun a c h ha => e2 a c (e a c h ha)
theorem ExtBut.set {y : Addr} {mu mu' : Mu} {c : C} (e : ExtBut y mu mu') : ExtBut y mu (setM mu' y c) := fun a d h ha => by rw [setM_ne h]; exact e a d h ha
theorem ExtBut.all {y : Addr} {mu mu' : Mu} (e : ExtBut y mu mu') (h : mu y = none) : Ext mu mu' := fun a d ha => e a d (fun z => by rw [z, h] at ha; cases ha) ha
/-! worlds as instances -/
def wdFs (v : Wd) : List (Str × W) := [("houses", nmW v.houses), ("slots", slsW v.slots), ("bears", ptsW v.bears), ("never", ptsW v.never), ("lapses", lpsW v.lapses), ("first", nmW (firstS v.slots)), ("stands", .tup (standsW v.slots))]
structure WCls (K : PySem.W.Frag) (mg : Str → Option Value) (Cl : Addr) : Prop where
  cls : Cls K Cl
  houses : NoAttr K Cl "houses"
  slots : NoAttr K Cl "slots"
  bears : NoAttr K Cl "bears"
  never : NoAttr K Cl "never"
  lapses : NoAttr K Cl "lapses"
  first : NoAttr K Cl "first"
  stands : NoAttr K Cl "stands"
  glob : mg "World" = some (.ref Cl)
theorem raw_ok {hs : List Str} {ss : List Slot} (h : ∀ s ∈ ss, ∀ x ∈ s.2.2, NmOk x) : ∀ st ∈ raw ss, StOk ss st := by
  intro st hst
  refine ⟨by have := raw_each ss [[]] 0 (by simp) st hst; omega, ?_⟩
  have : ∀ (ss : List Slot) (acc : List (List Str)), (∀ s ∈ ss, ∀ x ∈ s.2.2, NmOk x) → (∀ st ∈ acc, ∀ x ∈ st, NmOk x) → ∀ st ∈ (ss.map (·.2.2)).foldl grow acc, ∀ x ∈ st, NmOk x := by
    intro ss
    induction ss with
    | nil => intro acc _ h2 st hst; exact h2 st hst
    | cons s ss ih =>
      intro acc h1 h2 st hst
      refine ih (grow acc s.2.2) (fun t ht => h1 t (by simp [ht])) (fun st hst => ?_) st hst
      unfold grow at hst
      obtain ⟨a, ha, hst⟩ := List.mem_flatMap.mp hst
      obtain ⟨x, hx, rfl⟩ := List.mem_map.mp hst
      intro y hy
      rcases List.mem_append.mp hy with hy | hy
      · exact h2 a ha y hy
      · rw [List.mem_singleton] at hy
        subst hy
        exact h1 s (by simp) y hx
  exact this ss [[]] h (by simp) st hst
theorem eqvAll_st : ∀ a b : List Str, PyData.eqvAll (dats (stW a)) (dats (stW b)) = decide (a = b)
  | [], [] => by simp [stW, dats, PyData.eqvAll]
  | [], y :: b => by simp [stW, dats, PyData.eqvAll]
  | x :: a, [] => by simp [stW, dats, PyData.eqvAll]
  | x :: a, y :: b => by
    have := eqvAll_st a b
    unfold stW at this ⊢
    simp only [List.map_cons, dats, dat, PyData.eqvAll, this, eqv_str]
    by_cases e : x = y <;> by_cases e' : a = b <;> simp [e, e']
theorem eqv_nm (a b : List Str) : PyData.eqv (dat (nmW a)) (dat (nmW b)) = decide (a = b) := by
  unfold nmW
  simp only [dat, PyData.eqv]
  exact eqvAll_st a b
theorem lay_nm {a : List Str} (h : ∀ x ∈ a, NmOk x) : (dat (nmW a)).canLay0 = true := by
  unfold nmW stW
  simp only [dat, PyData.canLay0]
  rw [dats_map]
  exact lay_all _ fun x hx => nm_ok (h x hx)
theorem shaped_nm {a : List Str} (h : ∀ x ∈ a, NmOk x) : SeqAt.shaped (dat (nmW a)) = true := by
  unfold SeqAt.shaped
  rw [lay_nm h, decide_eq_true (Nat.le_trans (depth_nm a) (by decide))]
  rfl
theorem standsW_mem {ss : List Slot} {u : W} : u ∈ standsW ss ↔ ∃ st ∈ raw ss, nmW st = u := by
  unfold standsW
  rw [(List.mergeSort_perm _ _).mem_iff, List.mem_map]
section
variable {P : Program} {w : World} {K : PySem.W.Frag} {mg : Str → Option Value} {base : Heap} {Cl : Addr}
abbrev s_World___init__ : Stmt := inClass (top 15) 0
theorem sc_World___init__ : FnScope ["self", "houses", "slots", "bears", "never", "lapses"] ["self", "houses", "slots", "bears", "never", "lapses"] (defScope s_World___init__) := ⟨rfl, rfl, rfl, by decide +kernel, rfl, by decide +kernel, by decide +kernel⟩
def S_init (Cl : Addr) : SpW := fun ws mu P => ∃ y v mu0, ws = [.m y, nmW v.houses, slsW v.slots, ptsW v.bears, ptsW v.never, lpsW v.lapses] ∧ mu0 y = none ∧ mu = setM mu0 y (.ins Cl []) ∧ WdOk v ∧ ∀ mu', Ext mu0 mu' → mu' y = some (.ins Cl (wdFs v)) → P .non mu'
theorem ss_self {X : Cx} {e : Expr} {G : Gs} {mu : Mu} {pos pos' p : Pos} {E : WE} {f : Str} {y Cl : Addr} {fs fs' : List (Str × W)} (hN : X.N[0]? = some ("self" : Str)) (hG : G[0]? = some (some (.m y))) (hv : Vis X.env.scope ("self" : Str)) (hc : Cls X.K Cl) (hn : NoAttr X.K Cl f)
    (h : SE X e G mu fun w mu1 => mu1 y = some (.ins Cl fs) ∧ fs.length < 100 ∧ putW fs f w = fs' ∧ E.nx G (setM mu1 y (.ins Cl fs')))
    (hs : swapsWith e (some (.Attribute (.Name ("self" : Str) p) f pos')) pos.line X.env = pure false := by rfl) : SS X (.Assign [.Attribute (.Name ("self" : Str) p) f pos'] e pos) G mu E := by
  refine ss_fld ?_ hs
  refine h.imp fun w mu1 ⟨h1, h2, h3, h4⟩ => ?_
  refine se_var (i := 0) hG ?_ hN hv
  subst h3
  exact ⟨y, Cl, fs, rfl, h1, hc, hn, by omega, h4⟩
theorem d_World_init (D : KDfn K mg "World" Cl "World.__init__" s_World___init__ ["self", "houses", "slots", "bears", "never", "lapses"]) (C : WCls K mg Cl) (B : Bl mg) (D_is_world : DefOk P w K mg base "is_world" ["houses", "slots", "bears", "never", "lapses"] 6 S_is_world) (D_first_stand : DefOk P w K mg base "first_stand" ["slots"] 1 S_first) (D_all_stands : DefOk P w K mg base "all_stands" ["slots"] 1 S_all) : MakOk P w K mg base "World" Cl ["self", "houses", "slots", "bears", "never", "lapses"] 7 (S_init Cl) := by
  refine makOk D sc_World___init__ (fun ws mu P ⟨y, v, mu0, e, _⟩ => by rw [e]; rfl) (fun f cdv A outer s H E hr ws mu Pt ⟨y, v, mu0, e, hy, em, ok, h⟩ => ?_)
  subst e em
  refine sss_cons ?_
  refine ss_if ?_
  refine st_not ?_
  refine st_val ?_
  refine se_callD D_is_world (hr.mono (by decide)) ?_
  refine sa_cons (se_var (i := 1) rfl (sa_cons (se_var (i := 2) rfl (sa_cons (se_var (i := 3) rfl (sa_cons (se_var (i := 4) rfl (sa_cons (se_var (i := 5) rfl (sa_nil ?_))))))))))
  refine ⟨⟨v, rfl, ok⟩, fun mu1 e1 => ?_⟩
  refine sss_nil ?_
  have hy1 : mu1 y = some (.ins Cl []) := e1 _ _ setM_same
  refine sss_cons ?_
  refine ss_self (fs := []) (fs' := [("houses", nmW v.houses)]) rfl rfl (Or.inl rfl) C.cls C.houses ?_
  refine se_var (i := 1) rfl ?_
  refine ⟨hy1, (by simp), putW_new (show ("houses" : Str) ∉ ([] : List Str) by decide +kernel), ?_⟩
  refine sss_cons ?_
  refine ss_self (fs := [("houses", nmW v.houses)]) (fs' := [("houses", nmW v.houses), ("slots", slsW v.slots)]) rfl rfl (Or.inl rfl) C.cls C.slots ?_
  refine se_var (i := 2) rfl ?_
  refine ⟨setM_same, (by simp), putW_new (show ("slots" : Str) ∉ (["houses"] : List Str) by decide +kernel), ?_⟩
  refine sss_cons ?_
  refine ss_self (fs := [("houses", nmW v.houses), ("slots", slsW v.slots)]) (fs' := [("houses", nmW v.houses), ("slots", slsW v.slots), ("bears", ptsW v.bears)]) rfl rfl (Or.inl rfl) C.cls C.bears ?_
  refine se_var (i := 3) rfl ?_
  refine ⟨setM_same, (by simp), putW_new (show ("bears" : Str) ∉ (["houses", "slots"] : List Str) by decide +kernel), ?_⟩
  refine sss_cons ?_
  refine ss_self (fs := [("houses", nmW v.houses), ("slots", slsW v.slots), ("bears", ptsW v.bears)]) (fs' := [("houses", nmW v.houses), ("slots", slsW v.slots), ("bears", ptsW v.bears), ("never", ptsW v.never)]) rfl rfl (Or.inl rfl) C.cls C.never ?_
  refine se_var (i := 4) rfl ?_
  refine ⟨setM_same, (by simp), putW_new (show ("never" : Str) ∉ (["houses", "slots", "bears"] : List Str) by decide +kernel), ?_⟩
  refine sss_cons ?_
  refine ss_self (fs := [("houses", nmW v.houses), ("slots", slsW v.slots), ("bears", ptsW v.bears), ("never", ptsW v.never)]) (fs' := [("houses", nmW v.houses), ("slots", slsW v.slots), ("bears", ptsW v.bears), ("never", ptsW v.never), ("lapses", lpsW v.lapses)]) rfl rfl (Or.inl rfl) C.cls C.lapses ?_
  refine se_var (i := 5) rfl ?_
  refine ⟨setM_same, (by simp), putW_new (show ("lapses" : Str) ∉ (["houses", "slots", "bears", "never"] : List Str) by decide +kernel), ?_⟩
  have nm := ok.ss.nm ok.hs
  have ne : ∀ t ∈ v.slots, 1 ≤ t.2.2.length := fun t ht => Nat.le_trans (by decide) (ok.ss.each t ht).lo
  refine sss_cons ?_
  refine ss_self (fs := [("houses", nmW v.houses), ("slots", slsW v.slots), ("bears", ptsW v.bears), ("never", ptsW v.never), ("lapses", lpsW v.lapses)]) (fs' := [("houses", nmW v.houses), ("slots", slsW v.slots), ("bears", ptsW v.bears), ("never", ptsW v.never), ("lapses", lpsW v.lapses), ("first", nmW (firstS v.slots))]) rfl rfl (Or.inl rfl) C.cls C.first ?_
  refine se_callD D_first_stand (hr.mono (by decide)) ?_
  refine sa_cons (se_var (i := 2) rfl (sa_nil ?_))
  refine ⟨v.slots, rfl, Nat.le_trans ok.ss.hi (by decide), fun t ht z => ?_, fun mu2 e2 => ?_⟩
  · have := ne t ht
    rw [z] at this
    simp at this
  refine ⟨e2 _ _ setM_same, (by simp), putW_new (show ("first" : Str) ∉ (["houses", "slots", "bears", "never", "lapses"] : List Str) by decide +kernel), ?_⟩
  refine sss_cons ?_
  refine ss_self (fs := [("houses", nmW v.houses), ("slots", slsW v.slots), ("bears", ptsW v.bears), ("never", ptsW v.never), ("lapses", lpsW v.lapses), ("first", nmW (firstS v.slots))]) (fs' := wdFs v) rfl rfl (Or.inl rfl) C.cls C.stands ?_
  refine se_callD D_all_stands (hr.mono (by decide)) ?_
  refine sa_cons (se_var (i := 2) rfl (sa_nil ?_))
  refine ⟨v.slots, rfl, fun z => ?_, Nat.le_trans ok.ss.hi (by decide), ne, ok.ss.many, fun mu3 e3 => ?_⟩
  · have := ok.ss.lo
    rw [z] at this
    simp at this
  refine ⟨e3 _ _ setM_same, (by simp), putW_new (show ("stands" : Str) ∉ (["houses", "slots", "bears", "never", "lapses", "first"] : List Str) by decide +kernel), ?_⟩
  refine sss_nil ?_
  exact h _ ((((((((((((ExtBut.refl.set).ext e1).set).set).set).set).set).ext e2).set).ext e3).set).all hy) setM_same
abbrev s_World_is_stand : Stmt := inClass (top 15) 3
theorem sc_World_is_stand : FnScope ["self", "value"] ["self", "value"] (defScope s_World_is_stand) := ⟨rfl, rfl, rfl, by decide +kernel, rfl, by decide +kernel, by decide +kernel⟩
def S_is_stand (Cl : Addr) : SpW := fun ws mu P => ∃ y v st, ws = [.m y, nmW st] ∧ mu y = some (.ins Cl (wdFs v)) ∧ WdOk v ∧ st ∈ raw v.slots ∧ ∀ mu', Ext mu mu' → P (.bl true) mu'
theorem d_World_is_stand (D : MDfn K Cl "is_stand" "World.is_stand" s_World_is_stand ["self", "value"]) (C : WCls K mg Cl) : MetOk P w K mg base Cl "is_stand" ["self", "value"] 1 (S_is_stand Cl) := by
  refine metOk D sc_World_is_stand (fun ws mu P ⟨y, v, st, e, _⟩ => by rw [e]; rfl) (fun f cdv A outer s H E hr ws mu Pt ⟨y, v, st, e, hy, ok, hst, h⟩ => ?_)
  subst e
  have hu65 : (A.deeper (PyProof.Rows.envOfC "World.is_stand" (defScope s_World_is_stand) s.heap.objs.size f cdv)).units + 65 < cLine := by have := hr.un; omega
  have sm : ∀ t ∈ v.slots, ∀ x ∈ t.2.2, NmOk x := fun t ht => (ok.ss.each t ht).wm
  refine sss_cons ?_
  refine ss_ret ?_
  refine se_cmp (op_inT hu65) (in_w false) (by rfl) ?_  -- value in self.stands
  refine se_var (i := 1) rfl ?_  -- value
  refine se_fld ?_  -- .stands
  refine se_var (i := 0) rfl ?_  -- self
  refine ⟨y, Cl, wdFs v, .tup (standsW v.slots), rfl, hy, C.cls, C.stands, rfl, ?_⟩
  refine ⟨plain_nm st, shaped_nm (raw_ok (hs := v.houses) sm st hst).nm, dats (standsW v.slots), ?_, ?_, ?_⟩
  · show (if plsW (standsW v.slots) = true then some (dats (standsW v.slots)) else none) = _
    rw [if_pos]
    exact plains_all fun u hu => by
      obtain ⟨z, _, rfl⟩ := standsW_mem.mp hu
      exact plain_nm z
  · have : dats (standsW v.slots) = (standsW v.slots).map dat := by
      have := dats_map (fun u : W => u) (standsW v.slots)
      rwa [List.map_id'] at this
    rw [this]
    refine lay_all _ fun u hu => ?_
    obtain ⟨z, hz, rfl⟩ := standsW_mem.mp hu
    exact lay_nm (raw_ok (hs := v.houses) sm z hz).nm
  · have : ((dats (standsW v.slots)).any fun z => PyData.eqv z (dat (nmW st))) = true := by
      have hm := standsW_mem.mpr ⟨st, hst, rfl⟩
      rw [List.any_eq_true]
      exact ⟨_, mem_dats.mpr ⟨_, hm, rfl⟩, by rw [eqv_nm]; simp⟩
    rw [this]
    exact h _ Ext.refl
abbrev s_World__check_stand : Stmt := inClass (top 15) 9
theorem sc_World__check_stand : FnScope ["self", "value"] ["self", "value"] (defScope s_World__check_stand) := ⟨rfl, rfl, rfl, by decide +kernel, rfl, by decide +kernel, by decide +kernel⟩
def S_check_stand (Cl : Addr) : SpW := fun ws mu P => ∃ y v st, ws = [.m y, nmW st] ∧ mu y = some (.ins Cl (wdFs v)) ∧ WdOk v ∧ st ∈ raw v.slots ∧ ∀ mu', Ext mu mu' → P .non mu'
theorem d_World__check_stand (D : MDfn K Cl "_check_stand" "World._check_stand" s_World__check_stand ["self", "value"]) (C : WCls K mg Cl) (D_is_stand : MetOk P w K mg base Cl "is_stand" ["self", "value"] 1 (S_is_stand Cl)) : MetOk P w K mg base Cl "_check_stand" ["self", "value"] 2 (S_check_stand Cl) := by
  refine metOk D sc_World__check_stand (fun ws mu P ⟨y, v, st, e, _⟩ => by rw [e]; rfl) (fun f cdv A outer s H E hr ws mu Pt ⟨y, v, st, e, hy, ok, hst, h⟩ => ?_)
  subst e
  refine sss_cons ?_
  refine ss_if ?_
  refine st_not ?_
  refine st_val ?_
  refine se_meth D_is_stand C.cls (hr.mono (by decide)) ?_
  refine se_var (i := 0) rfl ?_  -- self
  refine ⟨y, wdFs v, rfl, hy, rfl, ?_⟩
  refine sa_cons (se_var (i := 1) rfl (sa_nil ?_))
  refine ⟨y, v, st, rfl, hy, ok, hst, fun mu1 e1 => ?_⟩
  refine sss_nil ?_
  exact sss_nil (h _ e1)
abbrev s_World_has_row : Stmt := inClass (top 15) 6
theorem sc_World_has_row : FnScope ["self", "stand"] ["self", "stand"] (defScope s_World_has_row) := ⟨rfl, rfl, rfl, by decide +kernel, rfl, by decide +kernel, by decide +kernel⟩
def S_has_row (Cl : Addr) : SpW := fun ws mu P => ∃ y v st, ws = [.m y, nmW st] ∧ mu y = some (.ins Cl (wdFs v)) ∧ WdOk v ∧ st ∈ raw v.slots ∧ ∀ mu', Ext mu mu' → P (.bl (oneHolds v.slots st v.bears)) mu'
theorem d_World_has_row (D : MDfn K Cl "has_row" "World.has_row" s_World_has_row ["self", "stand"]) (C : WCls K mg Cl) (D_check : MetOk P w K mg base Cl "_check_stand" ["self", "value"] 2 (S_check_stand Cl)) (D_one_holds : DefOk P w K mg base "one_holds" ["slots", "patterns", "stand"] 2 S_one) : MetOk P w K mg base Cl "has_row" ["self", "stand"] 3 (S_has_row Cl) := by
  refine metOk D sc_World_has_row (fun ws mu P ⟨y, v, st, e, _⟩ => by rw [e]; rfl) (fun f cdv A outer s H E hr ws mu Pt ⟨y, v, st, e, hy, ok, hst, h⟩ => ?_)
  subst e
  refine sss_cons ?_
  refine ss_expr ?_
  refine se_meth D_check C.cls (hr.mono (by decide)) ?_
  refine se_var (i := 0) rfl ?_  -- self
  refine ⟨y, wdFs v, rfl, hy, rfl, ?_⟩
  refine sa_cons (se_var (i := 1) rfl (sa_nil ?_))
  refine ⟨y, v, st, rfl, hy, ok, hst, fun mu1 e1 => ?_⟩
  refine sss_cons ?_
  refine ss_ret ?_
  refine se_callD D_one_holds (hr.mono (by decide)) ?_
  refine sa_cons ?_
  refine se_fld ?_  -- .slots
  refine se_var (i := 0) rfl ?_  -- self
  refine ⟨y, Cl, wdFs v, slsW v.slots, rfl, e1 _ _ hy, C.cls, C.slots, rfl, ?_⟩
  refine sa_cons ?_
  refine se_fld ?_
  refine se_var (i := 0) rfl ?_  -- self
  refine ⟨y, Cl, wdFs v, ptsW v.bears, rfl, e1 _ _ hy, C.cls, C.bears, rfl, ?_⟩
  refine sa_cons ?_
  refine se_var (i := 1) rfl ?_  -- stand
  refine sa_nil ?_
  have sm : ∀ t ∈ v.slots, ∀ x ∈ t.2.2, NmOk x := fun t ht => (ok.ss.each t ht).wm
  refine ⟨v.slots, v.bears, st, rfl, ok.ss.nm ok.hs, ok.ss.nd, raw_ok (hs := v.houses) sm st hst, fun p hp => ⟨(ok.bears.each p hp).1.pr, Nat.le_trans (ok.bears.each p hp).1.len (by decide)⟩, ok.bears.len, fun mu2 e2 => ?_⟩
  exact h _ (e1.trans e2)
abbrev s_World_is_broken : Stmt := inClass (top 15) 7
theorem sc_World_is_broken : FnScope ["self", "stand"] ["self", "stand"] (defScope s_World_is_broken) := ⟨rfl, rfl, rfl, by decide +kernel, rfl, by decide +kernel, by decide +kernel⟩
def S_is_broken (Cl : Addr) : SpW := fun ws mu P => ∃ y v st, ws = [.m y, nmW st] ∧ mu y = some (.ins Cl (wdFs v)) ∧ WdOk v ∧ st ∈ raw v.slots ∧ ∀ mu', Ext mu mu' → P (.bl (oneHolds v.slots st v.never)) mu'
theorem d_World_is_broken (D : MDfn K Cl "is_broken" "World.is_broken" s_World_is_broken ["self", "stand"]) (C : WCls K mg Cl) (D_check : MetOk P w K mg base Cl "_check_stand" ["self", "value"] 2 (S_check_stand Cl)) (D_one_holds : DefOk P w K mg base "one_holds" ["slots", "patterns", "stand"] 2 S_one) : MetOk P w K mg base Cl "is_broken" ["self", "stand"] 3 (S_is_broken Cl) := by
  refine metOk D sc_World_is_broken (fun ws mu P ⟨y, v, st, e, _⟩ => by rw [e]; rfl) (fun f cdv A outer s H E hr ws mu Pt ⟨y, v, st, e, hy, ok, hst, h⟩ => ?_)
  subst e
  refine sss_cons ?_
  refine ss_expr ?_
  refine se_meth D_check C.cls (hr.mono (by decide)) ?_
  refine se_var (i := 0) rfl ?_  -- self
  refine ⟨y, wdFs v, rfl, hy, rfl, ?_⟩
  refine sa_cons (se_var (i := 1) rfl (sa_nil ?_))
  refine ⟨y, v, st, rfl, hy, ok, hst, fun mu1 e1 => ?_⟩
  refine sss_cons ?_
  refine ss_ret ?_
  refine se_callD D_one_holds (hr.mono (by decide)) ?_
  refine sa_cons ?_
  refine se_fld ?_  -- .slots
  refine se_var (i := 0) rfl ?_  -- self
  refine ⟨y, Cl, wdFs v, slsW v.slots, rfl, e1 _ _ hy, C.cls, C.slots, rfl, ?_⟩
  refine sa_cons ?_
  refine se_fld ?_
  refine se_var (i := 0) rfl ?_  -- self
  refine ⟨y, Cl, wdFs v, ptsW v.never, rfl, e1 _ _ hy, C.cls, C.never, rfl, ?_⟩
  refine sa_cons ?_
  refine se_var (i := 1) rfl ?_  -- stand
  refine sa_nil ?_
  have sm : ∀ t ∈ v.slots, ∀ x ∈ t.2.2, NmOk x := fun t ht => (ok.ss.each t ht).wm
  refine ⟨v.slots, v.never, st, rfl, ok.ss.nm ok.hs, ok.ss.nd, raw_ok (hs := v.houses) sm st hst, fun p hp => ⟨(ok.never.each p hp).1.pr, Nat.le_trans (ok.never.each p hp).1.len (by decide)⟩, ok.never.len, fun mu2 e2 => ?_⟩
  exact h _ (e1.trans e2)
end
end K1
set_option Elab.async false
set_option linter.all false
set_option maxRecDepth 100000
/-! Whole numbers by values. -/
namespace Dv
open PySem L2
section
variable {X : Cx} {e a b c : Expr} {es : List Expr} {st : Stmt} {sts : List Stmt} {G : Gs} {mu mu' : Mu} {pos p apos cpos : Pos} {P : PW1}
abbrev iopW (Cc : Int → Int → Prop) (g : Int → Int → Int) (w1 w2 : W) (mu : Mu) (P : PW1) : Prop := match w1, w2 with | .int i, .int j => Cc i j ∧ P (.int (g i j)) mu | _, _ => False
abbrev iop0W (g : Int → Int → Int) (w1 w2 : W) (mu : Mu) (P : PW1) : Prop := match w1, w2 with | .int i, .int j => P (.int (g i j)) mu | _, _ => False
theorem iop_w {Cc : Int → Int → Prop} {g : Int → Int → Int} : OpW X (rI Cc fun i j => .int (g i j)) (iopW Cc g) := fun w1 w2 x y mu H P Q dx dy m h k => by
  unfold iopW at h
  split at h
  · rename_i i j
    exact ⟨i, j, dx, dy, h.1, k.now h.2 rfl m⟩
  · exact h.elim
theorem iop0_w {g : Int → Int → Int} : OpW X (rI0 fun i j => .int (g i j)) (iop0W g) := fun w1 w2 x y mu H P Q dx dy m h k => by
  unfold iop0W at h
  split at h
  · rename_i i j
    exact ⟨i, j, dx, dy, k.now h rfl m⟩
  · exact h.elim
abbrev intW (w : W) (mu : Mu) (P : PW1) : Prop := match w with | .int i => P (.int i) mu | .bl k => P (.int (if k then 1 else 0)) mu | _ => False
theorem int_w : CallW X (fun xs H Q => (∃ i, xs = [.int i] ∧ Q (.int i) H) ∨ ∃ k, xs = [.bl k] ∧ Q (.int (if k then 1 else 0)) H) fun ws mu P => match ws with | [w] => intW w mu P | _ => False := fun ws vs mu H P Q d m h k => by
  dsimp only at h
  split at h
  · rename_i w
    obtain ⟨v, rfl, d0⟩ := d.one
    unfold intW at h
    split at h
    · rename_i i
      exact .inl ⟨i, by rw [show v = .int i from d0], k.now h rfl m⟩
    · rename_i i
      exact .inr ⟨i, by rw [show v = .bl i from d0], k.now h rfl m⟩
    · exact h.elim
  · exact h.elim
theorem se_intC (h : SE X e G mu fun w mu1 => intW w mu1 P) (hm : X.mg "int" = none) (hv : bootBuiltins ("int" : Str) = some (.type "int") := by decide +kernel) (hg : Gl X "int" := by rfl) (hs : starEach [e] X.env = [(false, eval e X.env)] := by rfl) (hpl : (backTo pos (starEach [] X.env)).any (·.1) = false := by rfl) : SE X (.Call (.Name "int" p) [e] [] pos) G mu P :=
  se_bty call_int1 int_w hm (sa_one h hs) hv hg (by decide) (by decide) hs hpl
theorem abs_w : CallW X (fun xs H Q => ∃ i, xs = [.int i] ∧ Q (.int (if i < 0 then -i else i)) H) fun ws mu P => match ws with | [.int i] => P (.int (if i < 0 then -i else i)) mu | _ => False := fun ws vs mu H P Q d m h k => by
  dsimp only at h
  split at h
  · rename_i i
    obtain ⟨v, rfl, d0⟩ := d.one
    exact ⟨i, by rw [show v = .int i from d0], k.now h rfl m⟩
  · exact h.elim
theorem se_absC (h : SE X e G mu fun w mu1 => ∃ i, w = .int i ∧ P (.int (if i < 0 then -i else i)) mu1) (hm : X.mg "abs" = none) (hv : bootBuiltins ("abs" : Str) = some (.builtin "abs") := by decide +kernel) (hg : Gl X "abs" := by rfl) (hs : starEach [e] X.env = [(false, eval e X.env)] := by rfl) (hpl : (backTo pos (starEach [] X.env)).any (·.1) = false := by rfl) : SE X (.Call (.Name "abs" p) [e] [] pos) G mu P :=
  se_blt call_abs abs_w hm (sa_one (h.imp fun w mu' ⟨i, e, q⟩ => by subst e; exact q) hs) hv hg (by decide) (by decide) hs hpl
/-- the power of a base of more than 64 bits -/
theorem op_powW : OpR X (binaryOp .Pow) (rI (fun i j => 0 ≤ j ∧ (PySem.Builtin.Int.intBits i : Int) * j ≤ 2 ^ 27) fun i j => .int (i ^ j.toNat)) := opI fun _ _ _ _ _ _ _ hc q => PyProof.Rows.pow_int hc.1 hc.2 q
theorem op_Add : OpR X (binaryOp .Add) (rI0 fun i j => .int (i + j)) := op_add
theorem op_Sub : OpR X (binaryOp .Sub) (rI0 fun i j => .int (i - j)) := op_sub
theorem op_Mult : OpR X (binaryOp .Mult) (rI (fun i j => CMulW i j) fun i j => .int (i * j)) := op_mulW
theorem op_Mod : OpR X (binaryOp .Mod) (rI (fun i j => 0 < j) fun i j => .int (i % j)) := op_mod
theorem op_FloorDiv : OpR X (binaryOp .FloorDiv) (rI (fun i j => CDivW i j) fun i j => .int (i / j)) := op_fdivW
theorem op_Pow : OpR X (binaryOp .Pow) (rI (fun i j => CPow i j) fun i j => .int (i ^ j.toNat)) := op_pow
abbrev opAddV (w1 w2 : W) (mu : Mu) (P : PW1) : Prop := match w1, w2 with | .int i, .int j => P (.int (i + j)) mu | _, _ => False
theorem Add_w : OpW X (rI0 fun i j => .int (i + j)) opAddV := fun w1 w2 x y mu H P Q dx dy m h k => by
  unfold opAddV at h
  split at h
  · rename_i i j
    exact ⟨i, j, dx, dy, k.now h rfl m⟩
  · exact h.elim
abbrev opSubV (w1 w2 : W) (mu : Mu) (P : PW1) : Prop := match w1, w2 with | .int i, .int j => P (.int (i - j)) mu | _, _ => False
theorem Sub_w : OpW X (rI0 fun i j => .int (i - j)) opSubV := fun w1 w2 x y mu H P Q dx dy m h k => by
  unfold opSubV at h
  split at h
  · rename_i i j
    exact ⟨i, j, dx, dy, k.now h rfl m⟩
  · exact h.elim
abbrev opMultV (w1 w2 : W) (mu : Mu) (P : PW1) : Prop := match w1, w2 with | .int i, .int j => CMulW i j ∧ P (.int (i * j)) mu | _, _ => False
theorem Mult_w : OpW X (rI (fun i j => CMulW i j) fun i j => .int (i * j)) opMultV := fun w1 w2 x y mu H P Q dx dy m h k => by
  unfold opMultV at h
  split at h
  · rename_i i j
    exact ⟨i, j, dx, dy, h.1, k.now h.2 rfl m⟩
  · exact h.elim
abbrev opModV (w1 w2 : W) (mu : Mu) (P : PW1) : Prop := match w1, w2 with | .int i, .int j => 0 < j ∧ P (.int (i % j)) mu | _, _ => False
theorem Mod_w : OpW X (rI (fun i j => 0 < j) fun i j => .int (i % j)) opModV := fun w1 w2 x y mu H P Q dx dy m h k => by
  unfold opModV at h
  split at h
  · rename_i i j
    exact ⟨i, j, dx, dy, h.1, k.now h.2 rfl m⟩
  · exact h.elim
abbrev opFloorDivV (w1 w2 : W) (mu : Mu) (P : PW1) : Prop := match w1, w2 with | .int i, .int j => CDivW i j ∧ P (.int (i / j)) mu | _, _ => False
theorem FloorDiv_w : OpW X (rI (fun i j => CDivW i j) fun i j => .int (i / j)) opFloorDivV := fun w1 w2 x y mu H P Q dx dy m h k => by
  unfold opFloorDivV at h
  split at h
  · rename_i i j
    exact ⟨i, j, dx, dy, h.1, k.now h.2 rfl m⟩
  · exact h.elim
abbrev opPowV (w1 w2 : W) (mu : Mu) (P : PW1) : Prop := match w1, w2 with | .int i, .int j => CPow i j ∧ P (.int (i ^ j.toNat)) mu | _, _ => False
theorem Pow_w : OpW X (rI (fun i j => CPow i j) fun i j => .int (i ^ j.toNat)) opPowV := fun w1 w2 x y mu H P Q dx dy m h k => by
  unfold opPowV at h
  split at h
  · rename_i i j
    exact ⟨i, j, dx, dy, h.1, k.now h.2 rfl m⟩
  · exact h.elim
abbrev opPowWV (w1 w2 : W) (mu : Mu) (P : PW1) : Prop := match w1, w2 with | .int i, .int j => (0 ≤ j ∧ (PySem.Builtin.Int.intBits i : Int) * j ≤ 2 ^ 27) ∧ P (.int (i ^ j.toNat)) mu | _, _ => False
theorem PowW_w : OpW X (rI (fun i j => (0 ≤ j ∧ (PySem.Builtin.Int.intBits i : Int) * j ≤ 2 ^ 27)) fun i j => .int (i ^ j.toNat)) opPowWV := fun w1 w2 x y mu H P Q dx dy m h k => by
  unfold opPowWV at h
  split at h
  · rename_i i j
    exact ⟨i, j, dx, dy, h.1, k.now h.2 rfl m⟩
  · exact h.elim
/-! texts and tuples put together -/
abbrev catW (w1 w2 : W) (mu : Mu) (P : PW1) : Prop := match w1, w2 with | .str i, .str j => i.length + j.length ≤ sizeLine ∧ P (.str (i ++ j)) mu | _, _ => False
theorem cat_w : OpW X (fun x y H Q => ∃ i j, x = .str i ∧ y = .str j ∧ i.length + j.length ≤ sizeLine ∧ Q (.str (i ++ j)) H) catW := fun w1 w2 x y mu H P Q dx dy m h k => by
  unfold catW at h
  split at h
  · rename_i i j
    exact ⟨i, j, dx, dy, h.1, k.now h.2 rfl m⟩
  · exact h.elim
end
end Dv
set_option Elab.async false
set_option linter.all false
set_option maxRecDepth 100000
namespace K1
open PySem L2 Dv
/-- the law's jar: three whole numbers, drawn from at most c times -/
structure JarOk (mu : Mu) (p : Addr) (c : Nat) : Prop where
  ex : ∃ a b n : Int, mu p = some (.lst [.int a, .int b, .int n]) ∧ 0 ≤ a ∧ a < 10 ^ 300 ∧ 0 ≤ b ∧ b < 2 ^ 61 ∧ 0 ≤ n ∧ n ≤ c
theorem JarOk.mono {mu : Mu} {p : Addr} {c c' : Nat} (h : JarOk mu p c) (l : c ≤ c') : JarOk mu p c' := by
  obtain ⟨a, b, n, h1, h2, h3, h4, h5, h6, h7⟩ := h.ex
  exact ⟨a, b, n, h1, h2, h3, h4, h5, h6, by omega⟩
theorem JarOk.ext {mu mu' : Mu} {p : Addr} {c : Nat} (h : JarOk mu p c) (e : Ext mu mu') : JarOk mu' p c := by
  obtain ⟨a, b, n, h1, h2⟩ := h.ex
  exact ⟨a, b, n, e _ _ h1, h2⟩
theorem JarOk.ne {mu : Mu} {p q : Addr} {c : Nat} (h : JarOk mu p c) (hq : mu q = none) : p ≠ q := by
  obtain ⟨a, b, n, h1, h2⟩ := h.ex
  intro z
  rw [z, hq] at h1
  cases h1
theorem JarOk.set {mu : Mu} {p q : Addr} {c : Nat} {x : C} (h : JarOk mu p c) (hq : p ≠ q) : JarOk (setM mu q x) p c := by
  obtain ⟨a, b, n, h1, h2⟩ := h.ex
  exact ⟨a, b, n, by rw [setM_ne hq]; exact h1, h2⟩
theorem log2_lt {n m : Nat} (h : n < 2 ^ m) (hm : 1 ≤ m) : n.log2 < m := by
  by_cases z : n = 0
  · subst z; simp; omega
  · exact (Nat.log2_lt z).mpr h
theorem cmulW {i j : Int} (a b : Nat) (hi : i.natAbs < 2 ^ a) (hj : j.natAbs < 2 ^ b) (ha : 1 ≤ a) (hb : 1 ≤ b) (h : a + b < 1000000) : CMulW i j := by
  have h1 := log2_lt hi ha
  have h2 := log2_lt hj hb
  unfold CMulW
  omega
theorem cdivW {i j : Int} (b : Nat) (h0 : 0 < j) (hj : j.natAbs < 2 ^ b) (hb : 1 ≤ b) (h : b < 9000) : CDivW i j := ⟨h0, by have := log2_lt hj hb; omega⟩
theorem ExtBut.setNew {y q : Addr} {mu mu' : Mu} {c : C} (e : ExtBut y mu mu') (h : mu' q = none) : ExtBut y mu (setM mu' q c) := fun a d hn ha => by
  have := e a d hn ha
  rw [setM_ne (fun z => by rw [z, h] at this; cases this)]
  exact this
theorem ExtBut.trans {y : Addr} {mu mu' mu2 : Mu} (e : ExtBut y mu mu') (e2 : ExtBut y mu' mu2) : ExtBut y mu mu2 := fun a c h ha => e2 a c h (e a c h ha)
theorem Ext.but {y : Addr} {mu mu' : Mu} (e : Ext mu mu') : ExtBut y mu mu' := fun a c _ ha => e a c ha
section
variable {P : Program} {w : World} {K : PySem.W.Frag} {mg : Str → Option Value} {base : Heap}
abbrev s_Ltake : Stmt := top 32
theorem sc_Ltake : FnScope ["_law_jar_here", "_law_many", "_law_digit", "_law_prime", "_law_made_here"] ["_law_jar_here", "_law_many"] (defScope s_Ltake) := ⟨rfl, rfl, rfl, by decide +kernel, rfl, by decide +kernel, by decide +kernel⟩
def S_take : SpW := fun ws mu P => ∃ p m c, ws = [.m p, .int m] ∧ 1 ≤ m ∧ m ≤ 1000 ∧ JarOk mu p c ∧ c < 10000 ∧ ∀ r mu', 0 ≤ r → r < m → JarOk mu' p (c + 1) → ExtBut p mu mu' → P (.int r) mu'
theorem primes (n : Int) (h : 0 ≤ n) : ∃ q : Int, atI [W.int 2147483647, .int 2147483629, .int 2147483587, .int 2147483579, .int 2147483563] (n % 5) = some (.int q) ∧ 0 < q ∧ q < 2147483648 := by
  have h1 : n % 5 = 0 ∨ n % 5 = 1 ∨ n % 5 = 2 ∨ n % 5 = 3 ∨ n % 5 = 4 := by omega
  rcases h1 with h1 | h1 | h1 | h1 | h1 <;> rw [h1] <;> exact ⟨_, rfl, by decide, by decide⟩
theorem d_Ltake (D : Dfn K mg "_law_take" s_Ltake ["_law_jar_here", "_law_many"]) (B : Bl mg) : DefOk P w K mg base "_law_take" ["_law_jar_here", "_law_many"] 1 S_take := by
  refine dfnOk D sc_Ltake (fun ws mu P ⟨p, m, c, e, _⟩ => by rw [e]; rfl) (fun f cdv A outer s H E hr ws mu Pt ⟨p, m, c, e, m1, m2, jar, c1, h⟩ => ?_)
  subst e
  obtain ⟨a, b, n, hp, a0, a1, b0, b1, n0, n1⟩ := jar.ex
  refine sss_cons ?_
  refine ss_if ?_
  refine st_cmp op_gt cmpI_w (nomark _) ?_  -- _law_jar_here[0] > 0
  refine se_ix ?_  -- _law_jar_here[0]
  refine se_var (i := 0) rfl ?_  -- _law_jar_here
  refine se_int ?_  -- 0
  refine ⟨_, _, hp, atI_nat' (i := 0) rfl, ?_⟩
  refine se_int ?_  -- 0
  by_cases ha : 0 < a
  · show if2 (decide (0 < a)) _ _
    rw [decide_eq_true ha]
    refine sss_cons ?_
    refine ss_asg ?_
    refine se_bin op_Mod Mod_w ?_
    refine se_intC ?_ B.int
    refine se_ix ?_  -- _law_jar_here[0]
    refine se_var (i := 0) rfl ?_  -- _law_jar_here
    refine se_int ?_  -- 0
    refine ⟨_, _, hp, atI_nat' (i := 0) rfl, ?_⟩
    refine se_var (i := 1) rfl ?_  -- _law_many
    refine ⟨by omega, ?_⟩
    refine sg_name (i := 2) ?_ sc_Ltake.nd  -- _law_digit =
    refine sss_cons ?_
    refine ss_stL ?_ -- or ss_dput (hu_of hr)
    refine se_bin op_FloorDiv FloorDiv_w ?_
    refine se_ix ?_  -- _law_jar_here[0]
    refine se_var (i := 0) rfl ?_  -- _law_jar_here
    refine se_int ?_  -- 0
    refine ⟨_, _, hp, atI_nat' (i := 0) rfl, ?_⟩
    refine se_var (i := 1) rfl ?_  -- _law_many
    refine ⟨cdivW 10 (by omega) (by omega) (by decide) (by decide), ?_⟩
    refine se_var (i := 0) rfl ?_  -- _law_jar_here
    refine se_int ?_  -- 0
    refine ⟨_, 0, hp, rfl, ?_⟩
    refine sss_cons ?_
    refine ss_ret ?_
    refine se_var (i := 2) rfl ?_  -- _law_digit
    refine h _ _ (Int.emod_nonneg _ (by omega)) (Int.emod_lt_of_pos _ (by omega)) ⟨a / m, b, n, setM_same, Int.ediv_nonneg a0 (by omega), ?_, b0, b1, n0, by omega⟩ ExtBut.refl.set
    exact Int.lt_of_le_of_lt (Int.ediv_le_self _ a0) a1
  · show if2 (decide (0 < a)) _ _
    rw [decide_eq_false ha]
    refine sss_nil ?_
    refine sss_cons ?_
    refine ss_stL ?_ -- or ss_dput (hu_of hr)
    refine se_bin op_Add Add_w ?_
    refine se_ix ?_  -- _law_jar_here[2]
    refine se_var (i := 0) rfl ?_  -- _law_jar_here
    refine se_int ?_  -- 2
    refine ⟨_, _, hp, atI_nat' (i := 2) rfl, ?_⟩
    refine se_int ?_  -- 1
    refine se_var (i := 0) rfl ?_  -- _law_jar_here
    refine se_int ?_  -- 2
    refine ⟨_, 2, hp, rfl, ?_⟩
    have hn : ∃ n', n' = n + 1 := ⟨_, rfl⟩
    obtain ⟨n', hn⟩ := hn
    rw [← hn]
    have n0' : 0 ≤ n' := by omega
    have n1' : n' ≤ 10000 := by omega
    obtain ⟨q, hq, q0, q1⟩ := primes n' n0'
    refine sss_cons ?_
    refine ss_asg ?_
    refine se_ix ?_
    refine se_lst ?_
    refine sa_cons (se_int (sa_cons (se_int (sa_cons (se_int (sa_cons (se_int (sa_cons (se_int (sa_nil ?_))))))))))
    refine ⟨by decide, fun p1 np => ?_⟩
    have hne : p ≠ p1 := fun z => by rw [← z, setM_same] at np; cases np
    have hp2 : setM (setM mu p (.lst [.int a, .int b, .int n'])) p1 (.lst [.int 2147483647, .int 2147483629, .int 2147483587, .int 2147483579, .int 2147483563]) p = some (.lst [.int a, .int b, .int n']) := by rw [setM_ne hne, setM_same]
    refine se_bin op_Mod Mod_w ?_
    refine se_intC ?_ B.int
    refine se_ix ?_  -- _law_jar_here[2]
    refine se_var (i := 0) rfl ?_  -- _law_jar_here
    refine se_int ?_  -- 2
    refine ⟨_, _, hp2, atI_nat' (i := 2) rfl, ?_⟩
    refine se_int ?_  -- 5
    refine ⟨by decide, ?_⟩
    refine ⟨_, _, setM_same, hq, ?_⟩
    refine sg_name (i := 3) ?_ sc_Ltake.nd  -- _law_prime =
    refine sss_cons ?_
    refine ss_asg ?_
    refine se_bin op_Mod Mod_w ?_
    refine se_intC ?_ B.int
    refine se_bin op_Pow Pow_w ?_
    refine se_bin op_Add Add_w ?_
    refine se_bin op_Add Add_w ?_
    refine se_ix ?_  -- _law_jar_here[1]
    refine se_var (i := 0) rfl ?_  -- _law_jar_here
    refine se_int ?_  -- 1
    refine ⟨_, _, hp2, atI_nat' (i := 1) rfl, ?_⟩
    refine se_bin op_Mult Mult_w ?_
    refine se_bin op_Mult Mult_w ?_
    refine se_int ?_  -- 99877
    refine se_ix ?_  -- _law_jar_here[2]
    refine se_var (i := 0) rfl ?_  -- _law_jar_here
    refine se_int ?_  -- 2
    refine ⟨_, _, hp2, atI_nat' (i := 2) rfl, ?_⟩
    refine ⟨cmulW 17 14 (by omega) (by omega) (by decide) (by decide) (by decide), ?_⟩
    refine se_ix ?_  -- _law_jar_here[2]
    refine se_var (i := 0) rfl ?_  -- _law_jar_here
    refine se_int ?_  -- 2
    refine ⟨_, _, hp2, atI_nat' (i := 2) rfl, ?_⟩
    refine ⟨cmulW 31 14 (by omega) (by omega) (by decide) (by decide) (by decide), ?_⟩
    have sq : 99877 * n' * n' ≤ 998770000 * 10000 := Int.mul_le_mul (by omega) (by omega) (by omega) (by omega)
    have sq0 : 0 ≤ 99877 * n' * n' := Int.mul_nonneg (by omega) (by omega)
    have hx : ∃ x, x = 99877 * n' * n' := ⟨_, rfl⟩
    obtain ⟨x, hx⟩ := hx
    rw [← hx] at sq sq0 ⊢
    refine se_int ?_  -- 71
    refine se_int ?_  -- 3
    refine ⟨⟨by decide, by decide, by omega⟩, ?_⟩
    refine se_var (i := 3) rfl ?_  -- _law_prime
    refine ⟨q0, ?_⟩
    have hy : ∃ y, y = (b + x + 71) ^ (3 : Int).toNat % q := ⟨_, rfl⟩
    obtain ⟨y, hy⟩ := hy
    have y0 : 0 ≤ y := by rw [hy]; exact Int.emod_nonneg _ (by omega)
    have y1 : y < q := by rw [hy]; exact Int.emod_lt_of_pos _ q0
    rw [← hy]
    refine sg_name (i := 4) ?_ sc_Ltake.nd  -- _law_made_here =
    refine sss_cons ?_
    refine ss_asg ?_
    refine se_bin op_Mod Mod_w ?_
    refine se_intC ?_ B.int
    refine se_bin op_Mult Mult_w ?_
    refine se_var (i := 4) rfl ?_  -- _law_made_here
    refine se_bin op_Add Add_w ?_
    refine se_bin op_Mod Mod_w ?_
    refine se_intC ?_ B.int
    refine se_var (i := 4) rfl ?_  -- _law_made_here
    refine se_int ?_  -- 10007
    refine ⟨by decide, ?_⟩
    refine se_bin op_Mult Mult_w ?_
    refine se_int ?_  -- 89
    refine se_ix ?_  -- _law_jar_here[2]
    refine se_var (i := 0) rfl ?_  -- _law_jar_here
    refine se_int ?_  -- 2
    refine ⟨_, _, hp2, atI_nat' (i := 2) rfl, ?_⟩
    refine ⟨cmulW 7 14 (by omega) (by omega) (by decide) (by decide) (by decide), ?_⟩
    refine ⟨cmulW 31 20 (by omega) (by omega) (by decide) (by decide) (by decide), ?_⟩
    refine se_int ?_  -- 2305843009213693907
    refine ⟨by decide, ?_⟩
    refine sg_name (i := 4) ?_ sc_Ltake.nd  -- _law_made_here =
    refine sss_cons ?_
    refine ss_ret ?_
    refine se_bin op_Mod Mod_w ?_
    refine se_intC ?_ B.int
    refine se_bin op_FloorDiv FloorDiv_w ?_
    refine se_var (i := 4) rfl ?_  -- _law_made_here
    refine se_int ?_  -- 83
    refine ⟨cdivW 7 (by decide) (by decide) (by decide) (by decide), ?_⟩
    refine se_var (i := 1) rfl ?_  -- _law_many
    refine ⟨by omega, ?_⟩
    exact h _ _ (Int.emod_nonneg _ (by omega)) (Int.emod_lt_of_pos _ (by omega)) ⟨a, b, n', hp2, a0, a1, b0, b1, n0', by omega⟩ (ExtBut.refl.set.setNew np)
end
end K1
set_option Elab.async false
set_option linter.all false
set_option maxRecDepth 100000
namespace K1
open PySem L2 Dv
section
variable {P : Program} {w : World} {K : PySem.W.Frag} {mg : Str → Option Value} {base : Heap}
theorem atI_lt {α : Type} {xs : List α} {r : Int} (h0 : 0 ≤ r) (h1 : r < xs.length) : ∃ x ∈ xs, atI xs r = some x := by
  obtain ⟨n, rfl⟩ : ∃ n : Nat, r = n := ⟨r.toNat, by omega⟩
  have hr : n < xs.length := by omega
  exact ⟨xs[n], List.getElem_mem hr, atI_nat' (List.getElem?_eq_getElem hr)⟩
/-- what _law_of may choose from -/
def OfV (mu : Mu) (p : Addr) (v : W) (us : List W) : Prop := v = .tup us ∨ (∃ a, v = .m a ∧ a ≠ p ∧ mu a = some (.lst us)) ∨ ∃ z : Str, v = .str z ∧ z.length ≤ sizeLine ∧ us = z.cps.toList.map fun c => .str ⟨#[c]⟩
abbrev s_Lof : Stmt := top 33
theorem sc_Lof : FnScope ["_law_jar_here", "_law_some"] ["_law_jar_here", "_law_some"] (defScope s_Lof) := ⟨rfl, rfl, rfl, by decide +kernel, rfl, by decide +kernel, by decide +kernel⟩
def S_of : SpW := fun ws mu P => ∃ p v us c, ws = [.m p, v] ∧ OfV mu p v us ∧ us ≠ [] ∧ us.length ≤ 1000 ∧ JarOk mu p c ∧ c < 10000 ∧ ∀ u mu', u ∈ us → JarOk mu' p (c + 1) → ExtBut p mu mu' → P u mu'
abbrev DTake (P : Program) (w : World) (K : PySem.W.Frag) (mg : Str → Option Value) (base : Heap) : Prop := DefOk P w K mg base "_law_take" ["_law_jar_here", "_law_many"] 1 S_take
abbrev DOf (P : Program) (w : World) (K : PySem.W.Frag) (mg : Str → Option Value) (base : Heap) : Prop := DefOk P w K mg base "_law_of" ["_law_jar_here", "_law_some"] 2 S_of
theorem d_Lof (D : Dfn K mg "_law_of" s_Lof ["_law_jar_here", "_law_some"]) (B : Bl mg) (D_take : DTake P w K mg base) : DOf P w K mg base := by
  refine dfnOk D sc_Lof (fun ws mu P ⟨p, v, us, c, e, _⟩ => by rw [e]; rfl) (fun f cdv A outer s H E hr ws mu Pt ⟨p, v, us, c, e, hv, ne, l1, jar, c1, h⟩ => ?_)
  subst e
  have pos : 1 ≤ us.length := by cases us with | nil => exact absurd rfl ne | cons a r => simp
  refine sss_cons ?_
  refine ss_ret ?_
  refine se_ix ?_
  refine se_var (i := 1) rfl ?_  -- _law_some
  refine se_callD D_take (hr.mono (by decide)) ?_
  refine sa_cons ?_
  refine se_var (i := 0) rfl ?_  -- _law_jar_here
  refine sa_cons ?_
  refine se_len ?_ B.len
  refine se_var (i := 1) rfl ?_  -- _law_some
  rcases hv with rfl | ⟨a, rfl, hne, ha⟩ | ⟨z, rfl, hz, rfl⟩
  · refine sa_nil ?_
    refine ⟨p, _, c, rfl, by omega, by omega, jar, c1, fun r mu' r0 r1 j' e' => ?_⟩
    obtain ⟨x, hx, q⟩ := atI_lt r0 r1
    exact ⟨x, q, h _ _ hx j' e'⟩
  · refine ⟨us, ha, ?_⟩
    refine sa_nil ?_
    refine ⟨p, _, c, rfl, by omega, by omega, jar, c1, fun r mu' r0 r1 j' e' => ?_⟩
    obtain ⟨x, hx, q⟩ := atI_lt r0 r1
    exact ⟨us, x, e' _ _ hne ha, q, h _ _ hx j' e'⟩
  · rw [List.length_map] at pos l1
    refine ⟨hz, ?_⟩
    refine sa_nil ?_
    have el : (z.length : Int) = z.cps.toList.length := by rw [Array.length_toList]; rfl
    refine ⟨p, _, c, rfl, by omega, by omega, jar, c1, fun r mu' r0 r1 j' e' => ?_⟩
    obtain ⟨x, hx, q⟩ := atI_lt r0 (el ▸ r1)
    exact ⟨x, hz, q, h _ _ (List.mem_map.mpr ⟨x, hx, rfl⟩) j' e'⟩
/-! the law's own words of a world, in a dict -/
structure Lore (mu : Mu) (L : Addr) (v : Wd) : Prop where
  ex : ∃ kvs, isDic mu L kvs ∧ valW kvs (.inr "houses") = some (nmW v.houses) ∧ valW kvs (.inr "slots") = some (slsW v.slots) ∧ valW kvs (.inr "bears") = some (ptsW v.bears) ∧ valW kvs (.inr "never") = some (ptsW v.never) ∧ valW kvs (.inr "lapses") = some (lpsW v.lapses)
theorem Lore.ext {mu mu' : Mu} {L : Addr} {v : Wd} (h : Lore mu L v) (e : Ext mu mu') : Lore mu' L v := by
  obtain ⟨kvs, ⟨h1, h2⟩, h3⟩ := h.ex
  exact ⟨kvs, ⟨e _ _ h1, h2⟩, h3⟩
theorem Lore.houses {mu : Mu} {L : Addr} {v : Wd} (h : Lore mu L v) {P : PW1} (q : P (nmW v.houses) mu) : dgW (.m L) (.str "houses") mu P := let ⟨kvs, d, h1, h2, h3, h4, h5⟩ := h.ex; ⟨L, kvs, .inr "houses", _, rfl, d.1, rfl, h1, q⟩
theorem Lore.slots {mu : Mu} {L : Addr} {v : Wd} (h : Lore mu L v) {P : PW1} (q : P (slsW v.slots) mu) : dgW (.m L) (.str "slots") mu P := let ⟨kvs, d, h1, h2, h3, h4, h5⟩ := h.ex; ⟨L, kvs, .inr "slots", _, rfl, d.1, rfl, h2, q⟩
theorem Lore.bears {mu : Mu} {L : Addr} {v : Wd} (h : Lore mu L v) {P : PW1} (q : P (ptsW v.bears) mu) : dgW (.m L) (.str "bears") mu P := let ⟨kvs, d, h1, h2, h3, h4, h5⟩ := h.ex; ⟨L, kvs, .inr "bears", _, rfl, d.1, rfl, h3, q⟩
theorem Lore.never {mu : Mu} {L : Addr} {v : Wd} (h : Lore mu L v) {P : PW1} (q : P (ptsW v.never) mu) : dgW (.m L) (.str "never") mu P := let ⟨kvs, d, h1, h2, h3, h4, h5⟩ := h.ex; ⟨L, kvs, .inr "never", _, rfl, d.1, rfl, h4, q⟩
theorem Lore.lapses {mu : Mu} {L : Addr} {v : Wd} (h : Lore mu L v) {P : PW1} (q : P (lpsW v.lapses) mu) : dgW (.m L) (.str "lapses") mu P := let ⟨kvs, d, h1, h2, h3, h4, h5⟩ := h.ex; ⟨L, kvs, .inr "lapses", _, rfl, d.1, rfl, h5, q⟩
def fiveW (v : Wd) : List W := [nmW v.houses, slsW v.slots, ptsW v.bears, ptsW v.never, lpsW v.lapses]
abbrev s_Lfive : Stmt := top 44
theorem sc_Lfive : FnScope ["_law_lore"] ["_law_lore"] (defScope s_Lfive) := ⟨rfl, rfl, rfl, by decide +kernel, rfl, by decide +kernel, by decide +kernel⟩
def S_five : SpW := fun ws mu P => ∃ L v, ws = [.m L] ∧ Lore mu L v ∧ P (.tup (fiveW v)) mu
theorem d_Lfive (D : Dfn K mg "_law_five" s_Lfive ["_law_lore"]) : DefOk P w K mg base "_law_five" ["_law_lore"] 1 S_five := by
  refine dfnOk D sc_Lfive (fun ws mu P ⟨L, v, e, _⟩ => by rw [e]; rfl) (fun f cdv A outer s H E hr ws mu Pt ⟨L, v, e, lore, h⟩ => ?_)
  subst e
  refine sss_cons ?_
  refine ss_ret ?_
  refine se_tup ?_
  refine sa_cons (se_dget (hu_of hr) (se_var (i := 0) rfl (se_str (lore.houses ?_))))
  refine sa_cons (se_dget (hu_of hr) (se_var (i := 0) rfl (se_str (lore.slots ?_))))
  refine sa_cons (se_dget (hu_of hr) (se_var (i := 0) rfl (se_str (lore.bears ?_))))
  refine sa_cons (se_dget (hu_of hr) (se_var (i := 0) rfl (se_str (lore.never ?_))))
  refine sa_cons (se_dget (hu_of hr) (se_var (i := 0) rfl (se_str (lore.lapses ?_))))
  refine sa_nil ?_
  exact ⟨Nat.le_trans (by simp : _ ≤ 5) (by decide), h⟩
abbrev s_Lmade : Stmt := top 36
theorem sc_Lmade : FnScope ["_law_lore"] ["_law_lore"] (defScope s_Lmade) := ⟨rfl, rfl, rfl, by decide +kernel, rfl, by decide +kernel, by decide +kernel⟩
def S_made (Cl : Addr) : SpW := fun ws mu P => ∃ L v, ws = [.m L] ∧ Lore mu L v ∧ WdOk v ∧ ∀ y mu', mu y = none → Ext mu mu' → mu' y = some (.ins Cl (wdFs v)) → P (.m y) mu'
theorem d_Lmade {Cl : Addr} (D : Dfn K mg "_law_made" s_Lmade ["_law_lore"]) (D_World : MakOk P w K mg base "World" Cl ["self", "houses", "slots", "bears", "never", "lapses"] 7 (S_init Cl)) : DefOk P w K mg base "_law_made" ["_law_lore"] 9 (S_made Cl) := by
  refine dfnOk D sc_Lmade (fun ws mu P ⟨L, v, e, _⟩ => by rw [e]; rfl) (fun f cdv A outer s H E hr ws mu Pt ⟨L, v, e, lore, ok, h⟩ => ?_)
  subst e
  refine sss_cons ?_
  refine ss_ret ?_
  refine se_make D_World (hr.mono (by decide)) ?_
  refine sa_cons (se_dget (hu_of hr) (se_var (i := 0) rfl (se_str (lore.houses ?_))))
  refine sa_cons (se_dget (hu_of hr) (se_var (i := 0) rfl (se_str (lore.slots ?_))))
  refine sa_cons (se_dget (hu_of hr) (se_var (i := 0) rfl (se_str (lore.bears ?_))))
  refine sa_cons (se_dget (hu_of hr) (se_var (i := 0) rfl (se_str (lore.never ?_))))
  refine sa_cons (se_dget (hu_of hr) (se_var (i := 0) rfl (se_str (lore.lapses ?_))))
  refine sa_nil fun y hy => ?_
  exact ⟨y, v, mu, rfl, hy, rfl, ok, fun mu' e' hc => ⟨rfl, h y mu' hy e' hc⟩⟩
abbrev s_Lfirst : Stmt := top 37
theorem sc_Lfirst : FnScope ["_law_lore", "_law_name", "_law_house", "_law_words"] ["_law_lore"] (defScope s_Lfirst) := ⟨rfl, rfl, rfl, by decide +kernel, rfl, by decide +kernel, by decide +kernel⟩
def S_Lfirst : SpW := fun ws mu P => ∃ L v, ws = [.m L] ∧ Lore mu L v ∧ v.slots.length ≤ 10 ∧ (∀ s ∈ v.slots, s.2.2 ≠ []) ∧ ∀ mu', Ext mu mu' → P (nmW (firstS v.slots)) mu'
theorem d_Lfirst (D : Dfn K mg "_law_first" s_Lfirst ["_law_lore"]) (B : Bl mg) : DefOk P w K mg base "_law_first" ["_law_lore"] 1 S_Lfirst := by
  refine dfnOk D sc_Lfirst (fun ws mu P ⟨L, v, e, _⟩ => by rw [e]; rfl) (fun f cdv A outer s H E hr ws mu Pt ⟨L, v, e, lore, len, ne, h⟩ => ?_)
  subst e
  refine sss_cons ?_
  refine ss_ret ?_
  refine se_tupleC ?_ B.tuple
  refine se_lc (own := [("_law_name", 1), ("_law_house", 2), ("_law_words", 3)]) (.tp [(.nm 1), (.nm 2), (.nm 3)]) rfl sc_Lfirst.nd (blkOk_by (N := ["_law_lore", "_law_name", "_law_house", "_law_words"]) (sc := defScope s_Lfirst) (by decide +kernel)) rfl (fun _ _ _ _ _ => (pg_tup rfl (pgs_cons (pg_name (i := 1) sc_Lfirst.nd rfl (Or.inl rfl)) (pgs_cons (pg_name (i := 2) sc_Lfirst.nd rfl (Or.inl rfl)) (pgs_cons (pg_name (i := 3) sc_Lfirst.nd rfl (Or.inl rfl)) pgs_nil))))) (by intro _; rfl) ?_
  refine si_tup ?_
  refine se_dget (hu_of hr) (se_var (i := 0) rfl (se_str (lore.slots ?_)))
  refine lc_pure (fun w => match w with | .tup [_, _, .tup (x :: _)] => x | _ => .str "") (fun _ _ => trivial) (by rw [List.length_map]; exact lt10 len) ?_ InBlk.mono ?_
  · intro w mu' hw he
    obtain ⟨t, ht, rfl⟩ := List.mem_map.mp hw
    refine ⟨_, rfl, fun s H C cl fp => ?_⟩
    refine se_ix ?_  -- words[0]
    refine se_var (i := 3) rfl ?_  -- words
    refine se_int ?_  -- 0
    obtain ⟨n, ho, wd⟩ := t
    cases wd with
    | nil => exact absurd rfl (ne _ ht)
    | cons x r => exact ⟨.str x, atI_nat' (i := 0) rfl, rfl, Ext.refl⟩
  have em : (v.slots.map slW1).map (fun w => match w with | .tup [_, _, .tup (x :: _)] => x | _ => W.str "") = stW (firstS v.slots) := by
    unfold stW firstS
    rw [List.map_map, List.map_map]
    refine List.map_congr_left fun t ht => ?_
    obtain ⟨n, ho, wd⟩ := t
    cases wd with
    | nil => rfl
    | cons x r => rfl
  rw [em]
  intro D mu' hD he he2
  exact ⟨_, setM_same, h _ he2⟩
end
end K1
set_option Elab.async false
set_option linter.all false
set_option maxRecDepth 100000
/-! enumerate by values: over a list, over a tuple. -/
namespace PySem
open Sem (wp)
def enumO (n : Addr) : Obj := { cls := .type "enumerate", data := .fields #[.none, .bool false, .ref n, rawInt 0, .none, .none] }
set_option maxHeartbeats 1100000 in
theorem enum1_meets {v : Value} {o : Obj} {Hh : Heap → Prop} (B : Begins v o Hh) : Meets (Builtin.«enumerate.__new__» ⟨[.type "enumerate", v], []⟩) fun _ R s => Hh s.heap ∧ R (.ok (.ret (.ref (s.heap.push o).objs.size))) { s with heap := (s.heap.push o).push (enumO s.heap.objs.size) } :=
  .of_wp fun pr ww A R sh hyp => by
    obtain ⟨hp, gl, dd, tk, os⟩ := sh
    obtain ⟨hy1, hy2⟩ := hyp
    have subE := sub_enumerate
    have itr : ∀ {A2 : Around} {E2 Q2 : Value → Shared → Prop}, Q2 (.ref hp.objs.size) ⟨hp.push o, gl, dd, tk, os⟩ → wpAny (model pr ww) A2 (pyIter v) Q2 E2 ⟨hp, gl, dd, tk, os⟩ := fun q => B.iter pr ww _ _ ⟨hp, gl, dd, tk, os⟩ _ hy1 q
    wp_walk using itr
    refine wpAny_stack_any fun stk => wpAny_pure ?_
    split
    · rename_i cc _ _ _ _ _
      cases (cc == Value.type "enumerate") <;> (wp_walk using itr) <;> exact ⟨_, rfl, hy2⟩
    · wp_walk using itr
      exact ⟨_, rfl, hy2⟩
theorem enum1_begins {prog : Program} {w : World} {A : Around} {E Q : Value → Shared → Prop} {s : Shared} {v : Value} {o : Obj} {Hh : Heap → Prop} (B : Begins v o Hh) (hs : Hh s.heap)
    (k : ∀ h', IsEnum h' (s.heap.objs.size + 1) s.heap.objs.size 0 .none → h'.get? s.heap.objs.size = some o → (∀ b ob, s.heap.get? b = some ob → h'.get? b = some ob) → Q (.ref (s.heap.objs.size + 1)) { s with heap := h' }) : wpAny (model prog w) A (call (.type "enumerate") [v]) Q E s := by
  refine callType_new F.called_enumerate (by decide) (F.typeCall_enumerate_1 _) (F.newCall_enumerate_1 _) (fun obj => F.args_object_init_2 obj _) F.entry_enumerate_new (enum1_meets B) ⟨hs, ?_⟩
  have sz : (s.heap.push o).objs.size = s.heap.objs.size + 1 := Heap.size_push ..
  have he : IsEnum ((s.heap.push o).push (enumO s.heap.objs.size)) (s.heap.objs.size + 1) s.heap.objs.size 0 .none := by
    have q := Heap.get?_push_size (s.heap.push o) (o := enumO s.heap.objs.size) rfl
    rw [sz] at q
    exact q
  show _ ∧ _
  rw [sz]
  exact ⟨⟨_, he, rfl⟩, k _ he (Heap.get?_push_of_some _ (Heap.get?_push_size _ B.free)) fun b ob x => Heap.get?_push_of_some _ (Heap.get?_push_of_some _ x)⟩
end PySem
namespace L2
open PySem
/-- the tuple at a, each item in a new pair behind its number -/
def IteT (K : PySem.W.Frag) (a : Addr) : It where
  go := fun i H => ∃ (xs : List V) (x : V), SqT K H a xs ∧ xs[i]? = some x
  yld := fun i H v H' => ∃ T x, v = .ref T ∧ H T = none ∧ H' = upd H T (.tup [.int (i : Nat), x]) ∧ ∀ xs, SqT K H a xs → xs[i]? = some x
  stop := fun i H => ∃ xs : List V, SqT K H a xs ∧ xs.length ≤ i
theorem turn_enumT {P : Program} {w : World} {K : PySem.W.Frag} {elts : List Expr} {kk : Nat} {tpos : Pos} (a e it : Addr) : Turn P w K (.Tuple elts kk tpos) (IteT K a) [e, it] e (fun i h => (∃ old, IsEnum h e it ((i : Nat) : Int) old) ∧ h.IsTupleIter it a i ∧ e ≠ it) where
  mem := by simp
  obj := fun i h ⟨⟨old, he⟩, ⟨o, ho, hc, hd⟩, _⟩ b hb => by
    rcases (by simpa using hb : b = e ∨ b = it) with rfl | rfl
    · exact ⟨_, he, fun v q => by cases q⟩
    · exact ⟨o, ho, fun v q => by rw [hd] at q; cases q⟩
  keep := fun i h h' ⟨⟨old, he⟩, hi, hne⟩ k => ⟨⟨old, k e (by simp) _ he⟩, hi.at fun o q => k it (by simp) o q, hne⟩
  item := by
    intro X hP hw hK hc i pins s σ H E I hf ⟨⟨old, he⟩, hit, hne⟩ ⟨xs, x, hq, hx⟩
    subst hP hw hK
    (obtain ⟨its, rv, p, hz⟩ := I.tuple hq; obtain ⟨u, hu, ru⟩ := rv.get hx)
    have pt : s.heap.IsTuple a its.toArray := p
    have hel : e < s.heap.objs.size ∧ it < s.heap.objs.size := ⟨Heap.lt_size he, let ⟨_, q, _⟩ := hit; Heap.lt_size q⟩
    obtain ⟨hel, hil⟩ := hel
    have hea : e ≠ a := fun z => by
      obtain ⟨o, ho, hcl, _⟩ := pt
      rw [← z] at ho
      have := Option.some.inj (he.symm.trans ho)
      rw [← this] at hcl
      injection hcl with q
      exact absurd q (by decide)
    have hia : a ≠ it := fun z => by
      obtain ⟨o, ho, hcl, _⟩ := pt
      obtain ⟨o', ho', hcl', _⟩ := hit
      rw [z] at ho
      have := Option.some.inj (ho.symm.trans ho')
      rw [← this, hcl] at hcl'
      injection hcl' with q
      exact absurd q (by decide)
    refine wpAny_pyNext_enum_itemD (Draws.tuple (A := X.A.in1) (show X.A.in1.handled = none from I.ok.hd hc) it a hia its.toArray) he ⟨hit, pt⟩ (by have := (List.getElem?_eq_some_iff.mp hu).1; simpa using this) hne (by simp [hne, hea]) fun y h' tk hy ho st' hT hsz hk => ?_
    have hy : u = y := by
      rw [List.getElem?_toArray, hu] at hy
      exact Option.some.inj hy
    subst hy
    refine ⟨_, rfl, wpAny_letOwnedTupleGo_enum (s := { s with heap := h', toks := tk + 1 }) ho fun h'' he' sb => ?_⟩
    have hT2 : h''.get? s.heap.objs.size = some { cls := .type "tuple", data := .seq #[.int i tk, u] } := (sb.2 _ (Nat.ne_of_gt hel)).trans hT
    have new : ObjOk X.prog X.w (upd H s.heap.objs.size (.tup [.int (i : Nat), x])) h'' s.heap.objs.size (.tup [.int (i : Nat), x]) := ⟨by show 2 ≤ sizeLine; decide, [.int i tk, u], .cons ⟨_, rfl⟩ (.cons ru .nil), ⟨_, hT2, rfl, _, rfl⟩⟩
    have J : Inv X pins σ (upd H s.heap.objs.size (.tup [.int (i : Nat), x])) { s with heap := h'', toks := tk + 1 } := I.turnedNew (ch := [e, it]) (fun b ob hb q => (sb.2 b (fun z => hb (by simp [z]))).trans (hk b ob (fun z => hb (by simp [z])) (fun z => hb (by simp [z])) q)) hf (Nat.le_refl _) new
    refine ⟨.ref s.heap.objs.size, _, J, rfl, ⟨_, x, rfl, I.hok.fresh (Nat.le_refl _), rfl, fun ys hy => by rw [I.tuple_inj hy hq]; exact hx⟩, ⟨⟨u, ?_⟩, st'.1.at fun o q => (sb.2 it (Ne.symm hne)).trans q, hne⟩, fun b hb => ?_⟩
    · rw [show ((i + 1 : Nat) : Int) = (i : Int) + 1 by omega]
      exact he'
    · have hlt : b < s.heap.objs.size := by rcases (by simpa using hb : b = e ∨ b = it) with z | z <;> rw [z] <;> assumption
      exact (upd_ne (Nat.ne_of_lt hlt)).trans (hf b hb).1
  done := by
    intro X hP hw hK hc i pins s σ H E I hf ⟨⟨old, he⟩, hit, hne⟩ ⟨xs, hq, hx⟩
    subst hP hw hK
    (obtain ⟨its, rv, p, hz⟩ := I.tuple hq; have pt : s.heap.IsTuple a its.toArray := p; obtain ⟨f0, f1, f2, f3, f4, f5⟩ := hf it (by simp))
    have no : its.toArray[i]? = none := by
      have := rv.length
      simp
      omega
    have DD : Draws X.prog X.w X.A.in1 it [it, a] 0 (fun _ _ => True) fun _ h => h.IsTupleIter it a i ∧ h.IsTuple a its.toArray :=
      { live := fun _ _ st => let ⟨o, ho, _⟩ := st.1; ⟨o, ho⟩
        frame := fun _ _ _ st hk => ⟨st.1.at fun o q => hk it (by simp) o q, st.2.at fun o q => hk a (by simp) o q⟩
        item := fun j _ _ _ hj => absurd hj (Nat.not_lt_zero j)
        done := fun _ _ _ st hE => wpAny_nextOf_tuple_end (show X.A.in1.handled = none from I.ok.hd hc) st.1 st.2 no hE }
    exact wpAny_pyNext_enum_endD DD he ⟨hit, pt⟩ fun h' eb => ⟨rfl, I.turned (t' := s.toks) (fun b ob hb q => eb b ob hb q) f0 f1 f3 f4 f5⟩
  self := fun _ _ _ _ _ st k => let ⟨⟨_, he⟩, _⟩ := st; wpAny_pyIter_enum he k
end L2
namespace L2
open PySem
def iEnumT (K : PySem.W.Frag) (ta : TA) : TI := fun σ H R => ta σ H fun vs H1 => ∃ a xs, vs = [.ref a] ∧ SqT K H1 a xs ∧ R (IteT K a) H1
theorem pi_enumT {X : Cx} {e : Expr} {ta : TA} {p pos tpos : Pos} {elts : List Expr} {kk : Nat} (hg : Gl X "enumerate") (hm : X.mg "enumerate" = none) (ha : PA X [e] ta) (hs : starEach [e] X.env = [(false, eval e X.env)] := by rfl) : PI X (.Tuple elts kk tpos) (.Call (.Name "enumerate" p) [e] [] pos) (iEnumT X.K ta) :=
  ⟨fun pins s σ H R I h => PyProof.Rows.Call_ (ld_blt I hg hm PyProof.Rows.boot_enumerate (PyProof.Rows.callWith_type1 (thn (ha.run pos pins s σ H _ I h) fun us s1 ⟨vs, H1, I1, r1, q1⟩ => by
    (obtain ⟨a, xs, ex, hq, q⟩ := q1; subst ex)
    obtain _ | ⟨r, rr⟩ := r1
    cases rr
    cases r
    obtain ⟨its, rv, p', hz⟩ := I1.tuple hq
    refine enum1_begins (begins_tuple a its.toArray) p' fun h' he hit hk => wpAny_pyIter_enum he ?_
    refine ⟨s1.heap.objs.size + 1, [s1.heap.objs.size + 1, s1.heap.objs.size], _, _, H1, rfl, I1.kept (t' := s1.toks) hk, turn_enumT a (s1.heap.objs.size + 1) s1.heap.objs.size, ⟨⟨.none, he⟩, ⟨_, hit, rfl, rfl⟩, Nat.succ_ne_self _⟩, fun b hb => ?_, q⟩
    have hle : s1.heap.objs.size ≤ b ∧ True := by
      refine ⟨?_, trivial⟩
      rcases (by simpa using hb : b = s1.heap.objs.size + 1 ∨ b = s1.heap.objs.size) with z | z <;> rw [z]
      · exact Nat.le_add_right _ _
      · exact Nat.le_refl _
    exact I1.fpOk hle.1 (I1.hok.fresh hle.1)) hs rfl))⟩
end L2
namespace Dv
open PySem L2
def enumW (ws : List W) : List W := ws.mapIdx fun i w => W.tup [.int (i : Nat), w]
theorem enumW_len (ws : List W) : (enumW ws).length = ws.length := by unfold enumW; simp
theorem enumW_get (ws : List W) (i : Nat) : (enumW ws)[i]? = (ws[i]?).map fun w => W.tup [.int (i : Nat), w] := by unfold enumW; simp
section
variable {X : Cx} {e a b c : Expr} {es : List Expr} {G : Gs} {mu mu' : Mu} {pos p : Pos} {P : PW1} {K : PySem.W.Frag} {H : Hp}
theorem itw_enumT {q : Addr} {xs : List V} {ws : List W} (m : HM K H mu) (s : SqT K H q xs) (d : DenAll K H ws xs) : ItW K (IteT K q) (enumW ws) (fun _ => True) mu H := by
  refine ⟨fun H' => SqT K H' q xs, fun i H1 v H2 => ∃ T x, v = .ref T ∧ H1 T = none ∧ H2 = upd H1 T (.tup [.int (i : Nat), x]) ∧ xs[i]? = some x, ⟨fun i H' hi h' => ?_, fun H' h' => ⟨xs, h', ?_⟩, fun i H' x H'' hi h' ⟨T, y, h1, h2, h3, h4⟩ => ⟨T, y, h1, h2, h3, h4 _ h'⟩⟩, fun mu' H' c m' _ => c.sqt m q xs s, fun i H1 v H2 mu' hi c m' _ ⟨T, x, hv, hT, hH, hx⟩ => ?_⟩
  · rw [enumW_len, d.length] at hi
    exact ⟨xs, xs[i], h', by simp [hi]⟩
  · rw [enumW_len, d.length]
    exact Nat.le_refl _
  · subst hv hH
    obtain ⟨w, h1, h2⟩ := (c.denAll m d).get hx
    obtain ⟨c2, m2⟩ := laid (o := .tup [.int (i : Nat), x]) m' hT
    exact ⟨.tup [.int (i : Nat), w], by rw [enumW_get, h1]; rfl, c2, m2, T, _, rfl, SqT.of upd_same, .int (i : Nat), [x], rfl, rfl, x, [], rfl, c2.den m' h2, rfl⟩
theorem itw_enumL {q : Addr} {ws : List W} (m : HM K H mu) (h : mu q = some (.lst ws)) : ItW K (Ite K q) (enumW ws) (fun mu' => mu' q = some (.lst ws)) mu H := by
  refine ⟨fun H' => ∃ ys, SqL K H' q ys ∧ DenAll K H' ws ys, fun i H1 v H2 => ∃ T x ys, v = .ref T ∧ H1 T = none ∧ H2 = upd H1 T (.tup [.int (i : Nat), x]) ∧ DenAll K H1 ws ys ∧ ys[i]? = some x, ⟨fun i H' hi ⟨ys, s, d'⟩ => ?_, fun H' ⟨ys, s, d'⟩ => ⟨ys, s, ?_⟩, fun i H' x H'' hi ⟨ys, s, d'⟩ ⟨T, y, h1, h2, h3, h4⟩ => ⟨T, y, ys, h1, h2, h3, d', h4 _ s⟩⟩, fun mu' H' c m' g => ?_, fun i H1 v H2 mu' hi c m' _ ⟨T, x, ys, hv, hT, hH, d', hx⟩ => ?_⟩
  · rw [enumW_len, d'.length] at hi
    exact ⟨ys, ys[i], s, by simp [hi]⟩
  · rw [enumW_len, d'.length]
    exact Nat.le_refl _
  · obtain ⟨ys, h1, h2⟩ := m' q _ g
    exact ⟨ys, SqL.of h1, h2⟩
  · subst hv hH
    obtain ⟨w, h1, h2⟩ := d'.get hx
    obtain ⟨c2, m2⟩ := laid (o := .tup [.int (i : Nat), x]) m' hT
    exact ⟨.tup [.int (i : Nat), w], by rw [enumW_get, h1]; rfl, c2, m2, T, _, rfl, SqT.of upd_same, .int (i : Nat), [x], rfl, rfl, x, [], rfl, c2.den m' h2, rfl⟩
theorem si_enumT {elts : List Expr} {kk : Nat} {tpos : Pos} {Post : List W → (Mu → Prop) → Mu → Prop} (h : SE X e G mu fun w mu1 => match w with | .tup ws => Post (enumW ws) (fun _ => True) mu1 | _ => False) (hm : X.mg "enumerate" = none) (hg : Gl X "enumerate" := by rfl) (hs : starEach [e] X.env = [(false, eval e X.env)] := by rfl) : SI X (.Tuple elts kk tpos) (.Call (.Name "enumerate" p) [e] [] pos) G mu Post :=
  SI.mk (pi_enumT hg hm (pa_cons peE pa_nil hs) hs) fun σ H R d m k => h σ H _ d m fun v w mu1 H1 h1 c1 d1 m1 => by
    cases w with
    | tup ws =>
      obtain ⟨q, xs, rfl, s, d2⟩ := d1
      exact ⟨q, xs, rfl, s, k _ _ _ _ _ h1 c1 m1 (itw_enumT m1 s d2)⟩
    | _ => exact h1.elim
theorem si_enumL {elts : List Expr} {kk : Nat} {tpos : Pos} {Post : List W → (Mu → Prop) → Mu → Prop} (h : SE X e G mu fun w mu1 => match w with | .m q => ∃ ws, mu1 q = some (.lst ws) ∧ Post (enumW ws) (fun mu' => mu' q = some (.lst ws)) mu1 | _ => False) (hm : X.mg "enumerate" = none) (hg : Gl X "enumerate" := by rfl) (hs : starEach [e] X.env = [(false, eval e X.env)] := by rfl) : SI X (.Tuple elts kk tpos) (.Call (.Name "enumerate" p) [e] [] pos) G mu Post :=
  SI.mk (pi_enum hg hm (pa_cons peE pa_nil hs) hs) fun σ H R d m k => h σ H _ d m fun v w mu1 H1 h1 c1 d1 m1 => by
    cases w with
    | m q =>
      obtain ⟨ws, h2, h3⟩ := h1
      obtain ⟨xs, hx, d2⟩ := m1 q _ h2
      have d1 : v = .ref q := d1
      subst d1
      exact ⟨q, xs, rfl, SqL.of hx, k _ _ _ _ _ h3 c1 m1 (itw_enumL m1 h2)⟩
    | _ => exact h1.elim
end
end Dv
set_option Elab.async false
set_option linter.all false
set_option maxRecDepth 100000
namespace K1
open PySem L2 Dv
theorem Ext.own {mu mu' : Mu} {p : Addr} {c : C} (e : Ext mu mu') (h : mu p = none) : Ext mu (setM mu' p c) := fun a d ha => by
  rw [setM_ne fun z => by rw [z, h] at ha; cases ha]
  exact e a d ha
/-- where each slot stands -/
def spotsAt : Nat → List Slot → List (Key × W)
  | _, [] => []
  | k, s :: r => (.inr s.1, .int (k : Nat)) :: spotsAt (k + 1) r
theorem spotsAt_keys : ∀ (k : Nat) (ss : List Slot), (spotsAt k ss).map (·.1) = ss.map fun s => (Sum.inr s.1 : Key)
  | _, [] => rfl
  | k, s :: r => by simp only [spotsAt, List.map_cons, spotsAt_keys (k + 1) r]
theorem spotsAt_append : ∀ (k : Nat) (a b : List Slot), spotsAt k (a ++ b) = spotsAt k a ++ spotsAt (k + a.length) b
  | k, [], b => by simp [spotsAt]
  | k, s :: a, b => by
    have := spotsAt_append (k + 1) a b
    simp only [List.cons_append, spotsAt, this, List.length_cons]
    congr 3
    omega
theorem spotsAt_get : ∀ (k : Nat) (ss : List Slot) (st : List Str) (n : Str) (x : Str), look ss st n = some x → ∃ i, valW (spotsAt k ss) (.inr n) = some (.int ((k + i : Nat) : Int)) ∧ st[i]? = some x
  | k, [], st, n, x, h => by simp [look] at h
  | k, s :: r, [], n, x, h => by simp [look] at h
  | k, s :: r, y :: st, n, x, h => by
    unfold look at h
    by_cases e : s.1 = n
    · rw [if_pos e] at h
      cases h
      exact ⟨0, by simp [spotsAt, valW, e], rfl⟩
    · rw [if_neg e] at h
      obtain ⟨i, h1, h2⟩ := spotsAt_get (k + 1) r st n x h
      refine ⟨i + 1, ?_, by simpa using h2⟩
      have : ¬ (Sum.inr s.1 : Key) = Sum.inr n := fun z => e (Sum.inr.inj z)
      unfold spotsAt valW
      rw [if_neg this, h1]
      congr 2
      omega
section
variable {P : Program} {w : World} {K : PySem.W.Frag} {mg : Str → Option Value} {base : Heap}
abbrev s_Lis_held : Stmt := top 35
theorem sc_Lis_held : FnScope ["_law_lore", "_law_pattern", "_law_stand", "_law_spots", "_law_at", "_law_slot", "_law_word"] ["_law_lore", "_law_pattern", "_law_stand"] (defScope s_Lis_held) := ⟨rfl, rfl, rfl, by decide +kernel, rfl, by decide +kernel, by decide +kernel⟩
def S_Lheld : SpW := fun ws mu P => ∃ L v p st, ws = [.m L, ptW p, nmW st] ∧ Lore mu L v ∧ SsNm v.slots ∧ (v.slots.map (·.1)).Nodup ∧ StOk v.slots st ∧ (∀ q ∈ p, PrOk v.slots q) ∧ p.length ≤ 10 ∧ ∀ mu', Ext mu mu' → P (.bl (holds v.slots st p)) mu'
theorem d_Lis_held (D : Dfn K mg "_law_is_held" s_Lis_held ["_law_lore", "_law_pattern", "_law_stand"]) (B : Bl mg) : DefOk P w K mg base "_law_is_held" ["_law_lore", "_law_pattern", "_law_stand"] 1 S_Lheld := by
  refine dfnOk D sc_Lis_held (fun ws mu P ⟨L, v, p, st, e, _⟩ => by rw [e]; rfl) (fun f cdv A outer s H E hr ws mu Pt ⟨L, v, p, st, e, lore, nm, nd, so, ok, len, h⟩ => ?_)
  subst e
  refine sss_cons ?_
  refine ss_asg ?_
  refine se_dnew fun p0 np => ?_
  refine sg_name (i := 3) ?_ sc_Lis_held.nd  -- _law_spots =
  refine sss_cons ?_
  refine ss_for PassesOwn.never rfl (by intro _; rfl) ?_  -- for (_law_at, _law_slot) in
  refine si_enumT ?_ B.enumerate
  have e0 : Ext mu (setM mu p0 (.dic [])) := Ext.refl.set np
  refine se_dget (hu_of hr) ?_  -- _law_lore['slots']
  refine se_var (i := 0) rfl ?_  -- _law_lore
  refine se_str ?_  -- 'slots'
  refine (lore.ext e0).slots ?_
  refine ⟨fun i G' mu' => Ext mu mu' ∧ ∃ x y, mu' p0 = some (.dic (spotsAt 0 (v.slots.take i))) ∧ G' = [some (.m L), some (ptW p), some (nmW st), some (.m p0), x, y, none], ⟨e0, none, none, setM_same, rfl⟩, fun _ _ _ _ _ => trivial, fun i w G' mu' hw ⟨e1, x, y, hp, eG⟩ => ?_, fun G' mu' ⟨e1, x, y, hp, eG⟩ => ?_⟩
  · subst eG
    rw [enumW_get, List.getElem?_map] at hw
    cases ht : v.slots[i]? with
    | none => rw [ht] at hw; cases hw
    | some t =>
      rw [ht] at hw
      cases hw
      have hi : i < v.slots.length := (List.getElem?_eq_some_iff.mp ht).1
      have hli : (v.slots.take i).length = i := by rw [List.length_take]; omega
      have kn : ((spotsAt 0 v.slots).map (·.1)).Nodup := by
        rw [spotsAt_keys]
        rw [List.Nodup, List.pairwise_map] at nd ⊢
        exact nd.imp fun hne z => hne (Sum.inr.inj z)
      have tk : spotsAt 0 (v.slots.take (i + 1)) = spotsAt 0 (v.slots.take i) ++ [(.inr t.1, .int (i : Nat))] := by
        rw [List.take_add_one, ht, spotsAt_append, hli]
        simp [spotsAt]
      have sub : ∀ j, ((spotsAt 0 (v.slots.take j)).map (·.1)).Nodup := fun j => by
        have := spotsAt_append 0 (v.slots.take j) (v.slots.drop j)
        rw [List.take_append_drop] at this
        rw [this, List.map_append] at kn
        exact (List.nodup_append.mp kn).1
      refine sg_tup (sgs_cons (sg_name (i := 4) (sgs_cons (sg_name (i := 5) (sgs_nil ?_) sc_Lis_held.nd)) sc_Lis_held.nd))
      refine sss_cons ?_
      refine ss_dput (hu_of hr) ?_
      refine se_var (i := 4) rfl ?_  -- _law_at
      refine se_var (i := 3) rfl ?_  -- _law_spots
      refine se_ix ?_  -- _law_slot[0]
      refine se_var (i := 5) rfl ?_  -- _law_slot
      refine se_int ?_  -- 0
      refine ⟨.str t.1, atI_nat' (i := 0) rfl, p0, _, .inr t.1, rfl, ⟨hp, sub i⟩, rfl, ?_, ?_⟩
      · have : (spotsAt 0 (v.slots.take i)).length = ((spotsAt 0 (v.slots.take i)).map (·.1)).length := by rw [List.length_map]
        rw [this, spotsAt_keys, List.length_map, hli]
        have := nm.len
        exact Nat.lt_of_lt_of_le (by omega : i < 10) (by decide)
      · refine sss_nil ⟨Ext.own e1 np, some (.int (i : Nat)), some (slW1 t), ?_, rfl⟩
        rw [setM_same, tk]
        congr 2
        refine putW_new fun hm => ?_
        have h2 := sub (i + 1)
        rw [tk, List.map_append, List.nodup_append] at h2
        exact h2.2.2 _ hm _ (by simp) rfl
  · subst eG
    rw [enumW_len, List.length_map, List.take_length] at hp
    refine sss_cons (ss_ret ?_)
    refine se_all ?_ B.all
    refine se_lc (own := [("_law_slot", 5), ("_law_word", 6)]) (.tp [(.nm 5), (.nm 6)]) rfl sc_Lis_held.nd (blkOk_by (N := ["_law_lore", "_law_pattern", "_law_stand", "_law_spots", "_law_at", "_law_slot", "_law_word"]) (sc := defScope s_Lis_held) (by decide +kernel)) rfl (fun _ _ _ _ _ => (pg_tup rfl (pgs_cons (pg_name (i := 5) sc_Lis_held.nd rfl (Or.inl rfl)) (pgs_cons (pg_name (i := 6) sc_Lis_held.nd rfl (Or.inl rfl)) pgs_nil)))) (by intro _; rfl) ?_
    refine si_tup ?_
    refine se_var (i := 1) rfl ?_
    refine lc_all_g (prB v.slots st) (fun _ _ => trivial) (by rw [List.length_map]; exact lt10 len) InBlk.mono ?_ fun mu2 e2 => ?_
    · intro w mu2 hw2 he
      obtain ⟨q, hq, rfl⟩ := List.mem_map.mp hw2
      have qn := pt_names nm ok q hq
      obtain ⟨x', hx, hxs⟩ := look_some (ss := v.slots) (st := st) (n := q.1) so.len (by obtain ⟨u, hu, e1, _⟩ := ok q hq; exact List.mem_map.mpr ⟨u, hu, e1⟩)
      obtain ⟨j, hj, hs⟩ := spotsAt_get 0 v.slots st q.1 x' hx
      rw [Nat.zero_add] at hj
      refine ⟨_, rfl, fun s H C cl fp => ?_⟩
      refine se_cmp (op_eqD hr.units) eq_w (nomark _) ?_
      refine se_ix ?_  -- _law_stand[_law_spots[_law_slot]]
      refine se_var (i := 2) rfl ?_  -- _law_stand
      refine se_dget (hu_of hr) ?_
      refine se_var (i := 3) rfl ?_
      refine se_var (i := 5) rfl ?_
      refine ⟨p0, spotsAt 0 v.slots, .inr q.1, .int (j : Nat), rfl, he _ _ hp, rfl, hj, ?_⟩
      refine ⟨.str x', atI_nat' (i := j) (by unfold stW; rw [List.getElem?_map, hs]; rfl), ?_⟩
      refine se_var (i := 6) rfl ?_
      refine eq_strs (so.nm x' hxs) qn.2 ⟨?_, Ext.refl⟩
      show W.bl (decide (x' = q.2)) = W.bl (decide (look v.slots st q.1 = some q.2))
      rw [hx]
      congr 1
      simp
    · have : (p.map prW).all (prB v.slots st) = holds v.slots st p := ptB_pt v.slots st p
      rw [this]
      exact h _ (e1.trans e2)
abbrev s_Lhas_row : Stmt := top 38
theorem sc_Lhas_row : FnScope ["_law_lore", "_law_stand", "_law_pattern"] ["_law_lore", "_law_stand"] (defScope s_Lhas_row) := ⟨rfl, rfl, rfl, by decide +kernel, rfl, by decide +kernel, by decide +kernel⟩
def S_Lhas_row : SpW := fun ws mu P => ∃ L v st, ws = [.m L, nmW st] ∧ Lore mu L v ∧ SsNm v.slots ∧ (v.slots.map (·.1)).Nodup ∧ StOk v.slots st ∧ (∀ p ∈ v.bears, (∀ q ∈ p, PrOk v.slots q) ∧ p.length ≤ 10) ∧ v.bears.length ≤ 10 ∧ ∀ mu', Ext mu mu' → P (.bl (oneHolds v.slots st v.bears)) mu'
theorem d_Lhas_row (D : Dfn K mg "_law_has_row" s_Lhas_row ["_law_lore", "_law_stand"]) (B : Bl mg) (D_is_held : DefOk P w K mg base "_law_is_held" ["_law_lore", "_law_pattern", "_law_stand"] 1 S_Lheld) : DefOk P w K mg base "_law_has_row" ["_law_lore", "_law_stand"] 2 S_Lhas_row := by
  refine dfnOk D sc_Lhas_row (fun ws mu P ⟨L, v, st, e, _⟩ => by rw [e]; rfl) (fun f cdv A outer s H E hr ws mu Pt ⟨L, v, st, e, lore, nm, nd, so, ok, len, h⟩ => ?_)
  subst e
  refine sss_cons ?_
  refine ss_ret ?_
  refine se_any ?_ B.any
  refine se_lc (own := [("_law_pattern", 2)]) (.nm 2) rfl sc_Lhas_row.nd (blkOk_by (N := ["_law_lore", "_law_stand", "_law_pattern"]) (sc := defScope s_Lhas_row) (by decide +kernel)) rfl (fun _ _ _ _ _ => (pg_name (i := 2) sc_Lhas_row.nd rfl (Or.inl rfl))) (by intro _; rfl) ?_
  refine si_tup ?_
  refine se_dget (hu_of hr) (se_var (i := 0) rfl (se_str (lore.bears ?_)))
  refine lc_any_g (ptB v.slots st) (fun _ _ => trivial) (by rw [List.length_map]; exact lt10 len) InBlk.mono ?_ fun mu2 e2 => ?_
  · intro w mu' hw he
    obtain ⟨p, hp, rfl⟩ := List.mem_map.mp hw
    refine ⟨_, rfl, fun s H C cl fp => ?_⟩
    refine se_callD D_is_held (hr.mono (by decide)) ?_
    refine sa_cons ?_
    refine se_var (i := 0) rfl ?_
    refine sa_cons ?_
    refine se_var (i := 2) rfl ?_
    refine sa_cons ?_
    refine se_var (i := 1) rfl ?_
    refine sa_nil ?_
    refine ⟨L, v, p, st, rfl, lore.ext he, nm, nd, so, (ok p hp).1, (ok p hp).2, fun mu4 e4 => ⟨?_, e4⟩⟩
    rw [ptB_pt]
  · have : (v.bears.map ptW).any (ptB v.slots st) = oneHolds v.slots st v.bears := by
      unfold oneHolds
      rw [List.any_map]
      congr 1
      funext p
      exact ptB_pt v.slots st p
    rw [this]
    exact h _ e2
abbrev s_Lbroken : Stmt := top 39
theorem sc_Lbroken : FnScope ["_law_lore", "_law_stand", "_law_pattern"] ["_law_lore", "_law_stand"] (defScope s_Lbroken) := ⟨rfl, rfl, rfl, by decide +kernel, rfl, by decide +kernel, by decide +kernel⟩
def S_Lbroken : SpW := fun ws mu P => ∃ L v st, ws = [.m L, nmW st] ∧ Lore mu L v ∧ SsNm v.slots ∧ (v.slots.map (·.1)).Nodup ∧ StOk v.slots st ∧ (∀ p ∈ v.never, (∀ q ∈ p, PrOk v.slots q) ∧ p.length ≤ 10) ∧ v.never.length ≤ 10 ∧ ∀ mu', Ext mu mu' → P (.bl (oneHolds v.slots st v.never)) mu'
theorem d_Lbroken (D : Dfn K mg "_law_broken" s_Lbroken ["_law_lore", "_law_stand"]) (B : Bl mg) (D_is_held : DefOk P w K mg base "_law_is_held" ["_law_lore", "_law_pattern", "_law_stand"] 1 S_Lheld) : DefOk P w K mg base "_law_broken" ["_law_lore", "_law_stand"] 2 S_Lbroken := by
  refine dfnOk D sc_Lbroken (fun ws mu P ⟨L, v, st, e, _⟩ => by rw [e]; rfl) (fun f cdv A outer s H E hr ws mu Pt ⟨L, v, st, e, lore, nm, nd, so, ok, len, h⟩ => ?_)
  subst e
  refine sss_cons ?_
  refine ss_ret ?_
  refine se_any ?_ B.any
  refine se_lc (own := [("_law_pattern", 2)]) (.nm 2) rfl sc_Lbroken.nd (blkOk_by (N := ["_law_lore", "_law_stand", "_law_pattern"]) (sc := defScope s_Lbroken) (by decide +kernel)) rfl (fun _ _ _ _ _ => (pg_name (i := 2) sc_Lbroken.nd rfl (Or.inl rfl))) (by intro _; rfl) ?_
  refine si_tup ?_
  refine se_dget (hu_of hr) (se_var (i := 0) rfl (se_str (lore.never ?_)))
  refine lc_any_g (ptB v.slots st) (fun _ _ => trivial) (by rw [List.length_map]; exact lt10 len) InBlk.mono ?_ fun mu2 e2 => ?_
  · intro w mu' hw he
    obtain ⟨p, hp, rfl⟩ := List.mem_map.mp hw
    refine ⟨_, rfl, fun s H C cl fp => ?_⟩
    refine se_callD D_is_held (hr.mono (by decide)) ?_
    refine sa_cons ?_
    refine se_var (i := 0) rfl ?_
    refine sa_cons ?_
    refine se_var (i := 2) rfl ?_
    refine sa_cons ?_
    refine se_var (i := 1) rfl ?_
    refine sa_nil ?_
    refine ⟨L, v, p, st, rfl, lore.ext he, nm, nd, so, (ok p hp).1, (ok p hp).2, fun mu4 e4 => ⟨?_, e4⟩⟩
    rw [ptB_pt]
  · have : (v.never.map ptW).any (ptB v.slots st) = oneHolds v.slots st v.never := by
      unfold oneHolds
      rw [List.any_map]
      congr 1
      funext p
      exact ptB_pt v.slots st p
    rw [this]
    exact h _ e2
end
end K1
set_option Elab.async false
set_option linter.all false
set_option maxRecDepth 100000
namespace K1
open PySem L2 Dv
theorem ExtBut.own {y p : Addr} {mu mu' : Mu} {c : C} (e : ExtBut y mu mu') (h : mu p = none) : ExtBut y mu (setM mu' p c) := fun a d hn ha => by
  rw [setM_ne fun z => by rw [z, h] at ha; cases ha]
  exact e a d hn ha
theorem seq_nat {r : Nat} {n : Nat} (h : r < n) : seqIndex? (r : Int) n = some r := (ixN_seq (j := r) (by unfold ixN; simp [h])).1
theorem erase_perm : ∀ (l : List Str) (k : Nat) (h : k < l.length), (l[k] :: l.eraseIdx k).Perm l
  | x :: r, 0, _ => List.Perm.refl _
  | x :: r, k + 1, h => by
    have := erase_perm r k (by simpa using h)
    simp only [List.getElem_cons_succ, List.eraseIdx_cons_succ]
    exact (List.Perm.swap x _ _).trans (this.cons x)
theorem stW_len (ns : List Str) : (stW ns).length = ns.length := by unfold stW; rw [List.length_map]
theorem stW_erase : ∀ (ns : List Str) (k : Nat), (stW ns).eraseIdx k = stW (ns.eraseIdx k)
  | [], _ => rfl
  | n :: r, 0 => rfl
  | n :: r, k + 1 => by
    have := stW_erase r k
    unfold stW at this ⊢
    simp only [List.map_cons, List.eraseIdx_cons_succ, this]
end K1
namespace Dv
open PySem L2
theorem se_listC {X : Cx} {e : Expr} {G : Gs} {mu : Mu} {pos p : Pos} {P : PW1} (h : SE X e G mu fun w mu1 => listW [w] mu1 P) (hm : X.mg "list" = none) (hv : bootBuiltins ("list" : Str) = some (.type "list") := by decide +kernel) (hg : Gl X "list" := by rfl) (he : starEach [e] X.env = [(false, eval e X.env)] := by rfl) (hpl : (backTo pos (starEach [] X.env)).any (·.1) = false := by rfl) : SE X (.Call (.Name "list" p) [e] [] pos) G mu P :=
  se_bty call_list_of list_w hm (sa_one h he) hv hg (by decide) (by decide) he hpl
end Dv
namespace K1
open PySem L2 Dv
section
variable {P : Program} {w : World} {K : PySem.W.Frag} {mg : Str → Option Value} {base : Heap}
abbrev s_Lmixed : Stmt := top 40
theorem sc_Lmixed : FnScope ["_law_jar_here", "_law_items", "_law_left", "_law_found"] ["_law_jar_here", "_law_items"] (defScope s_Lmixed) := ⟨rfl, rfl, rfl, by decide +kernel, rfl, by decide +kernel, by decide +kernel⟩
def S_mixed : SpW := fun ws mu P => ∃ p a ns c, ws = [.m p, .m a] ∧ mu a = some (.lst (stW ns)) ∧ a ≠ p ∧ ns.length ≤ 100 ∧ (∀ n ∈ ns, NmOk n) ∧ JarOk mu p c ∧ c + ns.length < 10000 ∧
  ∀ y ns' mu', ns'.Perm ns → mu y = none → mu' y = some (.lst (stW ns')) → JarOk mu' p (c + ns.length) → ExtBut p mu mu' → P (.m y) mu'
theorem ne_nil {mu : Mu} {a b : Addr} {ns : List Str} {P : PW1} (ha : mu a = some (.lst (stW ns))) (hb : mu b = some (.lst [])) (hn : ∀ n ∈ ns, NmOk n) (h : P (.bl (!decide (ns = []))) mu) : neW (.m a) (.m b) mu P := by
  refine ⟨.list (dats (stW ns)), .list [], ?_, ?_, ?_, by decide, ?_⟩
  · simp only [asD, ha]
    show (if plsW (stW ns) = true then some (PyData.list (dats (stW ns))) else none) = _
    rw [if_pos (show plsW (stW ns) = true from plains_map _ plain_str ns)]
  · simp only [asD, hb]
    rfl
  · have hl : (PyData.list (dats (stW ns))).canLay0 = true := by
      unfold stW
      simp only [PyData.canLay0]
      rw [dats_map]
      exact lay_all (fun z : Str => dat (.str z)) fun x hx => nm_ok (hn x hx)
    have hd : (PyData.list (dats (stW ns))).depth ≤ 64 := by
      unfold stW
      simp only [PyData.depth]
      rw [dats_map]
      have := depth_all (fun z : Str => dat (.str z)) (n := 0) (xs := ns) fun z _ => by simp [dat, PyData.depth]
      omega
    unfold SeqAt.shaped
    rw [hl, decide_eq_true hd]
    rfl
  · cases ns with
    | nil => exact h
    | cons n r => exact h
theorem d_Lmixed (D : Dfn K mg "_law_mixed" s_Lmixed ["_law_jar_here", "_law_items"]) (B : Bl mg) (D_take : DTake P w K mg base) : DefOk P w K mg base "_law_mixed" ["_law_jar_here", "_law_items"] 2 S_mixed := by
  refine dfnOk D sc_Lmixed (fun ws mu P ⟨p, a, ns, c, e, _⟩ => by rw [e]; rfl) (fun f cdv A outer s H E hr ws mu Pt ⟨p, a, ns, c, e, ha, hap, l1, ok, jar, c1, h⟩ => ?_)
  subst e
  refine sss_cons ?_
  refine ss_par (i := 2) (j := 3) ?_ rfl sc_Lmixed.nd (by decide) (by rfl)  -- (_law_left, _law_found) =
  refine se_listC ?_ B.list
  refine se_var (i := 1) rfl ?_  -- _law_items
  refine ⟨_, ha, fun L1 n1 => ?_⟩
  refine se_lst ?_
  refine sa_nil ?_
  refine ⟨by decide, fun L2 n2 => ?_⟩
  have n2' : mu L2 = none := by
    by_cases z : L2 = L1
    · rw [z, setM_same] at n2; cases n2
    · rwa [setM_ne z] at n2
  have n12 : L1 ≠ L2 := fun z => by rw [z, setM_same] at n2; cases n2
  have p1 : p ≠ L1 := jar.ne n1
  have p2 : p ≠ L2 := jar.ne n2'
  refine sss_cons ?_
  refine ss_while PassesOwn.never (fun n G' mu' => ∃ ns1 ns2, n = ns1.length ∧ G' = [some (.m p), some (.m a), some (.m L1), some (.m L2)] ∧ mu' L1 = some (.lst (stW ns1)) ∧ mu' L2 = some (.lst (stW ns2)) ∧ (ns2 ++ ns1).Perm ns ∧ JarOk mu' p (c + ns2.length) ∧ ExtBut p mu mu') ⟨ns.length, ns, [], rfl, rfl, by rw [setM_ne n12, setM_same], setM_same, by simp, ((jar.set p1).set p2), ((ExtBut.refl).own n1).own n2'⟩ fun n G' mu' ⟨ns1, ns2, en, eG, h1, h2, pm, jr, ex⟩ => ?_
  subst en eG
  have ok1 : ∀ n ∈ ns1, NmOk n := fun n hn => ok n (pm.mem_iff.mp (by simp [hn]))
  have lens : ns2.length + ns1.length = ns.length := by have := pm.length_eq; rwa [List.length_append] at this
  refine st_cmp (op_neD hr.units) ne_w (nomark _) ?_  -- _law_left != []
  refine se_var (i := 2) rfl ?_  -- _law_left
  refine se_lst ?_
  refine sa_nil ?_
  refine ⟨by decide, fun L3 n3 => ?_⟩
  have ne3 : ∀ {q : Addr} {cc : C}, mu' q = some cc → q ≠ L3 := fun hq z => by rw [z, n3] at hq; cases hq
  have h1' : setM mu' L3 (.lst []) L1 = some (.lst (stW ns1)) := by rw [setM_ne (ne3 h1)]; exact h1
  have h2' : setM mu' L3 (.lst []) L2 = some (.lst (stW ns2)) := by rw [setM_ne (ne3 h2)]; exact h2
  have jr' : JarOk (setM mu' L3 (.lst [])) p (c + ns2.length) := jr.set (jr.ne n3)
  refine ne_nil h1' setM_same ok1 ?_
  by_cases hns : ns1 = []
  · rw [decide_eq_true hns]
    subst hns
    rw [List.append_nil] at pm
    refine sss_cons ?_
    refine ss_ret ?_
    refine se_var (i := 3) rfl ?_  -- _law_found
    refine h L2 ns2 _ pm n2' h2' ?_ (ex.setNew n3)
    have : ns2.length = ns.length := pm.length_eq
    rw [← this]
    exact jr'
  · rw [decide_eq_false hns]
    have pos : 1 ≤ ns1.length := by
      cases ns1 with
      | nil => exact absurd rfl hns
      | cons x y => simp
    refine sss_cons ?_
    refine ss_expr ?_
    refine se_append ?_
    refine se_var (i := 3) rfl ?_  -- _law_found
    refine ⟨⟨_, h2'⟩, ?_⟩
    refine sa_one ?_
    refine se_pop ?_
    refine se_var (i := 2) rfl ?_  -- _law_left
    refine ⟨⟨_, h1'⟩, ?_⟩
    refine sa_one ?_
    refine se_callD D_take (hr.mono (by decide)) ?_
    refine sa_cons ?_
    refine se_var (i := 0) rfl ?_  -- _law_jar_here
    refine sa_cons ?_
    refine se_len ?_ B.len
    refine se_var (i := 2) rfl ?_  -- _law_left
    refine ⟨_, h1', ?_⟩
    refine sa_nil ?_
    refine ⟨p, _, c + ns2.length, rfl, by rw [stW_len]; omega, by rw [stW_len]; omega, jr', by omega, fun r mu2 r0 r1 j2 e2 => ?_⟩
    rw [stW_len] at r1
    obtain ⟨k, rfl⟩ : ∃ k : Nat, r = k := ⟨r.toNat, by omega⟩
    have hk : k < ns1.length := by omega
    have g1 : mu2 L1 = some (.lst (stW ns1)) := e2 _ _ (Ne.symm p1) h1'
    have g2 : mu2 L2 = some (.lst (stW ns2)) := e2 _ _ (Ne.symm p2) h2'
    refine ⟨stW ns1, k, .str ns1[k], g1, by omega, by omega, seq_nat (by rw [stW_len]; exact hk), by unfold stW; rw [List.getElem?_map, List.getElem?_eq_getElem hk]; rfl, ?_⟩
    refine ⟨stW ns2, by rw [setM_ne (Ne.symm n12)]; exact g2, by rw [stW_len]; exact Nat.lt_of_le_of_lt (by omega : ns2.length ≤ 100) (by decide), ?_⟩
    refine sss_nil ?_
    refine ⟨(ns1.eraseIdx k).length, by rw [List.length_eraseIdx_of_lt hk]; omega, ns1.eraseIdx k, ns2 ++ [ns1[k]], rfl, rfl, by rw [setM_ne n12, setM_same, stW_erase], ?_, ?_, ?_, ?_⟩
    · rw [setM_same]
      unfold stW
      rw [List.map_append]
      rfl
    · rw [List.append_assoc]
      exact (List.Perm.append_left ns2 (erase_perm ns1 k hk)).trans pm
    · rw [List.length_append]
      exact (j2.set p1).set p2
    · exact (((ex.setNew n3).trans e2).own n1).own n2'
end
end K1
set_option Elab.async false
set_option linter.all false
set_option maxRecDepth 100000
namespace K1
open PySem L2 Dv PySem.W PySem.Calls PyProof.Rows
/-! sorted data of one kind, no two alike, ascends -/
theorem sorted_up {α : Type} (f : α → W) {l : List α} (hd : l.Pairwise fun a b => ltD (f a, f b) = true ∨ ltD (f b, f a) = true) : (l.mergeSort fun a b => leW (f a) (f b)).Pairwise fun a b => ltD (f a, f b) = true := by
  have T := sortLe_total (listOrd itemOrd) false fun a : α => PySem.W.keyToks (dat (f a))
  have h1 := List.pairwise_mergeSort (le := fun a b => leW (f a) (f b)) (fun a b c x y => T.trans a b c x y) (fun a b => by
    rcases T.total a b with h | h
    · rw [show leW (f a) (f b) = true from h]; rfl
    · rw [show leW (f b) (f a) = true from h]; simp) l
  have h2 := ((List.mergeSort_perm l fun a b => leW (f a) (f b)).pairwise_iff (R := fun a b => ltD (f a, f b) = true ∨ ltD (f b, f a) = true) fun h => h.symm).mpr hd
  refine (h1.and h2).imp fun {a b} h => ?_
  rcases h.2 with q | q
  · exact q
  · have l1 : (!ltD (f b, f a)) = true := h.1
    rw [q] at l1
    cases l1
theorem sorted_map {α : Type} (f : α → W) (l : List α) : (l.map f).mergeSort leW = (l.mergeSort fun a b => leW (f a) (f b)).map f := (List.map_mergeSort (r := fun a b => leW (f a) (f b)) (s := leW) (f := f) fun _ _ _ _ => rfl).symm
theorem rising_of : ∀ {us : List W}, (us.Pairwise fun a b => ltD (a, b) = true) → rising us = true
  | [], _ => rfl
  | [x], _ => rfl
  | x :: y :: r, h => by
    have ih := rising_of (us := y :: r) (List.pairwise_cons.mp h).2
    have h1 := (List.pairwise_cons.mp h).1 y (by simp)
    unfold rising at ih ⊢
    simp only [List.tail_cons, List.zip_cons_cons, List.all_cons, h1, Bool.true_and] at ih ⊢
    exact ih
theorem str_apart {x y : Str} (h : x ≠ y) : ltD (.str x, .str y) = true ∨ ltD (.str y, .str x) = true := by
  show PySem.W.dataLt (.str x) (.str y) = true ∨ PySem.W.dataLt (.str y) (.str x) = true
  rw [PySem.W.dataLt_str, PySem.W.dataLt_str, decide_eq_true_iff, decide_eq_true_iff]
  by_cases a : x.cps.toList < y.cps.toList
  · exact .inl a
  · by_cases b : y.cps.toList < x.cps.toList
    · exact .inr b
    · exact absurd (PySem.W.str_of_cps (List.le_antisymm (List.not_lt.mp b) (List.not_lt.mp a))) h
theorem pr_lt {p q : Str × Str} (h : p.1 ≠ q.1) : ltD (prW p, prW q) = ltD (.str p.1, .str q.1) := by
  show PySem.W.dataLt (.tuple [.str p.1, .str p.2]) (.tuple [.str q.1, .str q.2]) = PySem.W.dataLt (.str p.1) (.str q.1)
  rw [PySem.W.dataLt_pair (by simp [PySem.W.alike]) (by simp [PySem.W.alike]), if_neg (by rw [eqv_str]; simp [h])]
/-- the pattern that is drawn: its pairs by their names -/
def asPat (fs : Pat) : Pat := fs.mergeSort fun a b => leW (prW a) (prW b)
theorem asPat_perm (fs : Pat) : (asPat fs).Perm fs := List.mergeSort_perm _ _
theorem asPat_up {fs : Pat} (h : (fs.map (·.1)).Nodup) : rising (stW ((asPat fs).map (·.1))) = true := by
  have nd : fs.Pairwise fun a b => a.1 ≠ b.1 := List.pairwise_map.mp h
  have h1 := sorted_up prW (l := fs) (nd.imp fun {a b} hne => by
    rw [pr_lt hne, pr_lt (Ne.symm hne)]
    exact str_apart hne)
  have nd2 : (asPat fs).Pairwise fun a b => a.1 ≠ b.1 := ((asPat_perm fs).pairwise_iff fun h => Ne.symm h).mpr nd
  refine rising_of ?_
  unfold stW
  rw [List.map_map, List.pairwise_map]
  refine (List.Pairwise.and h1 nd2).imp fun {a b} h => ?_
  show ltD (.str a.1, .str b.1) = true
  rw [← pr_lt h.2]
  exact h.1
theorem sort_prs {fs : Pat} : plsW (fs.map prW) = true ∧ PySem.W.AllAlike (dats (fs.map prW)) ∧ PySem.W.Sortable (dats (fs.map prW)) ∧ ∀ u ∈ fs.map prW, (dat u).depth ≤ 64 := by
  refine ⟨plains_map _ plain_pr fs, fun d hd d' hd' => ?_, .inl fun d hd => ?_, fun u hu => ?_⟩
  · obtain ⟨u, hu, rfl⟩ := mem_dats.mp hd
    obtain ⟨u', hu', rfl⟩ := mem_dats.mp hd'
    obtain ⟨a, _, rfl⟩ := List.mem_map.mp hu
    obtain ⟨b, _, rfl⟩ := List.mem_map.mp hu'
    exact alike_pr a b
  · obtain ⟨u, hu, rfl⟩ := mem_dats.mp hd
    obtain ⟨a, ha, rfl⟩ := List.mem_map.mp hu
    exact ⟨_, _, rfl⟩
  · obtain ⟨a, ha, rfl⟩ := List.mem_map.mp hu
    exact Nat.le_trans (depth_pr a) (by decide)
theorem eq_ints {x y : Int} {mu : Mu} {P : PW1} (h : P (.bl (decide (x = y))) mu) : eqW (.int x) (.int y) mu P := by
  refine ⟨.int x, .int y, rfl, rfl, ?_, ?_, ?_⟩
  · simp [SeqAt.shaped, PyData.depth, PyData.canLay0]
  · simp [SeqAt.shaped, PyData.depth, PyData.canLay0]
  · have : PyData.eqv (.int x) (.int y) = decide (x = y) := by
      unfold PyData.eqv
      by_cases e : x = y <;> simp [e]
    rw [this]
    exact h
end K1
set_option Elab.async false
set_option linter.all false
set_option maxRecDepth 100000
namespace K1
open PySem L2 Dv
/-- pairs found so far: of the first i slots, by their names -/
structure Fnd (ss : List Slot) (i : Nat) (fs : Pat) : Prop where
  sub : (fs.map (·.1)).Sublist ((ss.take i).map (·.1))
  ok : ∀ q ∈ fs, PrOk ss q
theorem Fnd.add {ss : List Slot} {i : Nat} {fs : Pat} {t : Slot} {x : Str} (h : Fnd ss i fs) (ht : ss[i]? = some t) (hx : x ∈ t.2.2) : Fnd ss (i + 1) (fs ++ [(t.1, x)]) where
  sub := by
    rw [List.take_add_one, ht, List.map_append, List.map_append]
    exact h.sub.append (List.Sublist.refl _)
  ok := fun q hq => by
    rcases List.mem_append.mp hq with hq | hq
    · exact h.ok q hq
    · rw [List.mem_singleton] at hq
      subst hq
      exact ⟨t, List.mem_of_getElem? ht, rfl, hx⟩
theorem Fnd.skip {ss : List Slot} {i : Nat} {fs : Pat} {t : Slot} (h : Fnd ss i fs) (ht : ss[i]? = some t) : Fnd ss (i + 1) fs where
  sub := by
    rw [List.take_add_one, List.map_append]
    exact h.sub.trans (List.sublist_append_left _ _)
  ok := h.ok
theorem Fnd.len {ss : List Slot} {i : Nat} {fs : Pat} (h : Fnd ss i fs) : fs.length ≤ ss.length := by
  have := h.sub.length_le
  rw [List.length_map, List.length_map, List.length_take] at this
  omega
theorem Fnd.pat {ss : List Slot} {i : Nat} {fs : Pat} (h : Fnd ss i fs) (nd : (ss.map (·.1)).Nodup) (l : ss.length ≤ 6) : PtOk ss (asPat fs) where
  pr := fun q hq => h.ok q ((asPat_perm fs).mem_iff.mp hq)
  up := asPat_up (h.sub.nodup ((List.Sublist.map _ (List.take_sublist i ss)).nodup nd))
  len := by
    rw [(asPat_perm fs).length_eq]
    have := h.len
    omega
section
variable {P : Program} {w : World} {K : PySem.W.Frag} {mg : Str → Option Value} {base : Heap}
abbrev s_Lheld_back : Stmt := top 42
theorem sc_Lheld_back : FnScope ["_law_jar_here", "_law_slots", "_law_must", "_law_found", "_law_at", "_law_name", "_law_house", "_law_words"] ["_law_jar_here", "_law_slots"] (defScope s_Lheld_back) := ⟨rfl, rfl, rfl, by decide +kernel, rfl, by decide +kernel, by decide +kernel⟩
/-- a pair that makes a slot to another word than its first one -/
def Away (ss : List Slot) (fs : Pat) : Prop := ∃ r ∈ fs, ∃ s ∈ ss, s.1 = r.1 ∧ r.2 ∈ s.2.2.tail
def S_held_back : SpW := fun ws mu P => ∃ p a ss c, ws = [.m p, .m a] ∧ mu a = some (.lst (ss.map slW1)) ∧ a ≠ p ∧ 1 ≤ ss.length ∧ ss.length ≤ 6 ∧ (∀ s ∈ ss, 2 ≤ s.2.2.length ∧ s.2.2.length ≤ 4) ∧ (ss.map (·.1)).Nodup ∧ JarOk mu p c ∧ c + 20 < 10000 ∧
  ∀ q mu', PtOk ss q → Away ss q → JarOk mu' p (c + 20) → ExtBut p mu mu' → P (ptW q) mu'
theorem d_Lheld_back (D : Dfn K mg "_law_held_back" s_Lheld_back ["_law_jar_here", "_law_slots"]) (B : Bl mg) (D_take : DTake P w K mg base) (D_of : DOf P w K mg base) : DefOk P w K mg base "_law_held_back" ["_law_jar_here", "_law_slots"] 3 S_held_back := by
  refine dfnOk D sc_Lheld_back (fun ws mu P ⟨p, a, ss, c, e, _⟩ => by rw [e]; rfl) (fun f cdv A outer s H E hr ws mu Pt ⟨p, a, ss, c, e, ha, hap, l1, l6, w2, nd, jar, c1, h⟩ => ?_)
  subst e
  refine sss_cons ?_
  refine ss_par (i := 2) (j := 3) ?_ rfl sc_Lheld_back.nd (by decide) (by rfl)  -- (_law_must, _law_found) =
  refine se_callD D_take (hr.mono (by decide)) ?_
  refine sa_cons ?_
  refine se_var (i := 0) rfl ?_  -- _law_jar_here
  refine sa_cons ?_
  refine se_len ?_ B.len
  refine se_var (i := 1) rfl ?_  -- _law_slots
  refine ⟨_, ha, ?_⟩
  refine sa_nil ?_
  refine ⟨p, _, c, rfl, by rw [List.length_map]; omega, by rw [List.length_map]; omega, jar, by omega, fun mst mu1 m0 m1 j1 e1 => ?_⟩
  rw [List.length_map] at m1
  have ha1 := e1 _ _ hap ha
  refine se_lst ?_
  refine sa_nil ?_
  refine ⟨by decide, fun F nF => ?_⟩
  have nF' : ∀ {q : Addr} {cc : C}, mu1 q = some cc → q ≠ F := fun hq z => by rw [z, nF] at hq; cases hq
  have pF : p ≠ F := j1.ne nF
  have aF : a ≠ F := nF' ha1
  have muF : mu F = none := by
    cases q : mu F with
    | none => rfl
    | some cc => have := e1 F cc (Ne.symm pF) q; rw [nF] at this; cases this
  refine sss_cons ?_
  refine ss_for PassesOwn.never rfl (by intro _; rfl) ?_  -- for (_law_at, (_law_name, _law_house, _law_words)) in
  refine si_enumL ?_ B.enumerate
  refine se_var (i := 1) rfl ?_  -- _law_slots
  refine ⟨ss.map slW1, by rw [setM_ne aF]; exact ha1, ?_⟩
  refine ⟨fun i G' mu' => ∃ fs x y z u, G' = [some (.m p), some (.m a), some (.int mst), some (.m F), x, y, z, u] ∧ mu' F = some (.lst (fs.map prW)) ∧ Fnd ss i fs ∧ (mst < i → Away ss fs) ∧ JarOk mu' p (c + 1 + 2 * i) ∧ ExtBut p mu mu', ⟨[], none, none, none, none, rfl, setM_same, ⟨by simp, by simp⟩, fun z => by omega, (j1.set pF), e1.own muF⟩,
    fun i G' mu' _ ⟨fs, x, y, z, u, eG, hF, fn, aw, jr, ex⟩ => ex _ _ hap ha, fun i w G' mu' hw ⟨fs, x, y, z, u, eG, hF, fn, aw, jr, ex⟩ => ?_, fun G' mu' ⟨fs, x, y, z, u, eG, hF, fn, aw, jr, ex⟩ => ?_⟩
  · subst eG
    rw [enumW_get, List.getElem?_map] at hw
    cases ht : ss[i]? with
    | none => rw [ht] at hw; cases hw
    | some t =>
    rw [ht] at hw
    cases hw
    have hi : i < ss.length := (List.getElem?_eq_some_iff.mp ht).1
    have tm := w2 t (List.mem_of_getElem? ht)
    refine sg_tup (sgs_cons (sg_name (i := 4) (sgs_cons (sg_tup (sgs_cons (sg_name (i := 5) (sgs_cons (sg_name (i := 6) (sgs_cons (sg_name (i := 7) (sgs_nil (sgs_nil ?_)) sc_Lheld_back.nd)) sc_Lheld_back.nd)) sc_Lheld_back.nd)))) sc_Lheld_back.nd))
    refine sss_cons ?_
    refine ss_if ?_
    refine st_cmp (op_eqD hr.units) eq_w (nomark _) ?_  -- _law_at == _law_must
    refine se_var (i := 4) rfl ?_  -- _law_at
    refine se_var (i := 2) rfl ?_  -- _law_must
    refine eq_ints ?_
    have fl := fn.len
    by_cases hm : (i : Int) = mst
    · rw [decide_eq_true hm]
      refine sss_cons ?_
      refine ss_expr ?_
      refine se_append ?_
      refine se_var (i := 3) rfl ?_  -- _law_found
      refine ⟨⟨_, hF⟩, ?_⟩
      refine sa_one ?_
      refine se_tup ?_
      refine sa_cons ?_
      refine se_var (i := 5) rfl ?_  -- _law_name
      refine sa_cons ?_
      refine se_callD D_of (hr.mono (by decide)) ?_
      refine sa_cons ?_
      refine se_var (i := 0) rfl ?_  -- _law_jar_here
      refine sa_cons ?_
      refine se_slFrom ?_  -- _law_words[1:]
      refine se_var (i := 7) rfl ?_  -- _law_words
      refine se_int ?_  -- 1
      show SA _ _ _ _ _
      refine sa_nil ?_
      rw [cut1]
      have tl : (stW t.2.2).tail.length = t.2.2.length - 1 := by rw [List.length_tail, stW_len]
      refine ⟨p, _, (stW t.2.2).tail, _, rfl, .inl rfl, fun z => by rw [z] at tl; simp at tl; omega, by omega, jr, by omega, fun x' mu2 hx j2 e2 => ?_⟩
      have hx' : ∃ wd ∈ t.2.2.tail, x' = .str wd := by
        unfold stW at hx
        rw [← List.map_tail] at hx
        obtain ⟨wd, hwd, rfl⟩ := List.mem_map.mp hx
        exact ⟨wd, hwd, rfl⟩
      obtain ⟨wd, hwd, rfl⟩ := hx'
      refine sa_nil ?_
      refine ⟨by show 2 ≤ sizeLine; decide, ?_⟩
      refine ⟨fs.map prW, e2 _ _ (Ne.symm pF) hF, by rw [List.length_map]; exact Nat.lt_of_le_of_lt (Nat.le_trans fl l6) (by decide), ?_⟩
      refine sss_nil ?_
      refine sss_nil ?_
      refine ⟨fs ++ [(t.1, wd)], _, _, _, _, rfl, by rw [setM_same, List.map_append]; rfl, fn.add ht (List.mem_of_mem_tail hwd), fun _ => ⟨(t.1, wd), by simp, t, List.mem_of_getElem? ht, rfl, hwd⟩, (j2.mono (by omega)).set pF, (ex.trans e2).own muF⟩
    · rw [decide_eq_false hm]
      refine sss_cons ?_
      refine ss_if ?_
      refine st_cmp (op_eqD hr.units) eq_w (nomark _) ?_  -- _law_take(_law_jar_here, 3) == 0
      refine se_callD D_take (hr.mono (by decide)) ?_
      refine sa_cons ?_
      refine se_var (i := 0) rfl ?_  -- _law_jar_here
      refine sa_cons ?_
      refine se_int ?_  -- 3
      refine sa_nil ?_
      refine ⟨p, _, _, rfl, by decide, by decide, jr, by omega, fun r mu2 r0 r1 j2 e2 => ?_⟩
      refine se_int ?_  -- 0
      refine eq_ints ?_
      have hF2 := e2 _ _ (Ne.symm pF) hF
      have aw' : mst < ((i + 1 : Nat) : Int) → Away ss fs := fun z => aw (by omega)
      by_cases h0 : r = 0
      · rw [decide_eq_true h0]
        refine sss_cons ?_
        refine ss_expr ?_
        refine se_append ?_
        refine se_var (i := 3) rfl ?_  -- _law_found
        refine ⟨⟨_, hF2⟩, ?_⟩
        refine sa_one ?_
        refine se_tup ?_
        refine sa_cons ?_
        refine se_var (i := 5) rfl ?_  -- _law_name
        refine sa_cons ?_
        refine se_callD D_of (hr.mono (by decide)) ?_
        refine sa_cons ?_
        refine se_var (i := 0) rfl ?_  -- _law_jar_here
        refine sa_cons ?_
        refine se_var (i := 7) rfl ?_  -- _law_words
        refine sa_nil ?_
        refine ⟨p, _, stW t.2.2, _, rfl, .inl rfl, fun z => by have := stW_len t.2.2; rw [z] at this; simp at this; omega, by rw [stW_len]; omega, j2, by omega, fun x' mu3 hx j3 e3 => ?_⟩
        obtain ⟨wd, hwd, rfl⟩ := List.mem_map.mp hx
        refine sa_nil ?_
        refine ⟨by show 2 ≤ sizeLine; decide, ?_⟩
        refine ⟨fs.map prW, e3 _ _ (Ne.symm pF) hF2, by rw [List.length_map]; exact Nat.lt_of_le_of_lt (Nat.le_trans fl l6) (by decide), ?_⟩
        refine sss_nil ?_
        refine sss_nil ?_
        refine sss_nil ?_
        refine ⟨fs ++ [(t.1, wd)], _, _, _, _, rfl, by rw [setM_same, List.map_append]; rfl, fn.add ht hwd, fun z => ?_, (j3.mono (by omega)).set pF, ((ex.trans e2).trans e3).own muF⟩
        obtain ⟨r', h1, h2⟩ := aw' z
        exact ⟨r', by simp [h1], h2⟩
      · rw [decide_eq_false h0]
        refine sss_nil ?_
        refine sss_nil ?_
        refine sss_nil ?_
        exact ⟨fs, _, _, _, _, rfl, hF2, fn.skip ht, aw', j2.mono (by omega), ex.trans e2⟩
  · subst eG
    rw [enumW_len, List.length_map] at fn aw jr
    refine sss_cons (ss_ret ?_)
    refine se_tupleC ?_ B.tuple
    refine se_sorted hr ?_ B.sorted
    refine se_var (i := 3) rfl ?_  -- _law_found
    obtain ⟨s1, s2, s3, s4⟩ := sort_prs (fs := fs)
    refine ⟨_, hF, s1, s2, s3, by rw [List.length_map]; exact Nat.le_trans (Nat.le_trans fn.len l6) (by decide), s4, fun q nq => ?_⟩
    refine ⟨_, setM_same, ?_⟩
    rw [sorted_map]
    obtain ⟨r', h1, h2⟩ := aw (by omega)
    exact h (asPat fs) _ (fn.pat nd l6) ⟨r', (asPat_perm fs).mem_iff.mpr h1, h2⟩ ((jr.mono (by omega)).set (jr.ne nq)) (ex.setNew nq)
end
end K1
set_option Elab.async false
set_option linter.all false
set_option maxRecDepth 100000
namespace K1
open PySem L2 Dv
section
variable {P : Program} {w : World} {K : PySem.W.Frag} {mg : Str → Option Value} {base : Heap}
abbrev s_Lpart : Stmt := top 41
theorem sc_Lpart : FnScope ["_law_jar_here", "_law_slots", "_law_least", "_law_must", "_law_found", "_law_at", "_law_name", "_law_house", "_law_words"] ["_law_jar_here", "_law_slots", "_law_least"] (defScope s_Lpart) := ⟨rfl, rfl, rfl, by decide +kernel, rfl, by decide +kernel, by decide +kernel⟩
def S_part : SpW := fun ws mu P => ∃ p a ls ss c, ws = [.m p, .m a, .int ls] ∧ mu a = some (.lst (ss.map slW1)) ∧ a ≠ p ∧ 1 ≤ ss.length ∧ ss.length ≤ 6 ∧ (∀ s ∈ ss, 2 ≤ s.2.2.length ∧ s.2.2.length ≤ 4) ∧ (ss.map (·.1)).Nodup ∧ JarOk mu p c ∧ c + 20 < 10000 ∧
  ∀ q mu', PtOk ss q → (ls = 1 → q ≠ []) → JarOk mu' p (c + 20) → ExtBut p mu mu' → P (ptW q) mu'
theorem d_Lpart (D : Dfn K mg "_law_part" s_Lpart ["_law_jar_here", "_law_slots", "_law_least"]) (B : Bl mg) (D_take : DTake P w K mg base) (D_of : DOf P w K mg base) : DefOk P w K mg base "_law_part" ["_law_jar_here", "_law_slots", "_law_least"] 3 S_part := by
  refine dfnOk D sc_Lpart (fun ws mu P ⟨p, a, ls, ss, c, e, _⟩ => by rw [e]; rfl) (fun f cdv A outer s H E hr ws mu Pt ⟨p, a, ls, ss, c, e, ha, hap, l1, l6, w2, nd, jar, c1, h⟩ => ?_)
  subst e
  refine sss_cons ?_
  refine ss_par (i := 3) (j := 4) ?_ rfl sc_Lpart.nd (by decide) (by rfl)  -- (_law_must, _law_found) =
  refine se_callD D_take (hr.mono (by decide)) ?_
  refine sa_cons ?_
  refine se_var (i := 0) rfl ?_  -- _law_jar_here
  refine sa_cons ?_
  refine se_len ?_ B.len
  refine se_var (i := 1) rfl ?_  -- _law_slots
  refine ⟨_, ha, ?_⟩
  refine sa_nil ?_
  refine ⟨p, _, c, rfl, by rw [List.length_map]; omega, by rw [List.length_map]; omega, jar, by omega, fun mst mu1 m0 m1 j1 e1 => ?_⟩
  rw [List.length_map] at m1
  have ha1 := e1 _ _ hap ha
  refine se_lst ?_
  refine sa_nil ?_
  refine ⟨by decide, fun F nF => ?_⟩
  have nF' : ∀ {q : Addr} {cc : C}, mu1 q = some cc → q ≠ F := fun hq z => by rw [z, nF] at hq; cases hq
  have pF : p ≠ F := j1.ne nF
  have aF : a ≠ F := nF' ha1
  have muF : mu F = none := by
    cases q : mu F with
    | none => rfl
    | some cc => have := e1 F cc (Ne.symm pF) q; rw [nF] at this; cases this
  refine sss_cons ?_
  refine ss_for PassesOwn.never rfl (by intro _; rfl) ?_  -- for (_law_at, (_law_name, _law_house, _law_words)) in
  refine si_enumL ?_ B.enumerate
  refine se_var (i := 1) rfl ?_  -- _law_slots
  refine ⟨ss.map slW1, by rw [setM_ne aF]; exact ha1, ?_⟩
  refine ⟨fun i G' mu' => ∃ fs x y z u, G' = [some (.m p), some (.m a), some (.int ls), some (.int mst), some (.m F), x, y, z, u] ∧ mu' F = some (.lst (fs.map prW)) ∧ Fnd ss i fs ∧ (mst < i → ls = 1 → fs ≠ []) ∧ JarOk mu' p (c + 1 + 2 * i) ∧ ExtBut p mu mu', ⟨[], none, none, none, none, rfl, setM_same, ⟨by simp, by simp⟩, fun z => by omega, (j1.set pF), e1.own muF⟩,
    fun i G' mu' _ ⟨fs, x, y, z, u, eG, hF, fn, aw, jr, ex⟩ => ex _ _ hap ha, fun i w G' mu' hw ⟨fs, x, y, z, u, eG, hF, fn, aw, jr, ex⟩ => ?_, fun G' mu' ⟨fs, x, y, z, u, eG, hF, fn, aw, jr, ex⟩ => ?_⟩
  · subst eG
    rw [enumW_get, List.getElem?_map] at hw
    cases ht : ss[i]? with
    | none => rw [ht] at hw; cases hw
    | some t =>
    rw [ht] at hw
    cases hw
    have hi : i < ss.length := (List.getElem?_eq_some_iff.mp ht).1
    have tm := w2 t (List.mem_of_getElem? ht)
    refine sg_tup (sgs_cons (sg_name (i := 5) (sgs_cons (sg_tup (sgs_cons (sg_name (i := 6) (sgs_cons (sg_name (i := 7) (sgs_cons (sg_name (i := 8) (sgs_nil (sgs_nil ?_)) sc_Lpart.nd)) sc_Lpart.nd)) sc_Lpart.nd)))) sc_Lpart.nd))
    refine sss_cons ?_
    refine ss_if ?_
    refine st_of_w ?_
    refine sw_or ?_
    refine st_of_w ?_
    refine sw_and ?_
    refine st_cmp (op_eqD hr.units) eq_w (nomark _) ?_  -- _law_least == 1
    refine se_var (i := 2) rfl ?_  -- _law_least
    refine se_int ?_  -- 1
    refine eq_ints ?_
    have fl := fn.len
    by_cases hl : ls = 1
    · rw [decide_eq_true hl]
      refine sw_and1 ?_
      refine st_cmp (op_eqD hr.units) eq_w (nomark _) ?_  -- _law_at == _law_must
      refine se_var (i := 5) rfl ?_  -- _law_at
      refine se_var (i := 3) rfl ?_  -- _law_must
      refine eq_ints ?_
      by_cases hm : (i : Int) = mst
      · rw [decide_eq_true hm]
        refine sss_cons ?_
        refine ss_expr ?_
        refine se_append ?_
        refine se_var (i := 4) rfl ?_  -- _law_found
        refine ⟨⟨_, hF⟩, ?_⟩
        refine sa_one ?_
        refine se_tup ?_
        refine sa_cons ?_
        refine se_var (i := 6) rfl ?_  -- _law_name
        refine sa_cons ?_
        refine se_callD D_of (hr.mono (by decide)) ?_
        refine sa_cons ?_
        refine se_var (i := 0) rfl ?_  -- _law_jar_here
        refine sa_cons ?_
        refine se_var (i := 8) rfl ?_  -- _law_words
        refine sa_nil ?_
        refine ⟨p, _, stW t.2.2, _, rfl, .inl rfl, fun z => by have := stW_len t.2.2; rw [z] at this; simp at this; omega, by rw [stW_len]; omega, jr, by omega, fun x' mu3 hx j3 e3 => ?_⟩
        obtain ⟨wd, hwd, rfl⟩ := List.mem_map.mp hx
        refine sa_nil ?_
        refine ⟨by show 2 ≤ sizeLine; decide, ?_⟩
        refine ⟨fs.map prW, e3 _ _ (Ne.symm pF) hF, by rw [List.length_map]; exact Nat.lt_of_le_of_lt (Nat.le_trans fl l6) (by decide), ?_⟩
        refine sss_nil ?_
        refine sss_nil ?_
        exact ⟨fs ++ [(t.1, wd)], _, _, _, _, rfl, by rw [setM_same, List.map_append]; rfl, fn.add ht hwd, fun _ _ z => by simp at z, (j3.mono (by omega)).set pF, (ex.trans e3).own muF⟩
      · rw [decide_eq_false hm]
        refine sw_or1 ?_
        refine st_cmp (op_eqD hr.units) eq_w (nomark _) ?_  -- _law_take(_law_jar_here, 3) == 0
        refine se_callD D_take (hr.mono (by decide)) ?_
        refine sa_cons ?_
        refine se_var (i := 0) rfl ?_  -- _law_jar_here
        refine sa_cons ?_
        refine se_int ?_  -- 3
        refine sa_nil ?_
        refine ⟨p, _, _, rfl, by decide, by decide, jr, by omega, fun r mu2 r0 r1 j2 e2 => ?_⟩
        refine se_int ?_  -- 0
        refine eq_ints ?_
        have hF2 := e2 _ _ (Ne.symm pF) hF
        by_cases h0 : r = 0
        · rw [decide_eq_true h0]
          refine sss_cons ?_
          refine ss_expr ?_
          refine se_append ?_
          refine se_var (i := 4) rfl ?_  -- _law_found
          refine ⟨⟨_, hF2⟩, ?_⟩
          refine sa_one ?_
          refine se_tup ?_
          refine sa_cons ?_
          refine se_var (i := 6) rfl ?_  -- _law_name
          refine sa_cons ?_
          refine se_callD D_of (hr.mono (by decide)) ?_
          refine sa_cons ?_
          refine se_var (i := 0) rfl ?_  -- _law_jar_here
          refine sa_cons ?_
          refine se_var (i := 8) rfl ?_  -- _law_words
          refine sa_nil ?_
          refine ⟨p, _, stW t.2.2, _, rfl, .inl rfl, fun z => by have := stW_len t.2.2; rw [z] at this; simp at this; omega, by rw [stW_len]; omega, j2, by omega, fun x' mu3 hx j3 e3 => ?_⟩
          obtain ⟨wd, hwd, rfl⟩ := List.mem_map.mp hx
          refine sa_nil ?_
          refine ⟨by show 2 ≤ sizeLine; decide, ?_⟩
          refine ⟨fs.map prW, e3 _ _ (Ne.symm pF) hF2, by rw [List.length_map]; exact Nat.lt_of_le_of_lt (Nat.le_trans fl l6) (by decide), ?_⟩
          refine sss_nil ?_
          refine sss_nil ?_
          exact ⟨fs ++ [(t.1, wd)], _, _, _, _, rfl, by rw [setM_same, List.map_append]; rfl, fn.add ht hwd, fun _ _ z => by simp at z, (j3.mono (by omega)).set pF, ((ex.trans e2).trans e3).own muF⟩
        · rw [decide_eq_false h0]
          refine sss_nil ?_
          refine sss_nil ?_
          exact ⟨fs, _, _, _, _, rfl, hF2, fn.skip ht, fun z1 z2 => aw (by omega) z2, j2.mono (by omega), ex.trans e2⟩
    · rw [decide_eq_false hl]
      refine sw_or1 ?_
      refine st_cmp (op_eqD hr.units) eq_w (nomark _) ?_  -- _law_take(_law_jar_here, 3) == 0
      refine se_callD D_take (hr.mono (by decide)) ?_
      refine sa_cons ?_
      refine se_var (i := 0) rfl ?_  -- _law_jar_here
      refine sa_cons ?_
      refine se_int ?_  -- 3
      refine sa_nil ?_
      refine ⟨p, _, _, rfl, by decide, by decide, jr, by omega, fun r mu2 r0 r1 j2 e2 => ?_⟩
      refine se_int ?_  -- 0
      refine eq_ints ?_
      have hF2 := e2 _ _ (Ne.symm pF) hF
      by_cases h0 : r = 0
      · rw [decide_eq_true h0]
        refine sss_cons ?_
        refine ss_expr ?_
        refine se_append ?_
        refine se_var (i := 4) rfl ?_  -- _law_found
        refine ⟨⟨_, hF2⟩, ?_⟩
        refine sa_one ?_
        refine se_tup ?_
        refine sa_cons ?_
        refine se_var (i := 6) rfl ?_  -- _law_name
        refine sa_cons ?_
        refine se_callD D_of (hr.mono (by decide)) ?_
        refine sa_cons ?_
        refine se_var (i := 0) rfl ?_  -- _law_jar_here
        refine sa_cons ?_
        refine se_var (i := 8) rfl ?_  -- _law_words
        refine sa_nil ?_
        refine ⟨p, _, stW t.2.2, _, rfl, .inl rfl, fun z => by have := stW_len t.2.2; rw [z] at this; simp at this; omega, by rw [stW_len]; omega, j2, by omega, fun x' mu3 hx j3 e3 => ?_⟩
        obtain ⟨wd, hwd, rfl⟩ := List.mem_map.mp hx
        refine sa_nil ?_
        refine ⟨by show 2 ≤ sizeLine; decide, ?_⟩
        refine ⟨fs.map prW, e3 _ _ (Ne.symm pF) hF2, by rw [List.length_map]; exact Nat.lt_of_le_of_lt (Nat.le_trans fl l6) (by decide), ?_⟩
        refine sss_nil ?_
        refine sss_nil ?_
        exact ⟨fs ++ [(t.1, wd)], _, _, _, _, rfl, by rw [setM_same, List.map_append]; rfl, fn.add ht hwd, fun _ _ z => by simp at z, (j3.mono (by omega)).set pF, ((ex.trans e2).trans e3).own muF⟩
      · rw [decide_eq_false h0]
        refine sss_nil ?_
        refine sss_nil ?_
        exact ⟨fs, _, _, _, _, rfl, hF2, fn.skip ht, fun z1 z2 => absurd z2 hl, j2.mono (by omega), ex.trans e2⟩
  · subst eG
    rw [enumW_len, List.length_map] at fn aw jr
    refine sss_cons (ss_ret ?_)
    refine se_tupleC ?_ B.tuple
    refine se_sorted hr ?_ B.sorted
    refine se_var (i := 4) rfl ?_  -- _law_found
    obtain ⟨s1, s2, s3, s4⟩ := sort_prs (fs := fs)
    refine ⟨_, hF, s1, s2, s3, by rw [List.length_map]; exact Nat.le_trans (Nat.le_trans fn.len l6) (by decide), s4, fun q nq => ?_⟩
    refine ⟨_, setM_same, ?_⟩
    rw [sorted_map]
    exact h (asPat fs) _ (fn.pat nd l6) (fun z1 z2 => aw (by omega) z1 (by
      have := (asPat_perm fs).length_eq
      rw [z2] at this
      exact List.length_eq_zero_iff.mp this.symm)) ((jr.mono (by omega)).set (jr.ne nq)) (ex.setNew nq)
end
end K1
set_option Elab.async false
set_option linter.all false
set_option maxRecDepth 100000
/-! Tuples put together, by values. -/
namespace Dv
open PySem L2
section
variable {X : Cx} {e a b c : Expr} {es : List Expr} {G : Gs} {mu mu' : Mu} {pos p : Pos} {P : PW1} {K : PySem.W.Frag} {H : Hp}
abbrev catTV (w1 w2 : W) (mu : Mu) (P : PW1) : Prop := match w1, w2 with | .tup us, .tup zs => us.length + zs.length ≤ sizeLine ∧ P (.tup (us ++ zs)) mu | _, _ => False
theorem catT_w : OpW X (rCatA X.K) catTV := fun w1 w2 x y mu H P Q dx dy m h k => by
  unfold catTV at h
  split at h
  · rename_i us zs
    obtain ⟨a, xs, rfl, s1, d1⟩ := dx
    obtain ⟨b, ys, rfl, s2, d2⟩ := dy
    have d12 := DenAll.append d1 d2
    refine ⟨a, b, xs, ys, rfl, rfl, s1, s2, by rw [← d1.length, ← d2.length]; exact h.1, fun z => ?_, fun _ z => ?_, fun _ _ q hq => ?_⟩
    · refine k.now h.2 ⟨b, ys, rfl, s2, ?_⟩ m
      rw [z] at d12
      exact d12
    · refine k.now h.2 ⟨a, xs, rfl, s1, ?_⟩ m
      rw [z, List.append_nil] at d12
      exact d12
    · obtain ⟨c2, m2⟩ := laid (o := .tup (xs ++ ys)) m hq
      exact k _ _ _ _ h.2 c2 ⟨q, _, rfl, SqT.of upd_same, c2.denAll m d12⟩ m2
  · exact h.elim
end
end Dv
set_option Elab.async false
set_option linter.all false
set_option maxRecDepth 100000
namespace K1
open PySem L2 Dv
theorem grow_app (a b : List (List Str)) (wd : List Str) : grow (a ++ b) wd = grow a wd ++ grow b wd := by
  unfold grow
  rw [List.flatMap_append]
section
variable {P : Program} {w : World} {K : PySem.W.Frag} {mg : Str → Option Value} {base : Heap}
abbrev s_Lstands : Stmt := top 45
theorem sc_Lstands : FnScope ["_law_lore", "_law_found", "_law_name", "_law_house", "_law_words", "_law_longer", "_law_stand", "_law_word"] ["_law_lore"] (defScope s_Lstands) := ⟨rfl, rfl, rfl, by decide +kernel, rfl, by decide +kernel, by decide +kernel⟩
def S_Lstands : SpW := fun ws mu P => ∃ L v, ws = [.m L] ∧ Lore mu L v ∧ v.slots ≠ [] ∧ v.slots.length ≤ 10 ∧ (∀ s ∈ v.slots, 1 ≤ s.2.2.length) ∧ manyS v.slots ≤ 32 ∧ ∀ mu', Ext mu mu' → P (.tup (standsW v.slots)) mu'
theorem d_Lstands (D : Dfn K mg "_law_stands" s_Lstands ["_law_lore"]) (B : Bl mg) : DefOk P w K mg base "_law_stands" ["_law_lore"] 1 S_Lstands := by
  refine dfnOk D sc_Lstands (fun ws mu P ⟨L, v, e, _⟩ => by rw [e]; rfl) (fun f cdv A outer s H E hr ws mu Pt ⟨L, v, e, lore, ne, l10, w1, h32, h⟩ => ?_)
  subst e
  refine sss_cons ?_
  refine ss_asg ?_
  refine se_lst ?_
  refine sa_cons ?_
  refine se_tup ?_
  refine sa_nil ?_
  refine ⟨by decide, ?_⟩
  refine sa_nil ?_
  refine ⟨by decide, fun p0 np0 => ?_⟩
  refine sg_name (i := 1) ?_ sc_Lstands.nd
  have e0 : Ext mu (setM mu p0 (.lst [.tup []])) := Ext.refl.set np0
  have sz : ∀ i, (raw (v.slots.take i)).length ≤ 32 := fun i => by
    unfold raw
    rw [raw_len, List.length_singleton, Nat.one_mul]
    exact Nat.le_trans (manyS_le w1 i).2 h32
  refine sss_cons ?_
  refine ss_for PassesOwn.never rfl (by intro _; rfl) ?_
  refine si_tup ?_
  refine se_dget (hu_of hr) (se_var (i := 0) rfl (se_str ((lore.ext e0).slots ?_)))
  refine ⟨fun i G' mu' => Ext mu mu' ∧ ∃ q x y z u t t', mu' q = some (.lst ((raw (v.slots.take i)).map nmW)) ∧ G' = [some (.m L), some (.m q), x, y, z, u, t, t'], ⟨e0, p0, none, none, none, none, none, none, setM_same, rfl⟩, fun _ _ _ _ _ => trivial, fun i w G' mu' hw ⟨e1, q, x, y, z, u, t1, t2, hq, eG⟩ => ?_, fun G' mu' ⟨e1, q, x, y, z, u, t1, t2, hq, eG⟩ => ?_⟩
  · subst eG
    rw [List.getElem?_map] at hw
    cases ht : v.slots[i]? with
    | none => rw [ht] at hw; cases hw
    | some t =>
    rw [ht] at hw
    cases hw
    refine sg_tup (sgs_cons (sg_name (i := 2) (sgs_cons (sg_name (i := 3) (sgs_cons (sg_name (i := 4) (sgs_nil ?_) sc_Lstands.nd)) sc_Lstands.nd)) sc_Lstands.nd))
    refine sss_cons ?_
    refine ss_asg ?_
    refine se_lst ?_
    refine sa_nil ?_
    refine ⟨by decide, fun F nF => ?_⟩
    refine sg_name (i := 5) ?_ sc_Lstands.nd  -- _law_longer =
    have qF : q ≠ F := fun zz => by rw [zz, nF] at hq; cases hq
    have muF : mu F = none := Ext.none e1 nF
    refine sss_cons ?_
    refine ss_for PassesOwn.never rfl (by intro _; rfl) ?_  -- for _law_stand in
    refine si_lst ?_
    refine se_var (i := 1) rfl ?_  -- _law_found
    refine ⟨_, by rw [setM_ne qF]; exact hq, ?_⟩
    refine ⟨fun j G' mu' => ∃ t3 t4, Ext mu mu' ∧ mu' q = some (.lst ((raw (v.slots.take i)).map nmW)) ∧ mu' F = some (.lst ((grow ((raw (v.slots.take i)).take j) t.2.2).map nmW)) ∧ G' = [some (.m L), some (.m q), some (.str t.1), some (.str t.2.1), some (nmW t.2.2), some (.m F), t3, t4], ⟨t1, t2, Ext.own e1 muF, by rw [setM_ne qF]; exact hq, setM_same, rfl⟩, fun _ _ _ _ ⟨_, _, _, hh, _⟩ => hh, fun j w G' mu2 hw ⟨t3, t4, e2, hq2, hF2, eG⟩ => ?_, fun G' mu2 ⟨t3, t4, e2, hq2, hF2, eG⟩ => ?_⟩
    · subst eG
      rw [List.getElem?_map] at hw
      cases hst : (raw (v.slots.take i))[j]? with
      | none => rw [hst] at hw; cases hw
      | some st =>
      rw [hst] at hw
      cases hw
      have hm := List.mem_of_getElem? hst
      have hl := raw_each (v.slots.take i) [[]] 0 (by simp) st hm
      have hj : j < (raw (v.slots.take i)).length := (List.getElem?_eq_some_iff.mp hst).1
      refine sg_name (i := 6) ?_ sc_Lstands.nd
      refine sss_cons ?_
      refine ss_expr ?_
      refine se_extend ?_
      refine se_var (i := 5) rfl ?_  -- _law_longer
      refine ⟨⟨_, hF2⟩, ?_⟩
      refine sa_one ?_
      refine se_lc (own := [("_law_word", 7)]) (.nm 7) rfl sc_Lstands.nd (blkOk_by (N := ["_law_lore", "_law_found", "_law_name", "_law_house", "_law_words", "_law_longer", "_law_stand", "_law_word"]) (sc := defScope s_Lstands) (by decide +kernel)) rfl (fun _ _ _ _ _ => (pg_name (i := 7) sc_Lstands.nd rfl (Or.inl rfl))) (by intro _; rfl) ?_
      refine si_tup ?_
      refine se_var (i := 4) rfl ?_  -- _law_words
      have g32 : (grow (raw (v.slots.take i)) t.2.2).length ≤ 32 := by
        rw [← raw_take ht]
        exact sz (i + 1)
      have wl : t.2.2.length ≤ 32 := by
        have h1 := g32
        rw [grow_len] at h1
        have : 1 * t.2.2.length ≤ (raw (v.slots.take i)).length * t.2.2.length := Nat.mul_le_mul_right _ (by omega)
        omega
      refine lc_pure (fun x => match x with | .str x => nmW (st ++ [x]) | _ => .non) (fun _ _ => trivial) (by rw [stW_len]; exact Nat.le_trans wl (by decide)) ?_ InBlk.mono ?_
      · intro w mu3 hw he
        obtain ⟨x', hx, rfl⟩ := List.mem_map.mp hw
        refine ⟨_, rfl, fun s H C cl fp => ?_⟩
        refine se_bin op_catA catT_w ?_
        refine se_var (i := 6) rfl ?_  -- _law_stand
        refine se_tup ?_
        refine sa_cons ?_
        refine se_var (i := 7) rfl ?_  -- _law_word
        refine sa_nil ?_
        refine ⟨by show 1 ≤ sizeLine; decide, ?_, ?_, Ext.refl⟩
        · rw [stW_len, hl, List.length_take]
          show 0 + min i v.slots.length + 1 ≤ sizeLine
          exact Nat.le_trans (by omega : _ ≤ 11) (by decide)
        · show W.tup (stW st ++ [.str x']) = W.tup (stW (st ++ [x']))
          unfold stW
          rw [List.map_append]
          rfl
      · intro Dd mu3 hD he he2
        have em : (stW t.2.2).map (fun x => match x with | .str x => nmW (st ++ [x]) | _ => W.non) = (t.2.2.map fun x => st ++ [x]).map nmW := by
          unfold stW
          rw [List.map_map, List.map_map]
          rfl
        rw [em] at he2 ⊢
        have tkj : (raw (v.slots.take i)).take (j + 1) = (raw (v.slots.take i)).take j ++ [st] := by
          rw [List.take_add_one, hst]
          rfl
        have gr : grow ((raw (v.slots.take i)).take (j + 1)) t.2.2 = grow ((raw (v.slots.take i)).take j) t.2.2 ++ t.2.2.map fun x => st ++ [x] := by
          rw [tkj, grow_app]
          unfold grow
          simp
        have gl : (grow ((raw (v.slots.take i)).take (j + 1)) t.2.2).length ≤ 32 := by
          rw [grow_len, List.length_take]
          rw [grow_len] at g32
          exact Nat.le_trans (Nat.mul_le_mul_right _ (Nat.min_le_right _ _)) g32
        have FD : F ≠ Dd := fun zz => by rw [← zz, hF2] at hD; cases hD
        refine ⟨_, _, he2 _ _ hF2, setM_same, ?_, ?_⟩
        · rw [List.length_map, List.length_map, ← List.length_append, ← gr]
          exact Nat.le_trans gl (by decide)
        · refine sss_nil ?_
          refine ⟨_, _, Ext.own (e2.trans he2) muF, by rw [setM_ne qF]; exact he2 _ _ hq2, ?_, rfl⟩
          rw [setM_same, gr, List.map_append]
    · subst eG
      rw [List.length_map, List.take_length, ← raw_take ht] at hF2
      refine sss_cons ?_
      refine ss_asg ?_
      refine se_var (i := 5) rfl ?_  -- _law_longer
      refine sg_name (i := 1) ?_ sc_Lstands.nd  -- _law_found =
      exact sss_nil ⟨e2, F, _, _, _, _, _, _, hF2, rfl⟩
  · subst eG
    rw [List.length_map, List.take_length] at hq
    refine sss_cons (ss_ret ?_)
    refine se_tupleC ?_ B.tuple
    refine se_sorted hr ?_ B.sorted
    refine se_var (i := 1) rfl ?_
    have nE : ∀ st ∈ raw v.slots, st ≠ [] := fun st hst z => by
      have := raw_each v.slots [[]] 0 (by simp) st hst
      rw [z] at this
      cases hs : v.slots with
      | nil => exact ne hs
      | cons a r => rw [hs] at this; simp at this
    obtain ⟨s1, s2, s3, s4⟩ := sort_stands nE
    refine ⟨_, hq, s1, s2, s3, ?_, s4, fun p np => ?_⟩
    · rw [List.length_map]
      have := sz v.slots.length
      rw [List.take_length] at this
      exact Nat.le_trans this (by decide)
    · exact ⟨_, setM_same, h _ (e1.trans (Ext.refl.set np))⟩
end
end K1
set_option Elab.async false
set_option linter.all false
set_option maxRecDepth 100000
/-! dict(list(d.items())) by values. -/
namespace Dv
open PySem L2
section
variable {X : Cx} {e a b c : Expr} {es : List Expr} {G : Gs} {mu mu' : Mu} {pos p apos cpos : Pos} {P : PW1} {K : PySem.W.Frag} {H H' : Hp}
theorem sqt_grown (g : ∀ b o, H b = some o → H' b = some o) {a : Addr} {xs : List V} (s : SqT K H a xs) : SqT K H' a xs := by
  rcases s with (s | ⟨o, s⟩) | s
  · exact .inl (.inl (g _ _ s))
  · exact .inl (.inr ⟨o, g _ _ s⟩)
  · exact .inr s
theorem grown (m : HM K H mu) (g : ∀ b o, H b = some o → H' b = some o) : Chg mu H mu H' ∧ HM K H' mu := by
  refine ⟨⟨fun b o h _ => g b o h, fun b c h => ⟨c, h⟩, fun _ _ _ h => h⟩, fun a c h => ?_⟩
  obtain ⟨o, q⟩ := m.some h
  exact CellOk.mono (fun a xs s => sqt_grown g s) (m a c h) ((g _ _ q).trans q.symm)
def prsW (kvs : List (Key × W)) : List W := kvs.map fun q => .tup [kW q.1, q.2]
theorem den_prs : ∀ {ts : List Addr} {vs : List (Key × V)} {kvs : List (Key × W)}, Paired (fun (t : Addr) (q : Key × V) => H t = some (.tup [kV q.1, q.2])) ts vs → DKV K H kvs vs → DenAll K H (prsW kvs) (ts.map V.ref)
  | [], [], kvs, _, d => by
    have := congrArg List.length d.1
    cases kvs with
    | nil => exact rfl
    | cons x y => simp at this
  | t :: ts, q :: vs, kvs, .cons h r, d => by
    obtain ⟨k, v⟩ := q
    cases kvs with
    | nil => have := congrArg List.length d.1; simp at this
    | cons x y =>
      obtain ⟨j, w⟩ := x
      obtain ⟨v', vs', e, d1, d2⟩ := d.cons
      cases e
      exact ⟨.ref t, ts.map V.ref, rfl, ⟨t, [kV k, v], rfl, SqT.of h, kV k, [v], rfl, kV_den, v, [], rfl, d1, rfl⟩, den_prs r d2⟩
theorem se_listItems (h : SE X e G mu fun w mu1 => ∃ d kvs, w = .m d ∧ mu1 d = some (.dic kvs) ∧ ∀ l, mu1 l = none → P (.m l) (setM mu1 l (.lst (prsW kvs)))) (hc : X.calm = true) (hm : X.mg "list" = none) (hg : Gl X "list" := by rfl) (hv : bootBuiltins "list" = some (.type "list") := by decide +kernel)
    (hbase : attributeBase e "items" X.env (eval e X.env) = eval e X.env := by rfl) (hline : (apos.endLine == cpos.line) = true := by rfl)
    (hs : starEach [.Call (.Attribute e "items" apos) [] [] cpos] X.env = (false, eval (.Call (.Attribute e "items" apos) [] [] cpos) X.env) :: starEach [] X.env := by rfl) :
    SE X (.Call (.Name "list" p) [.Call (.Attribute e "items" apos) [] [] cpos] [] pos) G mu P :=
  SE.mk (LiI.pe_listItems hc peE hg hm hv hbase hline hs) fun σ H Q d m k => h σ H _ d m fun v w mu1 H1 h1 c1 d1 m1 => by
    obtain ⟨dd, kvs, rfl, hk, q⟩ := h1
    have d1 : v = .ref dd := d1
    subst d1
    obtain ⟨vs, hx, dk⟩ := m1 dd _ hk
    have dk : DKV X.K H1 kvs vs := dk
    refine ⟨dd, vs, rfl, hx, fun H' l ts g hl ht hlt hl' pr => ?_⟩
    obtain ⟨c2, m2⟩ := grown (K := X.K) m1 g
    have nl := m1.dom hl
    have dk2 : DKV X.K H' kvs vs := ⟨dk.1, DenAll.mono (fun a xs s => sqt_grown g s) _ dk.2⟩
    refine k _ _ _ _ (q l nl) (c1.trans ⟨fun b o hb n => g b o hb, fun b cc hb => ?_, fun b o hb n => ?_⟩) rfl fun a cc ha => ?_
    · by_cases z : b = l
      · subst z; exact ⟨_, setM_same⟩
      · rw [setM_ne z]; exact ⟨cc, hb⟩
    · rw [setM_ne (ne_of_none hb hl)]; exact n
    · by_cases z : a = l
      · subst z
        rw [setM_same] at ha
        cases ha
        exact ⟨_, hl', den_prs pr dk2⟩
      · rw [setM_ne z] at ha
        exact m2 a cc ha
/-- dict of a list of pairs -/
abbrev dcpV (ws : List W) (mu : Mu) (P : PW1) : Prop := match ws with | [.m l] => ∃ kvs, mu l = some (.lst (prsW kvs)) ∧ (kvs.map (·.1)).Nodup ∧ ∀ p, mu p = none → P (.m p) (setM mu p (.dic kvs)) | _ => False
theorem den_back : ∀ {kvs : List (Key × W)} {xs : List V}, DenAll K H (prsW kvs) xs → ∃ (ps : List Addr) (vs : List (Key × V)), xs = ps.map V.ref ∧ Paired (fun p (kv : Key × V) => SqT K H p [kV kv.1, kv.2]) ps vs ∧ DKV K H kvs vs
  | [], xs, d => ⟨[], [], d, .nil, rfl, rfl⟩
  | (j, w) :: r, xs, d => by
    obtain ⟨v, vs, rfl, ⟨t, ys, rfl, s, ya, yr, rfl, da, yb, yr2, rfl, db, hn⟩, dr⟩ := d
    obtain ⟨ps, vs', rfl, pr, dk⟩ := den_back dr
    cases hn
    have := kW_den da
    subst this
    exact ⟨t :: ps, (j, yb) :: vs', rfl, .cons s pr, DKV.mk db dk⟩
theorem dcp_w : CallW X (fun xs H Q => ∃ (a : Addr) (ps : List Addr) (kvs : List (Key × V)), xs = [.ref a] ∧ SqL X.K H a (ps.map V.ref) ∧ Paired (fun p kv => SqT X.K H p [kV kv.1, kv.2]) ps kvs ∧ ∀ p, H p = none → Q (.ref p) (upd H p (.dK (mergeK [] kvs)))) dcpV := fun ws vs mu H P Q d m h k => by
  unfold dcpV at h
  split at h
  · rename_i l
    obtain ⟨kvs, hl, hn, q⟩ := h
    obtain ⟨v, rfl, dv⟩ := d.one
    have dv : v = .ref l := dv
    subst dv
    obtain ⟨xs, hx, dx⟩ := m l _ hl
    obtain ⟨ps, vs, rfl, pr, dk⟩ := den_back dx
    refine ⟨l, ps, vs, rfl, SqL.of hx, pr, fun p hp => ?_⟩
    have em : mergeK [] vs = vs := by rw [mergeK_new vs [] (by rw [List.nil_append, ← dk.1]; exact hn)]; rfl
    rw [em]
    obtain ⟨c2, m2⟩ := laidC (o := .dK vs) (c := .dic kvs) m hp (newDic dk)
    exact k _ _ _ _ (q p (m.dom hp)) c2 rfl m2
  · exact h.elim
theorem se_dictC (h : SE X e G mu fun w mu1 => dcpV [w] mu1 P) (hc : X.calm = true) (hm : X.mg "dict" = none) (hv : bootBuiltins ("dict" : Str) = some (.type "dict") := by decide +kernel) (hg : Gl X "dict" := by rfl) (he : starEach [e] X.env = [(false, eval e X.env)] := by rfl) (hpl : (backTo pos (starEach [] X.env)).any (·.1) = false := by rfl) : SE X (.Call (.Name "dict" p) [e] [] pos) G mu P :=
  se_bty (call_dictP hc) dcp_w hm (sa_one h he) hv hg (by decide) (by decide) he hpl
end
end Dv
set_option Elab.async false
set_option linter.all false
set_option maxRecDepth 100000
/-! Texts joined, by values. -/
namespace Dv
open PySem L2
section
variable {X : Cx} {e a b c o : Expr} {es : List Expr} {G : Gs} {mu mu' : Mu} {pos p apos cpos : Pos} {P : PW1} {K : PySem.W.Frag} {H H' : Hp}
theorem se_join (h : SE X o G mu fun w mu1 => ∃ z, w = .str z ∧ SE X e G mu1 fun w2 mu2 => ∃ l, ∃ ys : List Str, w2 = .m l ∧ mu2 l = some (.lst (ys.map W.str)) ∧ (ys.map (·.length)).sum + ys.length * z.length ≤ 16777216 ∧ P (.str (Txt.join z ys)) mu2)
    (hs : starEach [e] X.env = [(false, eval e X.env)] := by rfl) (hbase : attributeBase o "join" X.env (eval o X.env) = eval o X.env := by rfl) (hline : (apos.endLine == pos.line) = true := by rfl) : SE X (.Call (.Attribute o "join" apos) [e] [] pos) G mu P :=
  SE.mk (pe_join peE peE hs hbase hline) fun σ H Q d m k => h σ H _ d m fun x w mu1 H1 ⟨z, e1, h1⟩ c1 d1 m1 => by
    subst e1
    refine ⟨⟨z, d1⟩, h1 σ H1 _ (c1.denG m d) m1 fun y w2 mu2 H2 ⟨l, ys, e2, hl, hz, q⟩ c2 d2 m2 => ?_⟩
    subst e2
    have d2 : y = .ref l := d2
    subst d2
    obtain ⟨xs, hx, dx⟩ := m2 l _ hl
    have := denAll_str dx
    subst this
    exact ⟨z, l, ys, d1, rfl, .inl (SqL.of hx), hz, (k.step (c1.trans c2)).now q rfl m2⟩
end
end Dv
set_option Elab.async false
set_option linter.all false
set_option maxRecDepth 100000
namespace K1
open PySem L2 Dv
/-- signs that names may have -/
def Low (z : Str) : Prop := ∀ c ∈ z.cps.toList, 97 ≤ c ∧ c ≤ 122
theorem joinL_nil : ∀ ys : List (List Nat), TL.joinL [] ys = ys.flatten
  | [] => rfl
  | [p] => by simp [TL.joinL]
  | p :: q :: r => by
    have := joinL_nil (q :: r)
    simp only [TL.joinL, this, List.nil_append, List.flatten_cons]
theorem join_cps (ys : List Str) : (Txt.join "" ys).cps.toList = (ys.map fun z => z.cps.toList).flatten := by
  rw [TL.join_eq]
  have := TL.tl_join "" ys
  rw [show TL.tl "" = [] from rfl, joinL_nil] at this
  exact this
def nameAt (z : Str) (s f k : Nat) : Str := cutS z none (some (s : Nat)) ++ ⟨#[97 + (f + 3 * k) % 26]⟩ ++ cutS z (some (s : Nat)) none
theorem str_app (x y : Str) : (x ++ y).cps.toList = x.cps.toList ++ y.cps.toList := by
  show (x.cps ++ y.cps).toList = _
  rw [Array.toList_append]
theorem nameAt_cps {z : Str} {s f k : Nat} (h : s ≤ z.length) : (nameAt z s f k).cps.toList = z.cps.toList.take s ++ (97 + (f + 3 * k) % 26) :: z.cps.toList.drop s := by
  have hl : z.cps.toList.length = z.length := by rw [Array.length_toList]; rfl
  have n0 : ¬ (s : Int) < 0 := by omega
  unfold nameAt
  rw [str_app, str_app]
  have e1 : (cutS z none (some (s : Nat))).cps.toList = z.cps.toList.take s := by
    unfold cutS
    simp [HT.sIx, Nat.min_eq_left h, n0]
  have e2 : (cutS z (some (s : Nat)) none).cps.toList = z.cps.toList.drop s := by
    unfold cutS
    simp [HT.sIx, Nat.min_eq_left h, n0]
    exact List.take_of_length_le (by rw [List.length_drop, hl]; exact Nat.le_refl _)
  rw [e1, e2, List.append_assoc]
  rfl
theorem nameAt_ok {z : Str} {s f k : Nat} (h : s ≤ z.length) (hz : z.length ≤ 7) (lo : Low z) : NmOk (nameAt z s f k) := by
  have hl : z.cps.toList.length = z.length := by rw [Array.length_toList]; rfl
  have len : (nameAt z s f k).length = z.length + 1 := by
    have : (nameAt z s f k).length = (nameAt z s f k).cps.toList.length := by rw [Array.length_toList]; rfl
    rw [this, nameAt_cps h, List.length_append, List.length_cons, List.length_take, List.length_drop, hl]
    omega
  refine ⟨by omega, by omega, fun c hc => ?_⟩
  rw [nameAt_cps h] at hc
  rcases List.mem_append.mp hc with q | q
  · exact lo c (List.mem_of_mem_take q)
  · rcases List.mem_cons.mp q with q | q
    · subst q
      omega
    · exact lo c (List.mem_of_mem_drop q)
theorem nameAt_inj {z : Str} {s f k k' : Nat} (h : s ≤ z.length) (hk : k < 26) (hk' : k' < 26) (e : nameAt z s f k = nameAt z s f k') : k = k' := by
  have := congrArg (fun x : Str => x.cps.toList) e
  simp only [nameAt_cps h] at this
  have := List.append_cancel_left this
  have := (List.cons.inj this).1
  omega
section
variable {P : Program} {w : World} {K : PySem.W.Frag} {mg : Str → Option Value} {base : Heap}
abbrev s_Lnames : Stmt := top 34
theorem sc_Lnames : FnScope ["_law_jar_here", "_law_many", "_law_small", "_law_stem", "_law_turn", "_law_spot", "_law_first_here", "_law_k"] ["_law_jar_here", "_law_many"] (defScope s_Lnames) := ⟨rfl, rfl, rfl, by decide +kernel, rfl, by decide +kernel, by decide +kernel⟩
def S_names : SpW := fun ws mu P => ∃ p m c, ws = [.m p, .int ((m : Nat) : Int)] ∧ m ≤ 26 ∧ JarOk mu p c ∧ c + 20 < 10000 ∧ ∀ y ns mu', mu y = none → mu' y = some (.lst (stW ns)) → ns.length = m → ns.Nodup → (∀ n ∈ ns, NmOk n) → JarOk mu' p (c + 10) → ExtBut p mu mu' → P (.m y) mu'
theorem alpha_at (r : Nat) (h : r < 26) : atI ("abcdefghijklmnopqrstuvwxyz" : Str).cps.toList (r : Int) = some (97 + r) := by
  have hd : ∀ r, r < 26 → ("abcdefghijklmnopqrstuvwxyz" : Str).cps.toList[r]? = some (97 + r) := by decide +kernel
  exact atI_nat' (hd r h)
theorem d_Lnames (D : Dfn K mg "_law_names" s_Lnames ["_law_jar_here", "_law_many"]) (B : Bl mg) (D_take : DTake P w K mg base) (D_of : DOf P w K mg base) : DefOk P w K mg base "_law_names" ["_law_jar_here", "_law_many"] 3 S_names := by
  refine dfnOk D sc_Lnames (fun ws mu P ⟨p, m, c, e, _⟩ => by rw [e]; rfl) (fun f cdv A outer s H E hr ws mu Pt ⟨p, m, c, e, m26, jar, c1, h⟩ => ?_)
  subst e
  refine sss_cons ?_
  refine ss_asg ?_
  refine se_str ?_  -- 'abcdefghijklmnopqrstuvwxyz'
  refine sg_name (i := 2) ?_ sc_Lnames.nd  -- _law_small =
  refine sss_cons ?_
  refine ss_asg ?_
  refine se_join ?_
  refine se_str ?_  -- ''
  refine ⟨"", rfl, ?_⟩
  refine se_lc (own := [("_law_turn", 4)]) (.nm 4) rfl sc_Lnames.nd (blkOk_by (N := ["_law_jar_here", "_law_many", "_law_small", "_law_stem", "_law_turn", "_law_spot", "_law_first_here", "_law_k"]) (sc := defScope s_Lnames) (by decide +kernel)) rfl (fun _ _ _ _ _ => (pg_name (i := 4) sc_Lnames.nd rfl (Or.inl rfl))) (by intro _; rfl) ?_
  refine si_range ?_ B.range
  refine se_callD D_of (hr.mono (by decide)) ?_
  refine sa_cons ?_
  refine se_var (i := 0) rfl ?_  -- _law_jar_here
  refine sa_cons ?_
  refine se_lst ?_
  refine sa_cons (se_int (sa_cons (se_int (sa_cons (se_int (sa_cons (se_int (sa_cons (se_int (sa_nil ?_))))))))))
  refine ⟨by decide, fun q nq => ?_⟩
  refine sa_nil ?_
  have pq : p ≠ q := jar.ne nq
  refine ⟨p, .m q, _, c, rfl, .inr (.inl ⟨q, rfl, Ne.symm pq, setM_same⟩), by simp, by decide, jar.set pq, by omega, fun u mu1 hu j1 e1 => ?_⟩
  have hj : ∃ j : Nat, u = .int (j : Nat) ∧ j ≤ 7 := by
    simp only [List.mem_cons, List.not_mem_nil, or_false] at hu
    rcases hu with rfl | rfl | rfl | rfl | rfl
    · exact ⟨0, rfl, by decide⟩
    · exact ⟨0, rfl, by decide⟩
    · exact ⟨1, rfl, by decide⟩
    · exact ⟨3, rfl, by decide⟩
    · exact ⟨7, rfl, by decide⟩
  obtain ⟨n, rfl, n7⟩ := hj
  have E1 : ExtBut p mu mu1 := (ExtBut.refl.own nq).trans e1
  refine ⟨by omega, by omega, ?_⟩
  intro Dd hD
  rw [Int.toNat_natCast]
  refine ⟨fun i acc mu' => ∃ zs : List Str, acc = zs.map W.str ∧ zs.length = i ∧ (∀ z ∈ zs, z.length = 1 ∧ Low z) ∧ JarOk mu' p (c + 1 + i) ∧ ExtBut p mu mu', ⟨[], rfl, rfl, by simp, j1, E1⟩, fun _ _ _ _ _ => trivial, fun i w acc mu' hw ⟨zs, ea, el, ez, jr, ex⟩ => ?_, fun acc mu' ⟨zs, ea, el, ez, jr, ex⟩ => ?_⟩
  · have hi : i < n := by have := (List.getElem?_eq_some_iff.mp hw).1; simpa using this
    refine ⟨by rw [ea, List.length_map, el]; exact Nat.lt_of_lt_of_le (by omega : i < 10) (by decide), _, rfl, fun s H C cl fp => ?_⟩
    refine se_callD D_of (hr.mono (by decide)) ?_
    refine sa_cons ?_
    refine se_var (i := 0) rfl ?_  -- _law_jar_here
    refine sa_cons ?_
    refine se_var (i := 2) rfl ?_  -- _law_small
    refine sa_nil ?_
    refine ⟨p, _, _, _, rfl, .inr (.inr ⟨_, rfl, by decide, rfl⟩), by decide, by decide, jr, by omega, fun u mu2 hu j2 e2 => ?_⟩
    obtain ⟨cc, hcc, rfl⟩ := List.mem_map.mp hu
    refine ⟨zs ++ [⟨#[cc]⟩], by rw [ea, List.map_append]; rfl, by rw [List.length_append, el]; rfl, fun z hz => ?_, j2.mono (by omega), ex.trans e2⟩
    rcases List.mem_append.mp hz with hz | hz
    · exact ez z hz
    · rw [List.mem_singleton] at hz
      subst hz
      refine ⟨rfl, fun x hx => ?_⟩
      have hx : x ∈ [cc] := hx
      rw [List.mem_singleton] at hx
      subst hx
      have hd : ∀ x ∈ ("abcdefghijklmnopqrstuvwxyz" : Str).cps.toList, 97 ≤ x ∧ x ≤ 122 := by decide +kernel
      exact hd x hcc
  · rw [List.length_map, List.length_range] at el
    subst ea
    have sm : ∀ l : List Str, (∀ z ∈ l, z.length = 1) → (l.map (·.length)).sum = l.length := fun l => by
      induction l with
      | nil => intro _; rfl
      | cons x r ih =>
        intro hx
        rw [List.map_cons, List.sum_cons, ih fun z hz => hx z (by simp [hz]), hx x (by simp), List.length_cons, Nat.add_comm]
    have s1 := sm zs fun z hz => (ez z hz).1
    refine ⟨Dd, zs, rfl, setM_same, by rw [s1]; show zs.length + zs.length * 0 ≤ _; omega, ?_⟩
    refine sg_name (i := 3) ?_ sc_Lnames.nd  -- _law_stem =
    have hst : ∃ st, st = Txt.join "" zs := ⟨_, rfl⟩
    obtain ⟨st, hst⟩ := hst
    rw [← hst]
    have lo : Low st := fun x hx => by
      rw [hst, join_cps] at hx
      obtain ⟨l, hl, hx⟩ := List.mem_flatten.mp hx
      obtain ⟨z, hz, rfl⟩ := List.mem_map.mp hl
      exact (ez z hz).2 x hx
    have stl : st.length ≤ 7 := by
      have : st.length = st.cps.toList.length := by rw [Array.length_toList]; rfl
      rw [this, hst, join_cps, List.length_flatten, List.map_map]
      have e3 : (List.map (List.length ∘ fun z : Str => z.cps.toList) zs) = zs.map (·.length) := List.map_congr_left fun z _ => by
        show z.cps.toList.length = z.length
        rw [Array.length_toList]
        rfl
      rw [e3, s1]
      omega
    have muD : mu Dd = none := by
      cases hh : mu Dd with
      | none => rfl
      | some cc =>
        have := E1 Dd cc (fun z => by
          obtain ⟨_, _, _, g, _⟩ := j1.ex
          rw [z] at hD
          rw [hD] at g
          cases g) hh
        rw [hD] at this
        cases this
    have pD : p ≠ Dd := fun z => by
      obtain ⟨_, _, _, g, _⟩ := j1.ex
      rw [z, hD] at g
      cases g
    refine sss_cons ?_
    refine ss_asg ?_
    refine se_tup ?_
    refine sa_cons ?_
    refine se_callD D_take (hr.mono (by decide)) ?_
    refine sa_cons ?_
    refine se_var (i := 0) rfl ?_  -- _law_jar_here
    refine sa_cons ?_
    refine se_bin op_Add Add_w ?_
    refine se_len ?_ B.len
    refine se_var (i := 3) rfl ?_  -- _law_stem
    refine ⟨Nat.le_trans stl (by decide), ?_⟩
    refine se_int ?_  -- 1
    show SA _ _ _ _ _
    refine sa_nil ?_
    refine ⟨p, _, c + 1 + 7, rfl, by omega, by omega, (jr.mono (by rw [List.length_map, List.length_range]; omega)).set pD, by omega, fun sp mu2 sp0 sp1 j2 e2 => ?_⟩
    obtain ⟨sp, rfl⟩ : ∃ k : Nat, sp = k := ⟨sp.toNat, by omega⟩
    refine sa_cons ?_
    refine se_callD D_take (hr.mono (by decide)) ?_
    refine sa_cons ?_
    refine se_var (i := 0) rfl ?_  -- _law_jar_here
    refine sa_cons ?_
    refine se_int ?_  -- 26
    refine sa_nil ?_
    refine ⟨p, _, _, rfl, by decide, by decide, j2, by omega, fun fi mu3 f0 f1 j3 e3 => ?_⟩
    obtain ⟨fi, rfl⟩ : ∃ k : Nat, fi = k := ⟨fi.toNat, by omega⟩
    have sple : sp ≤ st.length := by omega
    refine sa_nil ?_
    refine ⟨by show 2 ≤ sizeLine; decide, ?_⟩
    refine sg_tup (sgs_cons (sg_name (i := 5) (sgs_cons (sg_name (i := 6) (sgs_nil ?_) sc_Lnames.nd)) sc_Lnames.nd))
    refine sss_cons ?_
    refine ss_ret ?_
    refine se_lc (own := [("_law_k", 7)]) (.nm 7) rfl sc_Lnames.nd (blkOk_by (N := ["_law_jar_here", "_law_many", "_law_small", "_law_stem", "_law_turn", "_law_spot", "_law_first_here", "_law_k"]) (sc := defScope s_Lnames) (by decide +kernel)) rfl (fun _ _ _ _ _ => (pg_name (i := 7) sc_Lnames.nd rfl (Or.inl rfl))) (by intro _; rfl) ?_
    refine si_range ?_ B.range
    refine se_var (i := 1) rfl ?_  -- _law_many
    refine ⟨by omega, by omega, ?_⟩
    rw [Int.toNat_natCast]
    refine lc_pure (fun w => match w with | .int k => .str (nameAt st sp fi k.toNat) | _ => .non) (fun _ _ => trivial) (by rw [List.length_map, List.length_range]; exact Nat.le_trans m26 (by decide)) ?_ InBlk.mono ?_
    · intro w mu' hw he
      obtain ⟨k, hk, rfl⟩ := List.mem_map.mp hw
      have hk := List.mem_range.mp hk
      refine ⟨_, rfl, fun s H C cl fp => ?_⟩
      have cl0 : ∀ lo hi, (cutS st lo hi).length ≤ 7 := fun lo hi => by
        have : (cutS st lo hi).length = (cutS st lo hi).cps.toList.length := by rw [Array.length_toList]; rfl
        rw [this]
        unfold cutS
        simp only [List.length_take, List.length_drop]
        have : st.cps.toList.length = st.length := by rw [Array.length_toList]; rfl
        omega
      refine se_bin op_add_str cat_w ?_
      refine se_bin op_add_str cat_w ?_
      refine se_slTo ?_  -- _law_stem[:_law_spot]
      refine se_var (i := 3) rfl ?_  -- _law_stem
      refine se_var (i := 5) rfl ?_  -- _law_spot
      refine ⟨Nat.le_trans stl (by decide), ?_⟩
      refine se_ix ?_
      refine se_var (i := 2) rfl ?_  -- _law_small
      refine se_bin op_Mod Mod_w ?_
      refine se_intC ?_ B.int
      refine se_bin op_Add Add_w ?_
      refine se_var (i := 6) rfl ?_  -- _law_first_here
      refine se_bin op_Mult Mult_w ?_
      refine se_int ?_  -- 3
      refine se_var (i := 7) rfl ?_  -- _law_k
      refine ⟨cmulW 2 10 (by decide) (by omega) (by decide) (by decide) (by decide), ?_⟩
      refine se_int ?_  -- 26
      refine ⟨by decide, ?_⟩
      have er : ((fi : Int) + 3 * (k : Int)) % 26 = (((fi + 3 * k) % 26 : Nat) : Int) := by omega
      refine ⟨97 + (fi + 3 * k) % 26, by decide, by rw [er]; exact alpha_at _ (by omega), ?_⟩
      have l1 := cl0 none (some (sp : Int))
      have l2 := cl0 (some (sp : Int)) none
      refine ⟨by show (cutS st none (some (sp : Int))).length + 1 ≤ sizeLine; exact Nat.le_trans (by omega : _ ≤ 8) (by decide), ?_⟩
      refine se_slFrom ?_  -- _law_stem[_law_spot:]
      refine se_var (i := 3) rfl ?_  -- _law_stem
      refine se_var (i := 5) rfl ?_  -- _law_spot
      refine ⟨Nat.le_trans stl (by decide), ?_⟩
      refine ⟨?_, rfl, Ext.refl⟩
      have : (cutS st none (some (sp : Int)) ++ (⟨#[97 + (fi + 3 * k) % 26]⟩ : Str)).length = (cutS st none (some (sp : Int))).length + 1 := by
        have hl : ∀ x : Str, x.length = x.cps.toList.length := fun x => by rw [Array.length_toList]; rfl
        rw [hl, str_app, List.length_append, ← hl]
        rfl
      rw [this]
      exact Nat.le_trans (by omega : _ ≤ 15) (by decide)
    · intro Y mu' hY he he2
      have em : ((List.range m).map fun i => W.int ((i : Nat) : Int)).map (fun w => match w with | .int k => .str (nameAt st sp fi k.toNat) | _ => W.non) = stW ((List.range m).map (nameAt st sp fi)) := by
        unfold stW
        rw [List.map_map, List.map_map]
        rfl
      rw [em]
      have E3 : ExtBut p mu mu3 := ((ex.own muD).trans e2).trans e3
      have muY : mu Y = none := by
        cases hh : mu Y with
        | none => rfl
        | some cc =>
          have := E3 Y cc (fun z => (j3.ne hY) z.symm) hh
          rw [hY] at this
          cases this
      refine h Y _ _ muY setM_same (by rw [List.length_map, List.length_range]) ?_ ?_ (((j3.ext he).mono (by omega)).set (j3.ne hY)) ((E3.trans (Ext.but he)).own muY)
      · rw [List.Nodup, List.pairwise_map]
        refine List.Pairwise.imp_of_mem (fun {a b} ha hb hne e => hne ?_) List.nodup_range
        exact nameAt_inj sple (by have := List.mem_range.mp ha; omega) (by have := List.mem_range.mp hb; omega) e
      · intro n hn
        obtain ⟨k, hk, rfl⟩ := List.mem_map.mp hn
        exact nameAt_ok sple stl lo
end
end K1
set_option Elab.async false
set_option linter.all false
set_option maxRecDepth 100000
/-! set(xs) of texts, any number, and its len. -/
namespace TxSet
open PyProof.Rows PySem.Spec PySem
/-- the texts once each, in the order of their first place -/
def oncePut (seen : List Str) (x : Str) : List Str := if x ∈ seen then seen else seen ++ [x]
def once (xs : List Str) : List Str := xs.foldl oncePut []
theorem once_take {xs : List Str} {i : Nat} {x : Str} (h : xs[i]? = some x) : once (xs.take (i + 1)) = oncePut (once (xs.take i)) x := by
  unfold once
  rw [List.take_add_one, h, List.foldl_append]
  rfl
theorem once_mem : ∀ (xs acc : List Str) (y : Str), y ∈ xs.foldl oncePut acc ↔ y ∈ acc ∨ y ∈ xs
  | [], acc, y => by simp
  | x :: xs, acc, y => by
    rw [List.foldl_cons, once_mem xs]
    unfold oncePut
    by_cases h : x ∈ acc
    · rw [if_pos h, List.mem_cons]
      constructor
      · rintro (q | q)
        · exact .inl q
        · exact .inr (.inr q)
      · rintro (q | rfl | q)
        · exact .inl q
        · exact .inl h
        · exact .inr q
    · rw [if_neg h, List.mem_append, List.mem_singleton, List.mem_cons]
      constructor
      · rintro ((q | q) | q)
        · exact .inl q
        · exact .inr (.inl q)
        · exact .inr (.inr q)
      · rintro (q | q | q)
        · exact .inl (.inl q)
        · exact .inl (.inr q)
        · exact .inr q
theorem once_len (xs acc : List Str) : (xs.foldl oncePut acc).length ≤ acc.length + xs.length := by
  induction xs generalizing acc with
  | nil => simp
  | cons x xs ih =>
    have := ih (oncePut acc x)
    have h2 : (oncePut acc x).length ≤ acc.length + 1 := by unfold oncePut; split <;> simp
    rw [List.foldl_cons, List.length_cons]
    omega
theorem once_nodup : ∀ (xs acc : List Str), (acc ++ xs).Nodup → xs.foldl oncePut acc = acc ++ xs
  | [], acc, _ => by simp
  | x :: xs, acc, h => by
    have hn : x ∉ acc := fun z => by
      rw [List.nodup_append] at h
      exact h.2.2 x z x (by simp) rfl
    rw [List.foldl_cons]
    unfold oncePut
    rw [if_neg hn]
    have := once_nodup xs (acc ++ [x]) (by simpa using h)
    rw [show (fun seen x => if x ∈ seen then seen else seen ++ [x]) = oncePut from rfl, this]
    simp
def inOnce (xs : List Str) (y : Str) : Bool := decide (y ∈ once xs)
section
variable {pr : Program} {ww : World} {A : Around} {R : Result → Shared → Prop} {I D : Addr} {fp wr : List Addr} {G : Array GenState → Array GenState → Prop} {m : Nat} {P : Nat → Value → Prop} {St : Nat → Shared → Prop}
theorem fillTx (Wk : WalksS pr ww A.in1 I fp wr G m P St) (hD : D ∉ fp) (xs : List Str) (hm : xs.length = m) (hb : m + 1 < scanBound) (hP : ∀ i v, P i v → ∃ x t, xs[i]? = some x ∧ v = .str x t) :
    ∀ (left i : Nat) (sh : Shared), m - i = left → i ≤ m → St i sh → sh.heap.SetOf (strKind pr ww) D (inOnce (xs.take i)) (once (xs.take i)).length →
      (∀ sh2, Moved (D :: wr) G sh sh2 → sh2.heap.SetOf (strKind pr ww) D (inOnce xs) (once xs).length → R (.ok (.ret .none)) sh2) → codeAny (model pr ww) A (.builtin "set.update.loop" ⟨[.ref D, .ref I], []⟩) R sh := by
  have hDw : D ∉ wr := fun z => hD (Wk.sub _ z)
  have up : ∀ b ∈ wr, b ∈ D :: wr := fun b z => List.mem_cons_of_mem _ z
  intro left
  induction left with
  | zero =>
    intro i sh h0 hi st hS fin
    have e : i = m := by omega
    subst e
    (refine codeAny_builtin F.entry_set_update_loop ?_; rw [Around.under_plainId F.plain_set_update_loop _])
    show wpAny _ A.in1 (pyNext (.ref I) >>= _) _ _ sh
    refine wpAny_bind (Wk.done sh _ _ st fun sh2 mv => ?_)
    show wpAny _ A.in1 (ret Value.none) _ _ sh2
    rw [← hm, List.take_length] at hS
    exact wpAny_pure (fin sh2 (mv.mono up) (let ⟨o, es, ep, t, ho, rest⟩ := hS; ⟨o, es, ep, t, mv.heap D _ hDw ho, rest⟩))
  | succ left ih =>
    intro i sh h0 hi st hS fin
    have lt : i < m := by omega
    (refine codeAny_builtin F.entry_set_update_loop ?_; rw [Around.under_plainId F.plain_set_update_loop _])
    show wpAny _ A.in1 (pyNext (.ref I) >>= _) _ _ sh
    refine wpAny_bind (Wk.item i sh _ _ lt st fun v sh2 hv st2 mv => ?_)
    obtain ⟨x, t, hx, rfl⟩ := hP i v hv
    have hS2 : sh2.heap.SetOf (strKind pr ww) D (inOnce (xs.take i)) (once (xs.take i)).length := let ⟨o, es, ep, tb, ho, rest⟩ := hS; ⟨o, es, ep, tb, mv.heap D _ hDw ho, rest⟩
    show wpAny _ A.in1 (holding [Value.str x t] (setAdd D (.str x t)) >>= _) _ _ sh2
    (refine wpAny_bind (wpAny_holding ?_); unfold setAdd)
    refine wpAny_holding (wpAny_bind ((strKind pr ww).pyHash (k := x) (strKind_is _ _ _ _) ?_))
    have l1 : (once (xs.take i)).length ≤ i := by
      have := once_len (xs.take i) []
      rw [List.length_take] at this
      unfold once
      simp at this
      omega
    refine wpAny_setAddHashed_of (knd := strKind pr ww) (s := { sh2 with toks := sh2.toks + 1 }) (strKind_is _ _ _ _) rfl hS2 (by omega) fun h3 same hS3 => ?_
    have hS4 : h3.SetOf (strKind pr ww) D (inOnce (xs.take (i + 1))) (once (xs.take (i + 1))).length := by
      rw [once_take hx]
      refine SetOf_congr hS3 (fun y => ?_) ?_
      · unfold inOnce
        rw [once_take hx]
        unfold oncePut
        by_cases h : x ∈ once (xs.take i)
        · rw [if_pos h]
          by_cases e : y = x
          · subst e; simp [h]
          · simp [e]
        · rw [if_neg h]
          by_cases e : y = x
          · subst e; simp
          · simp [e]
      · unfold oncePut inOnce
        by_cases h : x ∈ once (xs.take i)
        · simp [h]
        · simp [h]
    refine wpAny_pure ⟨plainId_quiet F.plain_set_update_loop _, ih (i + 1) _ (by omega) lt (Wk.frame _ sh2 _ _ st2 (Nat.le_succ _) fun b z o e => (same.2 b fun q : b = D => hD (q ▸ z)).trans e) hS4 fun sh3 mv3 hS5 => fin sh3 (Moved.trans Wk.gtrans ((mv.mono up).then_heap (Nat.le_succ _) fun b o z e => (same.2 b fun q : b = D => z (by rw [q]; exact List.mem_cons_self)).trans e) mv3) hS5⟩
end
end TxSet

namespace TxSet
open PyProof.Rows PySem.Spec PySem
abbrev bare (led : Bool) : Obj := { cls := .type "set", dict := none, data := .set #[] 0 (.fresh 0 0 led) }
section
variable {pr : Program} {ww : World} {A : Around} {E : Value → Shared → Prop} {sh : Shared}
set_option maxHeartbeats 3300000 in
theorem newTxL {ad : Addr} {its : Array Value} {xs : List Str} {Q : Value → Shared → Prop} (noExc : A.handled = none) (hseq : sh.heap.IsList ad its) (tx : StrsAre its.toList xs) (few : its.size + 1 < scanBound)
    (fin : ∀ (h2 : Heap) (t2 : Nat), h2.SetOf (strKind pr ww) sh.heap.objs.size (inOnce xs) (once xs).length → (∀ b o, b < sh.heap.objs.size → sh.heap.get? b = some o → h2.get? b = some o) → Q (.ref sh.heap.objs.size) { sh with heap := h2, toks := t2 }) : wpAny (model pr ww) A (call (.type "set") [.ref ad]) Q E sh := by
  obtain ⟨cc, rest, mro⟩ := F.called_set.mro
  have made := F.called_set.made
  have subS := F.called_set.sub
  (refine wpAny_call (codeAny_of_tree ?_); show wpAny _ _ (callAny (.type "set") _) _ _ sh; refine wpAny_pure ⟨Code.quiet_builtin _ (by decide +kernel), codeAny_builtin F.entry_type_call ?_⟩)
  rw [Around.under_plain (weight_type_call_type "set" [.ref ad] []) rfl]
  have n1 := F.called_set.notType
  have n2 := F.called_set.canCreate
  have n3 := F.typeCall_set_1 (.ref ad)
  repeat any_goals first | assumption | wp_step
  refine codeAny_mono (code_set_new_1 (.ref ad) (E := E) (Q₁ := fun ob sh1 => ∃ led : Bool, ob = .ref sh.heap.objs.size ∧ sh1 = { sh with heap := sh.heap.push (bare led) }) fun led => ⟨led, rfl, rfl⟩) fun r sh1 hr => ?_
  rcases r with ex | fl
  · exact hr
  cases fl with
  | ret ob =>
    obtain ⟨led, rfl, rfl⟩ := hr
    have at0 : (sh.heap.push (bare led)).get? sh.heap.objs.size = some (bare led) := Heap.get?_push_size _ rfl
    have ty0 : Shared.TypeIs { sh with heap := sh.heap.push (bare led) } (.ref sh.heap.objs.size) "set" := ⟨_, at0, rfl⟩
    have in1 := F.called_set.init.lookup
    have in2 := F.called_set.init.bind (.ref sh.heap.objs.size)
    repeat any_goals first | assumption | wp_step
    refine codeAny_mono (codeAny_call_builtin (R := wants (fun r sh2 => r = .none ∧ ∃ h2 t2, sh2 = { sh with heap := h2, toks := t2 } ∧ h2.SetOf (strKind pr ww) sh.heap.objs.size (inOnce xs) (once xs).length ∧ (∀ b o, b < sh.heap.objs.size → sh.heap.get? b = some o → h2.get? b = some o)) E) F.called_set.init.plain F.entry_set_init (check_set_init_1 ty0 ?_)) fun r2 sh2 hr2 => ?_
    · obtain ⟨⟨oc, odt, oda, osl⟩, hol, hcl, nl, hdl⟩ := hseq
      simp only at hcl hdl
      subst hcl hdl
      have hol2 : (sh.heap.push (bare led)).get? ad = some { cls := .type "list", dict := odt, data := .seq its nl, slots := osl } := Heap.get?_push_of_some _ hol
      have sub1 := PySem.F.sub_list_set
      have sub2 := PySem.F.sub_list_frozenset
      have neD : (Value.type "list" == Value.type "dict") = false := by decide
      have seq2 : (sh.heap.push (bare led)).IsList ad its := ⟨_, hol2, rfl, nl, rfl⟩
      (unfold Builtin.«set.__init__» noKeywords Builtin.Frozenset.updateFrom; generalize ePI : pyIter = PI)
      wp_walk
      subst ePI
      refine wpAny_pyIter_list seq2 (wpAny_bind (wpAny_runValue ?_))
      have adLt : ad < sh.heap.objs.size := Heap.lt_size hol
      have noExc3 : A.in1.in1.in1.handled = none := by simp [noExc]
      have apart : ad ≠ (sh.heap.push (bare led)).objs.size := by rw [Heap.size_push]; exact Nat.ne_of_lt (Nat.lt_succ_of_lt adLt)
      have out : sh.heap.objs.size ∉ [(sh.heap.push (bare led)).objs.size, ad] := by
        rw [Heap.size_push]
        simp only [List.mem_cons, List.mem_singleton, List.not_mem_nil, or_false, not_or]
        exact ⟨Nat.ne_of_lt (Nat.lt_succ_self _), Nat.ne_of_gt adLt⟩
      have lenX : xs.length = its.size := by rw [← StrsAre.len_eq tx, Array.length_toList]
      have each : ∀ (i : Nat) (v : Value), its[i]? = some v → ∃ x t, xs[i]? = some x ∧ v = .str x t := fun i v hv => by
        have il : i < xs.length := by rw [lenX]; exact (Array.getElem?_eq_some_iff.mp hv).1
        obtain ⟨t, e⟩ := SS.strs_at tx i v (by rw [Array.getElem?_toList]; exact hv)
        refine ⟨xs[i], t, List.getElem?_eq_getElem il, ?_⟩
        rw [e, List.getD_eq_getElem?_getD, List.getElem?_eq_getElem il]
        rfl
      refine fillTx ((Walks.list noExc3 _ ad apart its).toS) out xs lenX few each (its.size - 0) 0 _ (by omega) (Nat.zero_le _) ⟨⟨_, Heap.get?_push_size _ rfl, rfl, rfl⟩, seq2.push _⟩ ?begin ?after
      case begin =>
        have at1 : ((sh.heap.push (bare led)).push { cls := .type "list_iterator", data := .fields #[.ref ad, .int 0 0] }).get? sh.heap.objs.size = some (bare led) := Heap.get?_push_of_some _ at0
        exact SetOf_congr ((setObjOf_fresh (knd := strKind pr ww) led).setOf at1 (by unfold scanBound; omega)) (fun y => by simp [inOnce, once]) rfl
      case after =>
        intro sh3 mv hS
        obtain ⟨h3, g3, d3, t3, o3⟩ := sh3
        have eg : g3 = sh.gens := mv.gens
        have ed : d3 = sh.drawn := mv.drawn
        have eo : o3 = sh.os := mv.os
        subst eg ed eo
        show wpAny _ _ _ _ _ _
        (refine wpAny_pure ?_; show wpAny _ _ (ret Value.none) _ _ _)
        refine wpAny_pure ⟨rfl, h3, t3, rfl, hS, fun b o hb e => mv.heap b o ?_ (Heap.get?_push_of_some _ (Heap.get?_push_of_some _ e))⟩
        have b1 : b ≠ sh.heap.objs.size := Nat.ne_of_lt hb
        have b2 : b ≠ (sh.heap.push (bare led)).objs.size := by rw [Heap.size_push]; exact Nat.ne_of_lt (Nat.lt_succ_of_lt hb)
        simp only [List.mem_cons, List.mem_singleton, List.not_mem_nil, or_false, not_or]
        exact ⟨b1, b2⟩
    · rcases r2 with ex | fl2
      · exact hr2
      cases fl2 with
      | ret r =>
        obtain ⟨rfl, h2, t2, rfl, hS, hk⟩ := hr2
        repeat any_goals first | assumption | wp_step
        exact fin _ _ hS hk
      | _ => exact hr2.elim
  | _ => exact hr.elim
set_option maxHeartbeats 3300000 in
theorem newTxT {ad : Addr} {its : Array Value} {xs : List Str} {Q : Value → Shared → Prop} (noExc : A.handled = none) (hseq : sh.heap.IsTuple ad its) (tx : StrsAre its.toList xs) (few : its.size + 1 < scanBound)
    (fin : ∀ (h2 : Heap) (t2 : Nat), h2.SetOf (strKind pr ww) sh.heap.objs.size (inOnce xs) (once xs).length → (∀ b o, b < sh.heap.objs.size → sh.heap.get? b = some o → h2.get? b = some o) → Q (.ref sh.heap.objs.size) { sh with heap := h2, toks := t2 }) : wpAny (model pr ww) A (call (.type "set") [.ref ad]) Q E sh := by
  obtain ⟨cc, rest, mro⟩ := F.called_set.mro
  have made := F.called_set.made
  have subS := F.called_set.sub
  (refine wpAny_call (codeAny_of_tree ?_); show wpAny _ _ (callAny (.type "set") _) _ _ sh; refine wpAny_pure ⟨Code.quiet_builtin _ (by decide +kernel), codeAny_builtin F.entry_type_call ?_⟩)
  rw [Around.under_plain (weight_type_call_type "set" [.ref ad] []) rfl]
  have n1 := F.called_set.notType
  have n2 := F.called_set.canCreate
  have n3 := F.typeCall_set_1 (.ref ad)
  repeat any_goals first | assumption | wp_step
  refine codeAny_mono (code_set_new_1 (.ref ad) (E := E) (Q₁ := fun ob sh1 => ∃ led : Bool, ob = .ref sh.heap.objs.size ∧ sh1 = { sh with heap := sh.heap.push (bare led) }) fun led => ⟨led, rfl, rfl⟩) fun r sh1 hr => ?_
  rcases r with ex | fl
  · exact hr
  cases fl with
  | ret ob =>
    obtain ⟨led, rfl, rfl⟩ := hr
    have at0 : (sh.heap.push (bare led)).get? sh.heap.objs.size = some (bare led) := Heap.get?_push_size _ rfl
    have ty0 : Shared.TypeIs { sh with heap := sh.heap.push (bare led) } (.ref sh.heap.objs.size) "set" := ⟨_, at0, rfl⟩
    have in1 := F.called_set.init.lookup
    have in2 := F.called_set.init.bind (.ref sh.heap.objs.size)
    repeat any_goals first | assumption | wp_step
    refine codeAny_mono (codeAny_call_builtin (R := wants (fun r sh2 => r = .none ∧ ∃ h2 t2, sh2 = { sh with heap := h2, toks := t2 } ∧ h2.SetOf (strKind pr ww) sh.heap.objs.size (inOnce xs) (once xs).length ∧ (∀ b o, b < sh.heap.objs.size → sh.heap.get? b = some o → h2.get? b = some o)) E) F.called_set.init.plain F.entry_set_init (check_set_init_1 ty0 ?_)) fun r2 sh2 hr2 => ?_
    · obtain ⟨⟨oc, odt, oda, osl⟩, hol, hcl, nl, hdl⟩ := hseq
      simp only at hcl hdl
      subst hcl hdl
      have hol2 : (sh.heap.push (bare led)).get? ad = some { cls := .type "tuple", dict := odt, data := .seq its nl, slots := osl } := Heap.get?_push_of_some _ hol
      have sub1 := PySem.F.sub_tuple_set
      have sub2 := PySem.F.sub_tuple_frozenset
      have neD : (Value.type "tuple" == Value.type "dict") = false := by decide
      have seq2 : (sh.heap.push (bare led)).IsTuple ad its := ⟨_, hol2, rfl, nl, rfl⟩
      (unfold Builtin.«set.__init__» noKeywords Builtin.Frozenset.updateFrom; generalize ePI : pyIter = PI)
      wp_walk
      subst ePI
      refine wpAny_pyIter_tuple seq2 (wpAny_bind (wpAny_runValue ?_))
      have adLt : ad < sh.heap.objs.size := Heap.lt_size hol
      have noExc3 : A.in1.in1.in1.handled = none := by simp [noExc]
      have apart : ad ≠ (sh.heap.push (bare led)).objs.size := by rw [Heap.size_push]; exact Nat.ne_of_lt (Nat.lt_succ_of_lt adLt)
      have out : sh.heap.objs.size ∉ [(sh.heap.push (bare led)).objs.size, ad] := by
        rw [Heap.size_push]
        simp only [List.mem_cons, List.mem_singleton, List.not_mem_nil, or_false, not_or]
        exact ⟨Nat.ne_of_lt (Nat.lt_succ_self _), Nat.ne_of_gt adLt⟩
      have lenX : xs.length = its.size := by rw [← StrsAre.len_eq tx, Array.length_toList]
      have each : ∀ (i : Nat) (v : Value), its[i]? = some v → ∃ x t, xs[i]? = some x ∧ v = .str x t := fun i v hv => by
        have il : i < xs.length := by rw [lenX]; exact (Array.getElem?_eq_some_iff.mp hv).1
        obtain ⟨t, e⟩ := SS.strs_at tx i v (by rw [Array.getElem?_toList]; exact hv)
        refine ⟨xs[i], t, List.getElem?_eq_getElem il, ?_⟩
        rw [e, List.getD_eq_getElem?_getD, List.getElem?_eq_getElem il]
        rfl
      refine fillTx ((Walks.tuple noExc3 _ ad apart its).toS) out xs lenX few each (its.size - 0) 0 _ (by omega) (Nat.zero_le _) ⟨⟨_, Heap.get?_push_size _ rfl, rfl, rfl⟩, seq2.push _⟩ ?begin ?after
      case begin =>
        have at1 : ((sh.heap.push (bare led)).push { cls := .type "tuple_iterator", data := .fields #[.ref ad, .int 0 0] }).get? sh.heap.objs.size = some (bare led) := Heap.get?_push_of_some _ at0
        exact SetOf_congr ((setObjOf_fresh (knd := strKind pr ww) led).setOf at1 (by unfold scanBound; omega)) (fun y => by simp [inOnce, once]) rfl
      case after =>
        intro sh3 mv hS
        obtain ⟨h3, g3, d3, t3, o3⟩ := sh3
        have eg : g3 = sh.gens := mv.gens
        have ed : d3 = sh.drawn := mv.drawn
        have eo : o3 = sh.os := mv.os
        subst eg ed eo
        show wpAny _ _ _ _ _ _
        (refine wpAny_pure ?_; show wpAny _ _ (ret Value.none) _ _ _)
        refine wpAny_pure ⟨rfl, h3, t3, rfl, hS, fun b o hb e => mv.heap b o ?_ (Heap.get?_push_of_some _ (Heap.get?_push_of_some _ e))⟩
        have b1 : b ≠ sh.heap.objs.size := Nat.ne_of_lt hb
        have b2 : b ≠ (sh.heap.push (bare led)).objs.size := by rw [Heap.size_push]; exact Nat.ne_of_lt (Nat.lt_succ_of_lt hb)
        simp only [List.mem_cons, List.mem_singleton, List.not_mem_nil, or_false, not_or]
        exact ⟨b1, b2⟩
    · rcases r2 with ex | fl2
      · exact hr2
      cases fl2 with
      | ret r =>
        obtain ⟨rfl, h2, t2, rfl, hS, hk⟩ := hr2
        repeat any_goals first | assumption | wp_step
        exact fin _ _ hS hk
      | _ => exact hr2.elim
  | _ => exact hr.elim
end
end TxSet
namespace L2
open PySem PyProof.Rows
def tLenTx (K : PySem.W.Frag) (ta : TE) : TE := fun σ H Q => ta σ H fun x H1 => ∃ l, ∃ xs : List Str, x = .ref l ∧ (SqL K H1 l (xs.map V.str) ∨ SqT K H1 l (xs.map V.str)) ∧ xs.length ≤ 20 ∧ Q (.int (TxSet.once xs).length) H1
theorem pe_lenTx {X : Cx} {a : Expr} {ta : TE} {p p2 q pos : Pos} (hc : X.calm = true) (hg : Gl X "len") (hm : X.mg "len" = none) (hg2 : Gl X "set") (hm2 : X.mg "set" = none) (ha : PE X a ta) (na : starEach [a] X.env = (false, eval a X.env) :: starEach [] X.env := by rfl) :
    PE X (.Call (.Name "len" p) [.Call (.Name "set" p2) [a] [] q] [] pos) (tLenTx X.K ta) := by
  refine ⟨fun pins s σ H Q I h => Call_ (ld_blt I hg hm boot_len (PyProof.Rows.callWith_builtin1 (PyProof.Rows.args_cons (Call_ (ld_blt I hg2 hm2 boot_set (PyProof.Rows.callWith_type1 (PyProof.Rows.args_cons (thn (ha.run pins s σ H _ I h) fun v s1 ⟨x, H1, I1, r1, l, xs, ex, hq, h20, qq⟩ => PyProof.Rows.args_nil ?_) na) na rfl))) rfl) rfl rfl))⟩
  subst ex
  cases r1
  have l2 := TxSet.once_len xs []
  have fin : ∀ (h' : Heap) (tk : Nat), h'.SetOf (PySem.strKind X.prog X.w) s1.heap.objs.size (TxSet.inOnce xs) (TxSet.once xs).length → (∀ b o, b < s1.heap.objs.size → s1.heap.get? b = some o → h'.get? b = some o) →
      wpAny (model X.prog X.w) X.A (spliced (backTo pos (starEach [] X.env))) (fun vs s₂ => wpAny (model X.prog X.w) X.A (call (.builtin "len") (Value.ref s1.heap.objs.size :: vs)) (EP X pins σ Q) X.xe s₂) X.xe { s1 with heap := h', toks := tk } := fun h' tk hS hk => PyProof.Rows.args_nil (by
    obtain ⟨so, es, ep, tb, hso, hex, hd, _, _, _, hf, hn⟩ := hS
    have J2 : Inv X pins σ H1 { s1 with heap := h', toks := tk } := I1.kept fun b ob z => hk b ob (Heap.lt_size z) z
    have l3 : (TxSet.once xs).length ≤ 20 := by unfold TxSet.once; simp at l2; omega
    exact call_len_set hso hex hd hf (by rw [hn]; omega) ⟨.int (TxSet.once xs).length, H1, J2.tok _, ⟨_, by rw [hn]⟩, qq⟩)
  rcases hq with hq | hq
  · obtain ⟨itms, r, pl, hz⟩ := I1.list hq
    have hl := r.length
    rw [List.length_map] at hl
    exact TxSet.newTxL (I1.ok.hd hc) pl.isList (by simpa using strsAre_of r) (by simp; unfold scanBound; omega) fin
  · obtain ⟨itms, r, pl, hz⟩ := I1.tuple hq
    have hl := r.length
    rw [List.length_map] at hl
    exact TxSet.newTxT (I1.ok.hd hc) pl (by simpa using strsAre_of r) (by simp; unfold scanBound; omega) fin
end L2
namespace Dv
open PySem L2
theorem se_lenSet {X : Cx} {e : Expr} {G : Gs} {mu : Mu} {p p2 q pos : Pos} {P : PW1} (h : SE X e G mu fun w mu1 => ∃ xs : List Str, (w = .tup (xs.map W.str) ∨ ∃ a, w = .m a ∧ mu1 a = some (.lst (xs.map W.str))) ∧ xs.length ≤ 20 ∧ P (.int (TxSet.once xs).length) mu1)
    (hm : X.mg "len" = none) (hm2 : X.mg "set" = none) (hc : X.calm = true := by rfl) (hg : Gl X "len" := by rfl) (hg2 : Gl X "set" := by rfl) (na : starEach [e] X.env = (false, eval e X.env) :: starEach [] X.env := by rfl) : SE X (.Call (.Name "len" p) [.Call (.Name "set" p2) [e] [] q] [] pos) G mu P :=
  SE.mk (pe_lenTx hc hg hm hg2 hm2 peE na) fun σ H Q d m k => h σ H _ d m fun v w mu1 H1 h1 c1 d1 m1 => by
    obtain ⟨xs, hw, h20, qq⟩ := h1
    rcases hw with rfl | ⟨a, rfl, ha⟩
    · obtain ⟨l, vs, rfl, s1, d2⟩ := d1
      have := denAll_str d2
      subst this
      exact ⟨l, xs, rfl, .inr s1, h20, (k.step c1).now qq rfl m1⟩
    · obtain ⟨vs, hx, d2⟩ := m1 a _ ha
      have d1 : v = .ref a := d1
      subst d1
      have := denAll_str d2
      subst this
      exact ⟨a, xs, rfl, .inl (SqL.of hx), h20, (k.step c1).now qq rfl m1⟩
end Dv
set_option Elab.async false
set_option linter.all false
set_option maxRecDepth 100000
namespace K1
open PySem L2 Dv
section
variable {P : Program} {w : World} {K : PySem.W.Frag} {mg : Str → Option Value} {base : Heap}
abbrev s_are_different : Stmt := top 7
theorem sc_are_different : FnScope ["names"] ["names"] (defScope s_are_different) := ⟨rfl, rfl, rfl, by decide +kernel, rfl, by decide +kernel, by decide +kernel⟩
theorem d_are_different (D : Dfn K mg "are_different" s_are_different ["names"]) (B : Bl mg) : DefOk P w K mg base "are_different" ["names"] 1 S_are_different := by
  refine dfnOk D sc_are_different (fun ws mu P ⟨⟨ns, v, e, _⟩, _⟩ => by rw [e]; rfl) (fun f cdv A outer s H E hr ws mu Pt ⟨⟨ns, v, e, hv, nd, l10, ok⟩, h⟩ => ?_)
  subst e
  have on : (TxSet.once ns).length = ns.length := by
    unfold TxSet.once
    rw [TxSet.once_nodup ns [] (by simpa using nd)]
    simp
  refine sss_cons ?_
  refine ss_ret ?_
  refine se_cmp (op_eqD hr.units) eq_w (nomark _) ?_
  refine se_lenSet ?_ B.len B.set
  refine se_var (i := 0) rfl ?_
  refine ⟨ns, hv, by omega, ?_⟩
  refine se_len ?_ B.len
  refine se_var (i := 0) rfl ?_
  rcases hv with rfl | ⟨a, rfl, ha⟩
  · refine eq_ints ?_
    rw [stW_len, on, decide_eq_true rfl]
    exact h _ Ext.refl
  · refine ⟨_, ha, ?_⟩
    refine eq_ints ?_
    rw [stW_len, on, decide_eq_true rfl]
    exact h _ Ext.refl
end
end K1
set_option Elab.async false
set_option linter.all false
set_option maxRecDepth 100000
/-! == and != by a class's own __eq__, by values. -/
namespace DvLow
open PySem PySem.Spec PyProof.Rows
section
variable {prog : Program} {w : World} {A : Around} {E : Value → Shared → Prop} {s : Shared} {K : PySem.W.Frag} {x C f : Addr} {ox : Obj} {od : Option Obj}
theorem dec_int (b : Int) (u : Tok) (l C dx : Addr) : Meets (Builtin.«int.__eq__» ⟨[.int b u, .ref l], []⟩) (fun _ R s => s.heap.get? l = some (PySem.W.instObj C dx) ∧ R (.ok (.ret .notImplemented)) s) :=
  .of_wp fun prog w A R s h => by
    obtain ⟨hp, g, d, tk, os⟩ := s
    obtain ⟨hl, h⟩ := h
    wp_walk using wpAny_loadPart' hl, wpAny_load hl
    exact ⟨_, rfl, h⟩
theorem dec_str (b : Str) (u : Tok) (l C dx : Addr) : Meets (Builtin.«str.__eq__» ⟨[.str b u, .ref l], []⟩) (fun _ R s => s.heap.get? l = some (PySem.W.instObj C dx) ∧ R (.ok (.ret .notImplemented)) s) :=
  .of_wp fun prog w A R s h => by
    obtain ⟨hp, g, d, tk, os⟩ := s
    obtain ⟨hl, h⟩ := h
    wp_walk using wpAny_loadPart' hl, wpAny_load hl
    exact ⟨_, rfl, h⟩
theorem dec_tup {a : Addr} {R : Result → Shared → Prop} (hi : PySem.W.Looks (model prog w) s.heap (isInstance (.ref x) (.type "tuple")) false) (h : R (.ok (.ret .notImplemented)) s) :
    wpAny (model prog w) A.in1 (Builtin.«tuple.__eq__» ⟨[.ref a, .ref x], []⟩) (GQ.FinOf prog w A R) (fun e s' => R (.error e) s') s := by
  obtain ⟨hp, g, d, tk, os⟩ := s
  have hi' : ∀ {Q : Bool → Shared → Prop} {E : Value → Shared → Prop} {A : Around}, Q false ⟨hp, g, d, tk, os⟩ → wpAny (model prog w) A (isInstance (.ref x) (.type "tuple")) Q E ⟨hp, g, d, tk, os⟩ := fun q => hi.here q
  wp_walk using hi'
  exact h
/-- l == x, l of a built-in type that declines, x of a class with its own == -/
theorem refl_K {l : Value} {T id : String} {Q : Value → Shared → Prop} (hu : A.units < cLine) (X : K.In s.heap) (I : PySem.W.InstAt s.heap x ox C od) (hT : s.TypeIs l T) (h1 : oneThing? .Eq l (.ref x) = none)
    (hsub : PySem.W.subIn K (.ref C) (.type T) = some false) (sl : Slot T "__eq__" id) (hc : wpAny (model prog w) A (call (.builtin id) [l, .ref x]) (fun v s' => v = .notImplemented ∧ s' = s) E s)
    (hs : PySem.W.findIn K (.ref C) "__eq__" = some (some (.ref f))) (hf : PySem.W.isFn K (.ref f) = true)
    (h : wpAny (model prog w) A (call (.ref f) [.ref x, l]) (PySem.W.CmpBack Q) E s) : wpAny (model prog w) A (richCompare .Eq l (.ref x)) Q E s := by
  have one : wpAny (model prog w) A (tryCompare l "__eq__" (.ref x)) (fun r s' => r = none ∧ s' = s) E s :=
    wpAny_tryCompare_declines hT sl (wpAny_mono hc (fun v s' ⟨e1, e2⟩ => ⟨e1, rfl, e2⟩) fun _ _ e => e)
  have two : wpAny (model prog w) A (tryCompare (.ref x) "__eq__" l) (fun r s' => ∃ v, r = some v ∧ Q v s') E s := by
    unfold tryCompare
    refine wpAny_bind (PySem.W.ifBound_K X I hs hf (wpAny_mono h (fun v s' hv => ?_) fun _ _ e => e))
    cases v <;> first | exact hv.elim | exact wpAny_pure ⟨_, rfl, hv⟩
  simp only [richCompare, cmpInfo_Eq, h1]
  refine wpAny_holding (wpAny_bind (wpAny_cRoomFor hu ?_))
  refine wpAny_bind (wpAny_typeOf hT ?_)
  refine wpAny_bind (I.type.here ?_)
  split
  · refine wpAny_bind ((PySem.W.looks_subIn X hsub).here ?_)
    simp only [Bool.false_eq_true, if_false, Bool.not_false, if_true]
    refine wpAny_bind (m := tryCompare l _ (.ref x)) (wpAny_mono one (fun r s1 z => ?_) fun _ _ e => e)
    obtain ⟨z1, z2⟩ := z
    subst z1
    subst z2
    refine wpAny_bind (m := tryCompare (.ref x) _ l) (wpAny_mono two (fun r s2 z => ?_) fun _ _ e => e)
    obtain ⟨v, rfl, hq⟩ := z
    exact wpAny_pure hq
  · rename_i q
    exact absurd (by simp) q
theorem bound_ne {M : Model} {args : List Value} {Q : Option Value → Shared → Prop} (X : K.In s.heap) (I : PySem.W.InstAt s.heap x ox C od) (hs : PySem.W.findIn K (.ref C) "__ne__" = some (some (.builtin "object.__ne__")))
    (h : wpAny M A (call (.builtin "object.__ne__") (.ref x :: args)) (fun v => Q (some v)) E s) : wpAny M A (callSpecialIfBound? (.ref x) "__ne__" args) Q E s := by
  have go : wpAny M A (call (.builtin "object.__ne__") ([.ref x] ++ args) >>= fun v => pure (some v)) Q E s := wpAny_bind (wpAny_mono h (fun v s' q => wpAny_pure q) fun _ _ q => q)
  have bd := F.cmp_object.ne.bind (.ref x)
  simp only [callSpecialIfBound?, bindSpecialIfBound?]; refine wpAny_holding (wpAny_bind (wpAny_bind (wpAny_bind (I.type.here ((PySem.W.looks_findIn X hs).here ?_)))))
  refine wpAny_bind (wpAny_askSetting (wpAny_ite ?_)); split
  · exact wpAny_bind (wpAny_of_eq bd (wpAny_pure (by exact go)))
  · exact wpAny_tryCatch (wpAny_bind (wpAny_of_eq bd (wpAny_pure (by exact go))))
set_option maxHeartbeats 4000000 in
/-- x != b, x of a class with its own == and without != of its own -/
theorem ne_K {b tb : Value} {Q : Value → Shared → Prop} (hu : A.units + 1 < cLine) (X : K.In s.heap) (I : PySem.W.InstAt s.heap x ox C od) (hb : PySem.W.Looks (model prog w) s.heap (typeOf b) tb) (hn : PySem.W.notFirst K C tb = true)
    (hm : PySem.W.mroIn K C (.type "object") = some true) (hne : PySem.W.findIn K (.ref C) "__ne__" = some (some (.builtin "object.__ne__")))
    (hs : PySem.W.findIn K (.ref C) "__eq__" = some (some (.ref f))) (hf : PySem.W.isFn K (.ref f) = true)
    (h : wpAny (model prog w) A.in1 (call (.ref f) [.ref x, b]) (fun v s' => ∃ r, v = .bool r ∧ Q (.bool (!r)) s') E s) : wpAny (model prog w) A (richCompare .NotEq (.ref x) b) Q E s := by
  have hu1 : A.in1.units < cLine := hu
  have entry : ∀ {R : Fin → Shared → Prop}, wpAny (model prog w) A.in1 (call (.ref f) [.ref x, b]) (fun v s' => ∃ r, v = .bool r ∧ R (.done (.ret (.bool (!r)))) s') E s → wpAny (model prog w) A.in1 (Builtin.«object.__ne__» ⟨[.ref x, b], []⟩) R E s := by
    intro R hcall
    obtain ⟨hp, g, d, tk, os⟩ := s
    unfold Builtin.«object.__ne__»
    repeat (first
      | with_reducible refine wpAny_cRoomFor hu1 ?_
      | (refine wpAny_bind (m := callSpecialIfBound? (.ref x) (Str.ofString "__eq__") [b])
          (PySem.W.ifBound_K X I hs hf (wpAny_mono hcall (fun r s' hr => by
            obtain ⟨b, rfl, hq⟩ := hr
            repeat (first | exact hq | exact wpAny_pure hq | exact wpAny_truthy_bool hq | (refine wpAny_bind (m := truthy (.bool _)) (wpAny_truthy_bool ?_)) | wp_step)) fun _ _ e => e)))
      | wp_step)
  have one : wpAny (model prog w) A (tryCompare (.ref x) "__ne__" b) (fun r s' => ∃ v, r = some v ∧ Q v s') E s := by
    unfold tryCompare
    have e1 := entry (R := GQ.FinOf prog w A (wants (fun v s' => ∃ r, v = Value.bool r ∧ Q v s') E)) (wpAny_mono h (fun v s' ⟨r, e, q⟩ => ⟨r, e, (show ∃ r', Value.bool (!r) = Value.bool r' ∧ Q (Value.bool (!r)) s' from ⟨!r, rfl, q⟩)⟩) fun _ _ e => e)
    have body : wpAny (model prog w) A (call (.builtin "object.__ne__") [.ref x, b]) (fun v s' => ∃ r, v = .bool r ∧ Q v s') E s := by
      refine wpAny_call (codeAny_call_builtin F.cmp_object.ne.plain F.cmpEntry_ne ?_)
      refine PySem.W.check_slot F.cmpKind_ne F.cmpSplit_ne (I.type.andThen (PySem.W.looks_mroIn X hm)) (F.cmpArgs_ne _ _) ?_
      exact e1
    exact wpAny_bind (bound_ne X I hne (wpAny_mono body (fun v s' ⟨r, e, q⟩ => by subst e; exact wpAny_pure ⟨_, rfl, q⟩) fun _ _ h' => h'))
  unfold richCompare
  simp only [oneThing_ref]
  refine wpAny_holding (wpAny_bind (wpAny_cRoomFor (Nat.lt_of_succ_lt hu) ?_))
  refine wpAny_bind (I.type.here (wpAny_bind (hb.here ?_)))
  split
  · rename_i q
    have e : PySem.W.subIn K tb (.ref C) = some false := by
      rcases Bool.or_eq_true_iff.mp hn with e | e
      · rw [beq_iff_eq.mp e] at q; simp at q
      · exact beq_iff_eq.mp e
    refine wpAny_bind ((PySem.W.looks_subIn X e).here ?_)
    simp only [Bool.false_eq_true, if_false]
    refine wpAny_bind (wpAny_mono one (fun r s' z => ?_) fun _ _ e => e)
    obtain ⟨v, rfl, hq⟩ := z
    exact wpAny_pure hq
  · refine wpAny_bind (wpAny_pure ?_)
    simp only [Bool.false_eq_true, if_false]
    refine wpAny_bind (wpAny_mono one (fun r s' z => ?_) fun _ _ e => e)
    obtain ⟨v, rfl, hq⟩ := z
    exact wpAny_pure hq
end
end DvLow
set_option Elab.async false
set_option linter.all false
set_option maxRecDepth 100000
/-! == and != of instances with an own __eq__: what its promise says of two values. -/
namespace Dv
open PySem L2
section
variable {X : Cx} {pins : List (Addr × Obj)} {σ : St} {H : Hp} {s : Shared}
theorem sub_of {K : PySem.W.Frag} {T : String} {C : Addr} {l : List String} (h : fastBuiltinMro T = some (l.map Value.type)) : PySem.W.subIn K (.type T) (.ref C) = some false := by
  show (fastBuiltinMro T).map (fun z => z.contains (.ref C)) = some false
  rw [h, Option.map_some]
  have : ∀ l : List String, (l.map Value.type).contains (Value.ref C) = false := fun l => by
    induction l with
    | nil => rfl
    | cons a l ih => simp [List.contains_cons]
  rw [this]
theorem first_of {K : PySem.W.Frag} {T : String} {C : Addr} {l : List String} (h : fastBuiltinMro T = some (l.map Value.type)) : PySem.W.notFirst K C (.type T) = true := by
  unfold PySem.W.notFirst
  rw [sub_of h]
  simp
/-- what may stand beside an instance in a comparison -/
inductive OthV (K : PySem.W.Frag) (C : Addr) (H : Hp) : V → Prop where
  | non : OthV K C H .non
  | int (i : Int) : OthV K C H (.int i)
  | str (z : Str) : OthV K C H (.str z)
  | tup {a : Addr} {xs : List V} (h : SqT K H a xs) : OthV K C H (.ref a)
  | ins {a dx : Addr} {fs : List (Str × V)} (h : H a = some (.ins C dx fs)) : OthV K C H (.ref a)
theorem OthV.look {C : Addr} {y : V} {u : Value} (I : Inv X pins σ H s) (r : RelV y u) (o : OthV X.K C H y) : ∃ tb, PySem.W.Looks (model X.prog X.w) s.heap (typeOf u) tb ∧ PySem.W.notFirst X.K C tb = true := by
  cases o with
  | non =>
    cases (show u = Value.none from r)
    exact ⟨.type "NoneType", PySem.W.Looks.of_pure rfl, first_of (l := ["NoneType", "object"]) (by decide +kernel)⟩
  | int i =>
    obtain ⟨t, q⟩ := (show ∃ t, u = Value.int i t from r)
    cases q
    exact ⟨.type "int", PySem.W.Looks.of_pure rfl, first_of (l := ["int", "object"]) (by decide +kernel)⟩
  | str z =>
    obtain ⟨t, q⟩ := (show ∃ t, u = Value.str z t from r)
    cases q
    exact ⟨.type "str", PySem.W.Looks.of_pure rfl, first_of (l := ["str", "object"]) (by decide +kernel)⟩
  | @tup a xs h =>
    cases (show u = Value.ref a from r)
    obtain ⟨its, _, ⟨ob, ho, hc, _⟩, _⟩ := I.tuple h
    exact ⟨.type "tuple", hc ▸ (PySem.W.Looks.ld ho).andThen .now, first_of (l := ["tuple", "object"]) (by decide +kernel)⟩
  | @ins a dx fs h =>
    cases (show u = Value.ref a from r)
    obtain ⟨mA, J, _⟩ := ins_get I.hok h
    obtain ⟨od, J, _⟩ := J.look
    exact ⟨.ref C, J.type, by simp [PySem.W.notFirst]⟩
/-- what the promise S must say of two values, for an end by a truth -/
def Told (K : PySem.W.Frag) (H : Hp) (S : SpW) (x y : V) (Q : Bool → Hp → Prop) : Prop := ∃ ws mu P, S ws mu P ∧ DenAll K H ws [x, y] ∧ HM K H mu ∧ ∀ v w mu' H', P w mu' → Chg mu H mu' H' → Den K H' w v → HM K H' mu' → ∃ b, v = .bl b ∧ Q b H'
theorem run_own {m : Str} {C : Addr} {ps : List Str} {k : Nat} {S : SpW} (D : MetOk X.prog X.w X.K X.mg X.base C m ps k S) : ∃ f, PySem.W.findIn X.K (.ref C) m = some (some (.ref f)) ∧ PySem.W.isFn X.K (.ref f) = true ∧
    ∀ (A : Around) (pins : List (Addr × Obj)) (σ : St) (H : Hp) (s : Shared) (x y : V) (u v : Value) (Q : Bool → Hp → Prop), Sub X k A → Inv X pins σ H s → RelV x u → RelV y v → Told X.K H S x y Q →
      wpAny (model X.prog X.w) A (call (.ref f) [u, v]) (fun r s' => ∃ b H', r = .bool b ∧ Inv X pins σ H' s' ∧ Q b H') X.xe s := by
  obtain ⟨f, fd, F, hm, hb⟩ := D.ex
  refine ⟨f, hm.at_, hm.fn, fun A pins σ H s x y u v Q sb I rx ry ⟨ws, mu, P, hS, d, mm, k⟩ => ?_⟩
  have hsp : spW X.K S [x, y] H (fun v H' => ∃ b, v = .bl b ∧ Q b H') (fun _ _ _ => False) := ⟨ws, mu, P, hS, d, mm, fun v w mu' H' p c dv m' => k v w mu' H' p c dv m'⟩
  have q := I.env0
  have e0 : Env0 X.prog X.w X.K X.mg X.base A X.stack s H := { frames := sb.fr.trans q.frames, mod := q.mod, bs := q.bs, bsz := q.bsz, funs := q.funs, frf := q.frf, hok := q.hok, bare := q.bare }
  have hl := F.len _ _ _ _ hsp
  have r2 : Vals [x, y] [u, v] := .cons rx (.cons ry .nil)
  have bd := hb s [u, v] I.kIn (by simpa using hl)
  rw [List.append_nil] at bd
  refine wpAny_call (codeAny_mono (F.run A X.stack s H ⟨[u, v], []⟩ [u, v] [x, y] _ _ sb.room e0 bd r2 hsp) fun r s' hq => ?_)
  cases r with
  | error e => exact False.elim hq
  | ok fl => cases fl with
    | next => exact False.elim hq
    | brk => exact False.elim hq
    | cont => exact False.elim hq
    | ret w =>
      obtain ⟨z, H', I', rz, b, ez, q⟩ := I.after hq
      subst ez
      cases rz
      exact ⟨b, H', rfl, I', q⟩
def rOwn (K : PySem.W.Frag) (C : Addr) (S : SpW) : R2 := fun x y H Q => (∃ a dx fs, x = .ref a ∧ H a = some (.ins C dx fs)) ∧ OthV K C H y ∧ Told K H S x y fun b H' => Q (.bl b) H'
/-- x == y -/
theorem op_eqOwn {C : Addr} {ps : List Str} {k : Nat} {S : SpW} (D : MetOk X.prog X.w X.K X.mg X.base C "__eq__" ps k S) (hr : Room k X.A) : OpR X (compareOp .Eq) (rOwn X.K C S) := by
  intro pins s σ H x y v u Q I rx ry ⟨⟨a, dx, fs, ex, ha⟩, o, h⟩
  subst ex
  obtain ⟨f, h1, h2, run⟩ := run_own D
  cases rx
  obtain ⟨mA, J, _⟩ := ins_get I.hok ha
  obtain ⟨od, J, _⟩ := J.look
  obtain ⟨tb, L, nf⟩ := o.look I ry
  obtain ⟨m, hF⟩ := I.fr
  show wpAny (model X.prog X.w) X.A (richCompare .Eq (.ref a) u) (EP X pins σ Q) X.xe s
  refine PySem.W.cmp_K (op := .Eq) hr.units0 hF I.ok.mod.kin J L nf h1 h2 ?_
  exact wpAny_mono (run X.A pins σ H s (.ref a) y (.ref a) u (fun b H' => Q (.bl b) H') ⟨hr, rfl⟩ I rfl ry h) (fun r s' ⟨b, H', e, I', q⟩ => by subst e; exact ⟨.bl b, H', I', rfl, q⟩) fun _ _ e => e
/-- the class is no subclass of what stands beside it -/
structure NoSub (K : PySem.W.Frag) (C : Addr) : Prop where
  non : PySem.W.mroIn K C (.type "NoneType") = some false
  int : PySem.W.mroIn K C (.type "int") = some false
  str : PySem.W.mroIn K C (.type "str") = some false
  tup : PySem.W.mroIn K C (.type "tuple") = some false
/-- a value of a built-in type beside an instance -/
inductive BltV (K : PySem.W.Frag) (H : Hp) : V → Prop where
  | non : BltV K H .non
  | int (i : Int) : BltV K H (.int i)
  | str (z : Str) : BltV K H (.str z)
  | tup {a : Addr} {xs : List V} (h : SqT K H a xs) : BltV K H (.ref a)
def rRef (K : PySem.W.Frag) (C : Addr) (S : SpW) : R2 := fun x y H Q => (∃ a dx fs, y = .ref a ∧ H a = some (.ins C dx fs)) ∧ BltV K H x ∧ Told K H S y x fun b H' => Q (.bl b) H'
/-- y == x, y of a built-in type -/
theorem op_eqRef {C : Addr} {ps : List Str} {k : Nat} {S : SpW} (D : MetOk X.prog X.w X.K X.mg X.base C "__eq__" ps k S) (N : NoSub X.K C) (hr : Room k X.A) : OpR X (compareOp .Eq) (rRef X.K C S) := by
  intro pins s σ H x y v u Q I rx ry ⟨⟨a, dx, fs, ey, ha⟩, o, h⟩
  subst ey
  obtain ⟨f, h1, h2, run⟩ := run_own D
  cases ry
  obtain ⟨mA, J0, _⟩ := ins_get I.hok ha
  obtain ⟨od, J, _⟩ := J0.look
  have last : wpAny (model X.prog X.w) X.A (call (.ref f) [.ref a, v]) (PySem.W.CmpBack (EP X pins σ Q)) X.xe s :=
    wpAny_mono (run X.A pins σ H s (.ref a) x (.ref a) v (fun b H' => Q (.bl b) H') ⟨hr, rfl⟩ I rfl rx h) (fun r s' ⟨b, H', e, I', q⟩ => by subst e; exact ⟨.bl b, H', I', rfl, q⟩) fun _ _ e => e
  have hu := hr.units0
  show wpAny (model X.prog X.w) X.A (richCompare .Eq v (.ref a)) (EP X pins σ Q) X.xe s
  cases o with
  | non =>
    cases (show v = Value.none from rx)
    exact DvLow.refl_K hu I.kIn J (show s.TypeIs .none "NoneType" from rfl) rfl N.non F.slot_NoneType_eq (call_gives F.slot_NoneType_eq rfl F.entry_NoneType_eq (F.args_NoneType_eq_2 _ _) (PySem.SeqAt.NoneType___eq___none_ref_0 a) ⟨rfl, rfl⟩) h1 h2 last
  | int i =>
    obtain ⟨t, q⟩ := (show ∃ t, v = Value.int i t from rx)
    cases q
    exact DvLow.refl_K hu I.kIn J (typeIs_int s i t) rfl N.int F.slot_int_eq (call_meets F.slot_int_eq (typeIs_int s i t) F.entry_int_eq (F.args_int_eq_2 _ _) (DvLow.dec_int i t a C dx) ⟨J0.obj, rfl, rfl⟩) h1 h2 last
  | str z =>
    obtain ⟨t, q⟩ := (show ∃ t, v = Value.str z t from rx)
    cases q
    exact DvLow.refl_K hu I.kIn J (typeIs_str s z t) rfl N.str F.slot_str_eq (call_meets F.slot_str_eq (typeIs_str s z t) F.entry_str_eq (F.args_str_eq_2 _ _) (DvLow.dec_str z t a C dx) ⟨J0.obj, rfl, rfl⟩) h1 h2 last
  | @tup p xs hs =>
    cases (show v = Value.ref p from rx)
    obtain ⟨its, _, ⟨ob, ho, hc, _⟩, _⟩ := I.tuple hs
    refine DvLow.refl_K hu I.kIn J ⟨ob, ho, hc⟩ rfl N.tup F.slot_tuple_eq (GQ.call_here F.slot_tuple_eq ⟨ob, ho, hc⟩ F.entry_tuple_eq (F.args_tuple_eq_2 _ _) ?_) h1 h2 last
    exact DvLow.dec_tup (J.type.andThen (PySem.W.looks_mroIn I.kIn N.tup)) ⟨rfl, rfl⟩
/-- x != y -/
def rNeOwn (K : PySem.W.Frag) (C : Addr) (S : SpW) : R2 := fun x y H Q => (∃ a dx fs, x = .ref a ∧ H a = some (.ins C dx fs)) ∧ OthV K C H y ∧ Told K H S x y fun b H' => Q (.bl !b) H'
theorem op_neOwn {C : Addr} {ps : List Str} {k : Nat} {S : SpW} (D : MetOk X.prog X.w X.K X.mg X.base C "__eq__" ps k S) (hr : Room (k + 1) X.A)
    (hm : PySem.W.mroIn X.K C (.type "object") = some true) (hn : PySem.W.findIn X.K (.ref C) "__ne__" = some (some (.builtin "object.__ne__"))) : OpR X (compareOp .NotEq) (rNeOwn X.K C S) := by
  intro pins s σ H x y v u Q I rx ry ⟨⟨a, dx, fs, ex, ha⟩, o, h⟩
  subst ex
  obtain ⟨f, h1, h2, run⟩ := run_own D
  cases rx
  obtain ⟨mA, J, _⟩ := ins_get I.hok ha
  obtain ⟨od, J, _⟩ := J.look
  obtain ⟨tb, L, nf⟩ := o.look I ry
  show wpAny (model X.prog X.w) X.A (richCompare .NotEq (.ref a) u) (EP X pins σ Q) X.xe s
  refine DvLow.ne_K (by have := hr.units; omega) I.kIn J L nf hm hn h1 h2 ?_
  exact wpAny_mono (run X.A.in1 pins σ H s (.ref a) y (.ref a) u (fun b H' => Q (.bl !b) H') ⟨hr.in1, rfl⟩ I rfl ry h) (fun r s' ⟨b, H', e, I', q⟩ => by subst e; exact ⟨b, rfl, .bl !b, H', I', rfl, q⟩) fun _ _ e => e
/-! by values -/
def OthW (C : Addr) (mu : Mu) : W → Prop
  | .non => True
  | .int _ => True
  | .str _ => True
  | .tup _ => True
  | .m a => ∃ fs, mu a = some (.ins C fs)
  | _ => False
theorem OthW.v {K : PySem.W.Frag} {C : Addr} {H : Hp} {mu : Mu} {w : W} {v : V} (m : HM K H mu) (d : Den K H w v) (h : OthW C mu w) : OthV K C H v := by
  cases w with
  | non => have d : v = .non := d; subst d; exact .non
  | bl b => exact h.elim
  | int i => have d : v = .int i := d; subst d; exact .int i
  | str z => have d : v = .str z := d; subst d; exact .str z
  | tup ws => obtain ⟨a, xs, e, q, _⟩ := d; subst e; exact .tup q
  | m a =>
    have d : v = .ref a := d
    subst d
    obtain ⟨fs, e⟩ := h
    obtain ⟨dx, vs, hx, _⟩ := m a _ e
    exact .ins hx
def BltW : W → Prop
  | .non => True
  | .int _ => True
  | .str _ => True
  | .tup _ => True
  | _ => False
theorem BltW.v {K : PySem.W.Frag} {H : Hp} {w : W} {v : V} (d : Den K H w v) (h : BltW w) : BltV K H v := by
  cases w with
  | non => have d : v = .non := d; subst d; exact .non
  | bl b => exact h.elim
  | int i => have d : v = .int i := d; subst d; exact .int i
  | str z => have d : v = .str z := d; subst d; exact .str z
  | tup ws => obtain ⟨a, xs, e, q, _⟩ := d; subst e; exact .tup q
  | m a => exact h.elim
theorem told_of {K : PySem.W.Frag} {H : Hp} {mu : Mu} {S : SpW} {w1 w2 : W} {x y : V} {P : PW1} {Q : Bool → Hp → Prop} {g : Bool → Bool} (dx : Den K H w1 x) (dy : Den K H w2 y) (m : HM K H mu)
    (h : S [w1, w2] mu fun w mu' => ∃ b, w = .bl b ∧ P (.bl (g b)) mu') (k : ∀ b mu' H', P (.bl (g b)) mu' → Chg mu H mu' H' → HM K H' mu' → Q b H') : Told K H S x y Q :=
  ⟨[w1, w2], mu, _, h, ⟨x, [y], rfl, dx, y, [], rfl, dy, rfl⟩, m, fun v w mu' H' ⟨b, e, p⟩ c d m' => by
    subst e
    have d : v = .bl b := d
    exact ⟨b, d, k b mu' H' p c m'⟩⟩
abbrev eqOwnW (C : Addr) (S : SpW) (w1 w2 : W) (mu : Mu) (P : PW1) : Prop := (∃ a fs, w1 = .m a ∧ mu a = some (.ins C fs)) ∧ OthW C mu w2 ∧ S [w1, w2] mu fun w mu' => ∃ b, w = .bl b ∧ P (.bl b) mu'
theorem eqOwn_w {C : Addr} {S : SpW} : OpW X (rOwn X.K C S) (eqOwnW C S) := fun w1 w2 x y mu H P Q dx dy m ⟨⟨a, fs, e, ha⟩, o, h⟩ k => by
  subst e
  have dx' : x = .ref a := dx
  subst dx'
  obtain ⟨dd, vs, hx, _⟩ := m a _ ha
  exact ⟨⟨a, dd, vs, rfl, hx⟩, o.v m dy, told_of (g := id) dx dy m h fun b mu' H' p c m' => k _ _ _ _ p c rfl m'⟩
abbrev eqRefW (C : Addr) (S : SpW) (w1 w2 : W) (mu : Mu) (P : PW1) : Prop := (∃ a fs, w2 = .m a ∧ mu a = some (.ins C fs)) ∧ BltW w1 ∧ S [w2, w1] mu fun w mu' => ∃ b, w = .bl b ∧ P (.bl b) mu'
theorem eqRef_w {C : Addr} {S : SpW} : OpW X (rRef X.K C S) (eqRefW C S) := fun w1 w2 x y mu H P Q dx dy m ⟨⟨a, fs, e, ha⟩, o, h⟩ k => by
  subst e
  have dy' : y = .ref a := dy
  subst dy'
  obtain ⟨dd, vs, hx, _⟩ := m a _ ha
  exact ⟨⟨a, dd, vs, rfl, hx⟩, o.v dx, told_of (g := id) dy dx m h fun b mu' H' p c m' => k _ _ _ _ p c rfl m'⟩
abbrev neOwnW (C : Addr) (S : SpW) (w1 w2 : W) (mu : Mu) (P : PW1) : Prop := (∃ a fs, w1 = .m a ∧ mu a = some (.ins C fs)) ∧ OthW C mu w2 ∧ S [w1, w2] mu fun w mu' => ∃ b, w = .bl b ∧ P (.bl !b) mu'
theorem neOwn_w {C : Addr} {S : SpW} : OpW X (rNeOwn X.K C S) (neOwnW C S) := fun w1 w2 x y mu H P Q dx dy m ⟨⟨a, fs, e, ha⟩, o, h⟩ k => by
  subst e
  have dx' : x = .ref a := dx
  subst dx'
  obtain ⟨dd, vs, hx, _⟩ := m a _ ha
  exact ⟨⟨a, dd, vs, rfl, hx⟩, o.v m dy, told_of (g := fun b => !b) dx dy m h fun b mu' H' p c m' => k _ _ _ _ p c rfl m'⟩
end
/-! isinstance of an own class -/
structure IsCls (K : PySem.W.Frag) (C : Addr) : Prop where
  cl : Cls K C
  ha : PySem.W.findIn K (.ref C) "__class__" = some (some (.builtin "object.__class__"))
  hn : PySem.W.specialIn K (.builtin "object.__class__") "__get__" = some (some (.builtin "getset_descriptor.__get__"))
  ht : PySem.W.takesIn K (.builtin "object.__class__") = some true
  hm : PySem.W.mroIn K C (.type "object") = some true
  self : PySem.W.kitOne K (.ref C) (.ref C) = some true
  non : PySem.W.kitOne K (.type "NoneType") (.ref C) = some false
  int : PySem.W.kitOne K (.type "int") (.ref C) = some false
  str : PySem.W.kitOne K (.type "str") (.ref C) = some false
  tup : PySem.W.kitOne K (.type "tuple") (.ref C) = some false
def isOwn : W → Option Bool
  | .non => some false
  | .int _ => some false
  | .str _ => some false
  | .tup _ => some false
  | .m _ => some true
  | _ => none
theorem isOwn_ok {K : PySem.W.Frag} {H : Hp} {mu : Mu} {C : Addr} {w : W} {v : V} (Z : IsCls K C) (m : HM K H mu) (d : Den K H w v) (h : OthW C mu w) : ∃ t b, isOwn w = some b ∧ TyX K H v t ∧ PySem.W.kitOne K t (.ref C) = some b := by
  cases w with
  | non => exact ⟨_, _, rfl, tyN_ok (n := "NoneType") d m rfl, Z.non⟩
  | bl b => exact h.elim
  | int i => exact ⟨_, _, rfl, tyN_ok (n := "int") d m rfl, Z.int⟩
  | str z => exact ⟨_, _, rfl, tyN_ok (n := "str") d m rfl, Z.str⟩
  | tup ws => exact ⟨_, _, rfl, tyN_ok (n := "tuple") d m rfl, Z.tup⟩
  | m a =>
    have d : v = .ref a := d
    subst d
    obtain ⟨fs, e⟩ := h
    obtain ⟨dx, vs, hx, _⟩ := m a _ e
    exact ⟨_, _, rfl, .base (.ins hx Z.cl Z.ha Z.hn Z.ht Z.hm), Z.self⟩
end Dv
set_option Elab.async false
set_option linter.all false
set_option maxRecDepth 100000
/-! t[::-1] of a tuple; sorted of a tuple; repr; isinstance of an own class. -/
namespace RevT
open PySem PySem.Spec PyProof.Rows HT
theorem adj_rev (n : Nat) : Builtin.Slice.sliceAdjust none none (-1) (n : Int) = ((n : Int) - 1, -1) := rfl
theorem places_rev (n : Nat) : Builtin.Slice.slicePlaces ((n : Int) - 1) (-1) (-1) = n := by
  unfold Builtin.Slice.slicePlaces
  rw [if_neg (by decide)]
  by_cases h : (n : Int) - 1 > -1
  · rw [if_pos h]
    have : ((n : Int) - 1 - -1 - 1) / (- -1) + 1 = n := by
      rw [show (- -1 : Int) = 1 from rfl, Int.ediv_one]
      omega
    rw [this]
    exact Int.toNat_natCast n
  · rw [if_neg h]
    have : n = 0 := by omega
    subst this
    rfl
theorem pick_rev : ∀ (ys : List Value), (List.range ys.length).filterMap (fun (m : Nat) => ys.toArray[(((ys.length : Nat) : Int) - 1 + (m : Int) * -1).toNat]?) = ys.reverse := by
  intro ys
  have h1 : ∀ k, k ≤ ys.length → (List.range k).filterMap (fun (m : Nat) => ys.toArray[(((ys.length : Nat) : Int) - 1 + (m : Int) * -1).toNat]?) = ys.reverse.take k := by
    intro k
    induction k with
    | zero => intro _; rfl
    | succ k ih =>
      intro hk
      rw [List.range_succ, List.filterMap_append, ih (by omega), List.take_add_one]
      congr 1
      have e : ((((ys.length : Nat) : Int) - 1 + (k : Int) * -1).toNat) = ys.length - 1 - k := by omega
      rw [List.filterMap_cons, e]
      have e2 : ys.toArray[ys.length - 1 - k]? = ys.reverse[k]? := by
        rw [List.getElem?_toArray, List.getElem?_reverse (by omega)]
      rw [e2]
      cases hh : ys.reverse[k]? <;> simp
  rw [h1 _ (Nat.le_refl _)]
  exact List.take_of_length_le (by simp)
section
variable {prog : Program} {w : World} {A : Around} {E : Value → Shared → Prop} {s : Shared}
theorem applied_rev {sl : Addr} {vk : Value} {n : Nat} {Q : Int × Int × Nat → Shared → Prop} (hs : s.heap.IsSliceOf sl .none .none vk) (ps : IsPart vk (some (-1)))
    (h : Q ((n : Int) - 1, -1, n) s) : wpAny (model prog w) A (Builtin.Slice.sliceApplied (.ref sl) (pure (n : Int))) Q E s := by
  obtain ⟨os, h1, _, h3⟩ := id hs
  unfold Builtin.Slice.sliceApplied Builtin.Slice.sliceFields
  refine wpAny_bind (wpAny_bind (wpAny_field h1 h3 (x := .none) rfl (wpAny_bind (wpAny_field h1 h3 (x := .none) rfl (wpAny_bind (wpAny_field h1 h3 (x := vk) rfl (wpAny_pure ?_)))))))
  refine wpAny_bind (slicePart_ ps ?_); show wpAny _ _ (if ((-1 : Int) == 0) = true then _ else _) _ _ s
  rw [if_neg (show ¬ ((-1 : Int) == 0) = true by decide)]
  refine wpAny_bind (slicePart_ .none (wpAny_bind (slicePart_ .none (wpAny_bind (wpAny_pure ?_)))))
  show wpAny _ _ (match Builtin.Slice.sliceAdjust none none (-1) (n : Int) with | (lo, hi) => pure (lo, (-1 : Int), Builtin.Slice.slicePlaces lo hi (-1))) _ _ s
  rw [adj_rev n]
  show wpAny _ _ (pure ((n : Int) - 1, (-1 : Int), Builtin.Slice.slicePlaces ((n : Int) - 1) (-1) (-1))) _ _ s
  rw [places_rev]
  exact wpAny_pure h
theorem getItem_rev {t sl : Addr} {its : List Value} {vk : Value} {Q : Value → Shared → Prop} (ht : IsTup s.heap t its.toArray) (hs : s.heap.IsSliceOf sl .none .none vk) (ps : IsPart vk (some (-1))) (hz : its.length ≤ sizeLine)
    (h : Q (.ref s.heap.objs.size) { s with heap := s.heap.push { cls := .type "tuple", data := .seq its.reverse.toArray } }) : wpAny (model prog w) A (getItem (.ref t) (.ref sl)) Q E s := by
  have okz : sizeOk (.seq its.reverse.toArray) := by
    show its.reverse.toArray.size ≤ sizeLine
    rw [List.size_toArray, List.length_reverse]
    exact hz
  obtain ⟨os, h1, h2, h3⟩ := id hs
  have ty : s.TypeIs (.ref sl) "slice" := ⟨os, h1, h2⟩
  unfold getItem; try with_reducible refine wpAny_holding ?_
  try refine wpAny_bind (wpAny_pure ?_)
  refine wpAny_bind (wpAny_sequenceKey ht.typeIs (by decide) (wpAny_bind (wpAny_callSpecial?_slot (name := Str.ofString "__getitem__") ht.typeIs PyProof.Rows.slot_tuple_getitem
    (wpAny_call_entry PyProof.Rows.slot_tuple_getitem ht.typeIs entry_tuple_getitem ?_ (args_tuple_getitem _ _)))))
  show wpAny _ _ (Builtin.Tuple.tupleItemsOf (.ref t) >>= _) _ _ s
  refine wpAny_bind (tupleItemsOf_ ht (wpAny_bind (wpAny_typeOf ty ?_)))
  rw [if_pos (show (Value.type "slice" == Value.type "slice") = true by decide)]
  have ez : its.toArray.size = its.length := by simp
  refine wpAny_bind (applied_rev (n := its.toArray.size) hs ps ?_)
  have no : ¬ ((((its.toArray.size : Nat) : Int) - 1 == 0 && (-1 : Int) == 1 && its.toArray.size == its.toArray.size) = true) := by
    simp
  show wpAny _ _ (if (((its.toArray.size : Nat) : Int) - 1 == 0 && (-1 : Int) == 1 && its.toArray.size == its.toArray.size) = true then _ else _) _ _ s
  rw [if_neg no, ez, pick_rev]
  first
    | exact wpAny_bind (m := Builtin.Tuple.tupleExact _) (wpAny_newObj_type (wpAny_pure ⟨_, rfl, wpAny_pure h⟩) okz)
    | exact wpAny_bind (m := Builtin.Tuple.tupleExact _) (wpAny_newObj_type (wpAny_bind (wpAny_pure (wpAny_pure ⟨_, rfl, wpAny_pure h⟩))) okz)
    | exact wpAny_bind (wpAny_bind (m := Builtin.Tuple.tupleExact _) (wpAny_newObj_type (wpAny_pure (wpAny_pure ⟨_, rfl, wpAny_pure h⟩)) okz))
    | exact wpAny_bind (wpAny_bind (m := Builtin.Tuple.tupleExact _) (wpAny_newObj_type (wpAny_pure ⟨_, rfl, wpAny_pure h⟩) okz))
end
end RevT
namespace SortT
open PySem PySem.Spec PyProof.Rows
section
variable {prog : Program} {w : World} {A : Around} {E : Value → Shared → Prop} {s : Shared} {β : Type} {bs : List β} {enc : β → PyData} {R : Value → β → Prop}
/-- sorted(x), whatever x is: OK tells what collect finds -/
theorem sorted_by {x : Value} {OK : List Value → Shared → Prop} {Q : Value → Shared → Prop} (hx : ∀ {Q' : List Value → Shared → Prop} {E' : Value → Shared → Prop}, (∀ vs s1, OK vs s1 → Q' vs s1) → wpAny (model prog w) A.in1 (collect x) Q' E' s)
    (step : ∀ vs s1, OK vs s1 → ∃ bs : List β, PySem.W.EachIs R vs bs ∧ PySem.W.EachIs (fun v b => ∃ as, Reads s1.heap v (enc b) as) vs bs ∧ PySem.W.AllAlike (bs.map enc) ∧ PySem.W.Sortable (bs.map enc) ∧ bs.length ≤ sizeLine ∧ (∀ b, b ∈ bs → A.units + 2 + (enc b).depth < cLine) ∧
      ∀ out c h', out.length = bs.length → PySem.W.EachIs R out (bs.mergeSort (PySem.W.dataLe false enc)) → (∀ b o, s1.heap.get? b = some o → h'.get? b = some o) → h'.get? s1.heap.objs.size = some (seqObj "list" (List.toArray out) c) → Q (.ref s1.heap.objs.size) { s1 with heap := h' }) :
    wpAny (model prog w) A (call (.builtin "sorted") [x]) Q E s := by
  (refine Calls.call_function_entry kind_sorted plain_sorted entry_sorted (args_sorted1 _) ?_; unfold Builtin.«sorted»)
  refine wpAny_bind (m := checkCount "sorted" 1 1 _) (wpAny_pure (wpAny_bind (hx fun vs s1 ok => ?_)))
  obtain ⟨bs, e, er, al, so, hl, hu, fin⟩ := step vs s1 ok
  refine wpAny_bind (wpAny_newList ?_ (by rw [e.length]; exact hl))
  have ho : (s1.heap.push (seqObj "list" vs.toArray 0)).get? s1.heap.objs.size = some (seqObj "list" vs.toArray 0) := Heap.get?_push_size _ rfl
  have k0 : ∀ b o, s1.heap.get? b = some o → (s1.heap.push (seqObj "list" vs.toArray 0)).get? b = some o := fun b o q => Heap.get?_push_of_some _ q
  have er2 : PySem.W.EachIs (fun v b => ∃ as, Reads (s1.heap.push (seqObj "list" vs.toArray 0)) v (enc b) as ∧ s1.heap.objs.size ∉ as) vs bs := er.mono fun v b ⟨as, r⟩ => ⟨as, PyProof.Rows.Reads.keeps k0 r, fun z => by
    obtain ⟨o, ho⟩ := PyProof.On.reads_mem_get r _ z
    exact Nat.lt_irrefl _ (Heap.lt_size ho)⟩
  refine wpAny_bind (wpAny_holding ?_)
  refine PySem.W.list_sort_data (s := { s1 with heap := s1.heap.push (seqObj "list" vs.toArray 0) }) ho e er2 al so hl (fun b hb => by have := hu b hb; show A.units + 1 + 1 + _ < _; omega) fun out ho2 he => ?_
  obtain ⟨c, hc⟩ := sortedHeap_at (vs := vs) (out := List.toArray out) ho
  refine wpAny_pure ⟨_, rfl, fin out c _ ho2 he (fun b o q => ?_) hc⟩
  have lt := Heap.lt_size q
  show (sortedHeap (s1.heap.push (seqObj "list" vs.toArray 0)) s1.heap.objs.size vs (List.toArray out)).get? b = some o
  rw [sortedHeap_old (Nat.ne_of_lt lt) (by rw [size_push']; exact Nat.lt_succ_of_lt lt)]
  exact k0 _ _ q
/-- what sorted finds in a tuple -/
theorem collect_tup {a : Addr} {vs : List Value} {Q : List Value → Shared → Prop} (ht : s.heap.IsTuple a vs.toArray) (hz : vs.length ≤ sizeLine)
    (h : ∀ h', (∀ b o, s.heap.get? b = some o → h'.get? b = some o) → s.heap.objs.size ≤ h'.objs.size → Q vs { s with heap := h' }) : wpAny (model prog w) A (collect (.ref a)) Q E s := by
  obtain ⟨o, ho, hc, n, hd⟩ := id ht
  have lt := Heap.lt_size ho
  (unfold collect; refine wpAny_bind (wpAny_runValue (codeAny_builtin entry_proto_collect' ?_)))
  show wpAny _ _ (do again (.builtin "list.__iadd__" ⟨[← newList [], .ref a], []⟩)) _ _ s
  refine wpAny_bind (wpAny_newList (wpAny_pure ⟨Code.quiet_builtin _ (by decide +kernel), codeAny_builtin entry_list_iadd' ?_⟩))
  have new : (s.heap.push (seqObj "list" #[] 0)).get? s.heap.objs.size = some (seqObj "list" #[] 0) := Heap.get?_push_size _ rfl
  rw [Around.under_plainId F.plain_list_iadd _]; show wpAny _ _ (Builtin.List.listExtendWith (.ref s.heap.objs.size) (.ref a) (.ref s.heap.objs.size)) _ _ { s with heap := s.heap.push (seqObj "list" #[] 0) }
  have ho' := Heap.get?_push_of_some (seqObj "list" #[] 0) ho
  (unfold Builtin.List.listExtendWith; refine wpAny_bind (wpAny_typeOf (T := "tuple") ⟨o, ho', hc⟩ ?_))
  rw [if_pos (show (Builtin.List.listSameRef (.ref s.heap.objs.size) (.ref a) || Value.type "tuple" == Value.type "list" || Value.type "tuple" == Value.type "tuple") = true by simp)]
  refine wpAny_bind (listItems_at ho' hd (wpAny_bind (listItems_at (xs := #[]) (n := 0) new rfl ?_)))
  rw [if_neg (by simp)]
  refine wpAny_bind (listUpdate_at (xs := #[]) (n := 0) new rfl ?_ (Nat.zero_le _) (by show (#[] ++ vs.toArray).size ≤ sizeLine + 1; simp only [Array.size_append, List.size_toArray, List.length_nil]; omega))
  refine wpAny_pure ?_
  show wpAny (model prog w) A (do
      let o ← load s.heap.objs.size
      match o.data with
      | .seq xs _ => pure xs.toList
      | _ => unsupported "internal:collect") Q E { s with heap := (s.heap.push (seqObj "list" #[] 0)).update s.heap.objs.size (Obj.mapSeq (· ++ vs.toArray)) }
  refine wpAny_bind (wpAny_load (get?_update_seq new _) ?_)
  show wpAny _ _ (pure ((#[] : Array Value) ++ vs.toArray).toList) Q E _
  rw [show ((#[] : Array Value) ++ vs.toArray).toList = vs by simp]
  refine wpAny_pure (h _ (fun b u e => ?_) ?_)
  · rw [Heap.get?_update_ne _ _ _ _ (Nat.ne_of_lt (Heap.lt_size e))]
    exact Heap.get?_push_of_some _ e
  · rw [Heap.size_update, size_push']
    exact Nat.le_succ _
end
end SortT
namespace Dv
open PySem L2
section
variable {X : Cx} {e a b c : Expr} {es : List Expr} {st : Stmt} {sts : List Stmt} {G : Gs} {mu mu' : Mu} {pos p : Pos} {P : PW1}
/-- t[::-1] of a tuple -/
def tRevT (K : PySem.W.Frag) (te : TE) : TE := fun σ H Q => te σ H fun x H1 => ∃ a xs, x = .ref a ∧ SqT K H1 a xs ∧ ∀ p, H1 p = none → Q (.ref p) (upd H1 p (.tup xs.reverse))
theorem pe_revT {e : Expr} {te : TE} {k : Nat} {p1 p2 p3 pos : Pos} (he : PE X e te) : PE X (.Subscript e (.Slice none none (some (.UnaryOp .USub (.Constant (.int 1) k p1) p2)) p3) pos) (tRevT X.K te) := by
  refine ⟨fun pins s σ H Q I h => PyProof.Rows.Subscript_ (thn (he.run pins s σ H _ I h) fun v s1 ⟨x, H1, I1, r1, a, xs, ex, hx, q⟩ => ?_)⟩
  subst ex
  cases r1
  have part : PO X (some (.UnaryOp .USub (.Constant (.int 1) k p1) p2)) (tPart (tUn (rU fun i => .int (-i)) (tC (.int 1)))) := po_some (pe_un un_neg pe_int)
  refine wpAny_Slice (thn (po_none.run pins s1 σ H1 (fun o H2 => o = none ∧ H2 = H1) I1 ⟨rfl, rfl⟩) fun vl s2 ⟨l, H2, I2, pl, el, e2⟩ => ?_)
  subst el e2
  refine thn (po_none.run pins s2 σ H2 (fun o H3 => o = none ∧ H3 = H2) I2 ⟨rfl, rfl⟩) fun vu s3 ⟨u, H3, I3, pu, eu, e3⟩ => ?_
  subst eu e3
  refine thn (part.run pins s3 σ H3 (fun o H4 => o = some (-1) ∧ H4 = H3) I3 ⟨1, rfl, -1, rfl, rfl, rfl⟩) fun vs s4 ⟨o, H4, I4, ps, eo, e4⟩ => ?_
  subst eo e4
  have I5 : Inv X pins σ H4 { s4 with heap := s4.heap.push { cls := .type "slice", data := .fields #[vl, vu, vs] } } := I4.kept (t' := s4.toks) fun b ob z => Heap.get?_push_of_some _ z
  obtain ⟨its, r, ht, hz⟩ := I5.tuple hx
  have nl : vl = .none := by cases pl; rfl
  have nu : vu = .none := by cases pu; rfl
  subst nl nu
  show wpAny (model X.prog X.w) X.A (PyProof.Rows.subscriptTail e (.Slice none none (some (.UnaryOp .USub (.Constant (.int 1) k p1) p2)) p3) (.ref a) (.ref s4.heap.objs.size)) (EP X pins σ Q) X.xe { s4 with heap := s4.heap.push { cls := .type "slice", data := .fields #[.none, .none, vs] } }
  refine PyProof.Rows.tail_any (ops := [.ref a, .ref s4.heap.objs.size]) ht.typeIs PyProof.Rows.slot_tuple_getitem.lookup ?_ (by with_unfolding_all rfl)
  refine RevT.getItem_rev ht (Heap.IsSliceOf.new _ .none .none vs) ps (by rw [← r.length]; exact hz) ?_
  refine ⟨.ref _, _, I5.laid (t' := s4.toks) (o := .tup xs.reverse) (fun b ob z => Heap.get?_push_of_some _ z) (Nat.le_refl _) ?_, rfl, q _ (I5.hok.fresh (Nat.le_refl _))⟩
  exact ⟨by rw [List.length_reverse]; exact hz, _, r.reverse, PyProof.Rows.IsTup.new _ _⟩
theorem se_rev {k : Nat} {p1 p2 p3 : Pos} (h : SE X a G mu fun w mu1 => match w with | .tup us => P (.tup us.reverse) mu1 | _ => False) : SE X (.Subscript a (.Slice none none (some (.UnaryOp .USub (.Constant (.int 1) k p1) p2)) p3) pos) G mu P :=
  SE.mk (pe_revT peE) fun σ H Q d m kk => h σ H _ d m fun v w mu1 H1 h1 c1 d1 m1 => by
    cases w with
    | tup us =>
      obtain ⟨q, xs, e, sq, dx⟩ := d1
      subst e
      refine ⟨q, xs, rfl, sq, fun r hr => ?_⟩
      obtain ⟨c2, m2⟩ := laid (o := .tup xs.reverse) m1 hr
      exact kk _ _ _ _ h1 (c1.trans c2) ⟨r, _, rfl, .inl (.inl upd_same), (c2.denAll m1 dx).reverse⟩ m2
    | non => exact h1.elim
    | bl b => exact h1.elim
    | int i => exact h1.elim
    | str z => exact h1.elim
    | m q => exact h1.elim
/-- sorted of a tuple of data -/
def rSortT (K : PySem.W.Frag) : List V → Hp → VK → Prop := fun vs H Q => ∃ (a : Addr) (xs : List V) (us : List W), vs = [.ref a] ∧ SqT K H a xs ∧ DenAll K H us xs ∧ plsW us = true ∧ PySem.W.AllAlike (dats us) ∧ PySem.W.Sortable (dats us) ∧ (∀ u ∈ us, (dat u).depth ≤ 64) ∧
  ∀ p ys, H p = none → DenAll K H (us.mergeSort leW) ys → Q (.ref p) (upd H p (.lst ys))
theorem cr_sortedT {j : Nat} (hr : Room j X.A) : CallR X (.builtin "sorted") (rSortT X.K) := by
  intro pins s σ H vs us' Q I r ⟨a, xs, us, ev, hs, dx, pl, al, so, dp, q⟩
  subst ev
  cases r with
  | cons ra rn =>
  cases rn
  cases ra
  obtain ⟨its, rv, pT, hz⟩ := I.tuple hs
  have em : (xs.zip us).map (fun b => dat b.2) = dats us := by
    have := congrArg (List.map dat) (zip_snd dx)
    rw [List.map_map] at this
    rw [show dats us = us.map dat from by simpa using dats_mapD us]
    exact this
  have hlen : (xs.zip us).length = us.length := by rw [List.length_zip, ← dx.length]; omega
  have lz : us.length ≤ sizeLine := by rw [dx.length]; exact hz
  refine SortT.sorted_by (β := V × W) (enc := fun b => dat b.2) (R := fun u b => RelV b.1 u) (OK := fun vs s1 => vs = its ∧ ∃ h', s1 = { s with heap := h' } ∧ (∀ b o, s.heap.get? b = some o → h'.get? b = some o) ∧ s.heap.objs.size ≤ h'.objs.size)
    (fun h => SortT.collect_tup pT (by rw [← rv.length]; exact hz) fun h' k z => h _ _ ⟨rfl, h', rfl, k, z⟩) ?_
  rintro vs s1 ⟨rfl, h', rfl, k0, z0⟩
  have I1 : Inv X pins σ H { s with heap := h' } := I.kept (t' := s.toks) k0
  refine ⟨xs.zip us, each_zip dx rv, each_reads I1 pl dx rv, by rw [em]; exact al, by rw [em]; exact so, by rw [hlen]; exact lz, fun b hb => ?_, fun out c h2 hl he k2 hc => ?_⟩
  · have := dp b.2 (List.of_mem_zip hb).2
    have := hr.un
    omega
  · have hn : H h'.objs.size = none := I1.hok.fresh (Nat.le_refl _)
    have dn : DenAll X.K H (us.mergeSort leW) (((xs.zip us).mergeSort (PySem.W.dataLe false fun b => dat b.2)).map (·.1)) := by
      have h1 := denAll_of (K := X.K) (H := H) (bs := (xs.zip us).mergeSort (PySem.W.dataLe false fun b => dat b.2)) fun b hb => zip_den dx b ((List.mergeSort_perm _ _).mem_iff.mp hb)
      have h2 : ((xs.zip us).mergeSort (PySem.W.dataLe false fun b => dat b.2)).map (·.2) = us.mergeSort leW :=
        (PySem.W.sort_maps (r := PySem.W.dataLe false fun b : V × W => dat b.2) (s := leW) (l := xs.zip us) (fun b : V × W => b.2) fun a _ b _ => rfl).trans (by rw [zip_snd dx])
      rw [h2] at h1
      exact h1
    refine ⟨.ref h'.objs.size, upd H h'.objs.size (.lst _), I1.laid (t' := s.toks) k2 (Nat.le_refl _) ⟨?_, out, c, each_vals he, hc⟩, rfl, q _ _ hn dn⟩
    rw [List.length_map, List.length_mergeSort, hlen]
    exact lz
abbrev sortTW (ws : List W) (mu : Mu) (P : PW1) : Prop := ∃ us, ws = [.tup us] ∧ plsW us = true ∧ PySem.W.AllAlike (dats us) ∧ PySem.W.Sortable (dats us) ∧ (∀ u ∈ us, (dat u).depth ≤ 64) ∧ ∀ p, mu p = none → P (.m p) (setM mu p (.lst (us.mergeSort leW)))
theorem sortT_w : CallW X (rSortT X.K) sortTW := fun ws vs mu H P Q d m ⟨us, e, pl, al, so, dp, q⟩ k => by
  subst e
  obtain ⟨v, ev, a, xs, e2, sq, dx⟩ := d.one
  subst ev e2
  refine ⟨a, xs, us, rfl, sq, dx, pl, al, so, dp, fun p ys hp dy => ?_⟩
  obtain ⟨c2, m2⟩ := laidC (o := .lst ys) (c := .lst (us.mergeSort leW)) m hp (newLst dy)
  exact k _ _ _ _ (q p (m.dom hp)) c2 rfl m2
theorem se_sortT {j : Nat} (hr : Room j X.A) (h : SE X e G mu fun w mu1 => sortTW [w] mu1 P) (hm : X.mg "sorted" = none) (hg : Gl X "sorted" := by rfl) (he : starEach [e] X.env = [(false, eval e X.env)] := by rfl) (hpl : (backTo pos (starEach [] X.env)).any (·.1) = false := by rfl) :
    SE X (.Call (.Name "sorted" p) [e] [] pos) G mu P := se_blt (cr_sortedT hr) sortT_w hm (sa_one h he) (by decide +kernel) hg (by decide) (by decide) he hpl
/-- repr of data, where no repr is under way -/
def rReprD (K : PySem.W.Frag) : List V → Hp → VK → Prop := fun vs H Q => ∃ a d, vs = [.ref a] ∧ Dp K H (.ref a) d ∧ d.showable = true ∧ d.hasDict = false ∧ d.depth ≤ 60 ∧ d.shown.length ≤ sizeLine ∧ Q (.str d.shown) H
theorem cr_repr {j : Nat} (hr : Room j X.A) (hg : X.A.guards = some []) : CallR X (.builtin "repr") (rReprD X.K) := by
  intro pins s σ H vs us Q I r ⟨a, d, e, dp, hs, hd, hk, hz, q⟩
  subst e
  cases r with
  | cons ra rn =>
  cases rn
  cases ra
  obtain ⟨as, rd⟩ := Dp.reads I d (.ref a) _ dp rfl
  exact repr_of_reads' rd hs (fun e => by rw [hd] at e; cases e) hg (by have := hr.un; omega) (fun _ _ e => e) (fun h' u tk k => ⟨.str _, H, I.kept (h' := h') (t' := tk) k, ⟨_, rfl⟩, q⟩) hz
def isRef : W → Prop
  | .tup _ => True
  | .m _ => True
  | _ => False
abbrev reprW (ws : List W) (mu : Mu) (P : PW1) : Prop := ∃ w d, ws = [w] ∧ isRef w ∧ asD mu w = some d ∧ d.showable = true ∧ d.hasDict = false ∧ d.depth ≤ 60 ∧ d.shown.length ≤ sizeLine ∧ P (.str d.shown) mu
theorem repr_w : CallW X (rReprD X.K) reprW := fun ws vs mu H P Q d m ⟨w, dd, e, hi, ha, h1, h2, h3, h4, q⟩ k => by
  subst e
  obtain ⟨v, ev, dv⟩ := d.one
  subst ev
  have dp := asD_ok m dv ha
  have rf : ∃ a, v = .ref a := by
    cases w with
    | tup us => obtain ⟨a, _, e, _⟩ := dv; exact ⟨a, e⟩
    | m a => exact ⟨a, dv⟩
    | non => exact hi.elim
    | bl b => exact hi.elim
    | int i => exact hi.elim
    | str z => exact hi.elim
  obtain ⟨a, ea⟩ := rf
  subst ea
  exact ⟨a, dd, rfl, dp, h1, h2, h3, h4, k.now q rfl m⟩
theorem se_repr {j : Nat} (hr : Room j X.A) (hgd : X.A.guards = some []) (h : SE X e G mu fun w mu1 => reprW [w] mu1 P) (hm : X.mg "repr" = none) (hg : Gl X "repr" := by rfl) (he : starEach [e] X.env = [(false, eval e X.env)] := by rfl) (hpl : (backTo pos (starEach [] X.env)).any (·.1) = false := by rfl) :
    SE X (.Call (.Name "repr" p) [e] [] pos) G mu P := se_blt (cr_repr hr hgd) repr_w hm (sa_one h he) (by decide +kernel) hg (by decide) (by decide) he hpl
/-- isinstance(e, C), C a class of the text -/
abbrev isOwnW (C : Addr) (ws : List W) (mu : Mu) (P : PW1) : Prop := ∃ w, ws = [w, .m C] ∧ OthW C mu w ∧ ∀ b, isOwn w = some b → P (.bl b) mu
theorem isOwn_w {C : Addr} (Z : IsCls X.K C) : CallW X (rIsi X.K) (isOwnW C) := fun ws vs mu H P Q d m ⟨w, e, o, q⟩ k => by
  subst e
  obtain ⟨v, v2, ev, d1, d2⟩ := d.two
  have d2 : v2 = .ref C := d2
  subst ev d2
  obtain ⟨t, b, h1, h2, h3⟩ := isOwn_ok Z m d1 o
  exact ⟨v, .ref C, t, .ref C, b, rfl, .own C, h2, h3, k.now (q b h1) rfl m⟩
theorem se_isOwn {q : Pos} {x : Str} {C : Addr} (Z : IsCls X.K C) (hx : X.mg x = some (.ref C)) (h : SE X e G mu fun w mu1 => OthW C mu1 w ∧ ∀ b, isOwn w = some b → P (.bl b) mu1) (hm : X.mg "isinstance" = none)
    (hg : Gl X "isinstance" := by rfl) (hgx : Gl X x := by rfl) (hdx : (x == ("__debug__" : Str)) = false := by decide) (hs : starEach [e, .Name x q] X.env = (false, eval e X.env) :: starEach [.Name x q] X.env := by rfl)
    (hs2 : starEach [.Name x q] X.env = [(false, eval (.Name x q) X.env)] := by rfl) (hpl : (backTo pos (starEach [.Name x q] X.env)).any (·.1) = false := by rfl) : SE X (.Call (.Name "isinstance" p) [e, .Name x q] [] pos) G mu P :=
  se_blt call_isi (isOwn_w Z) hm (sa_two (h.imp fun w mu1 ⟨o, k⟩ => se_glob (w := .m C) (v := .ref C) hx rfl (fun _ _ => rfl) ⟨w, rfl, o, k⟩ hgx hdx) hs hs2) (by decide +kernel) hg (by decide) (by decide) hs hpl
end
end Dv
set_option Elab.async false
set_option linter.all false
set_option maxRecDepth 100000
/-! Defs that ask for repr: their promise where no repr is under way. -/
namespace Dv
open PySem PySem.Spec PyProof.Rows L2
structure FnG (P : Program) (w : World) (K : PySem.W.Frag) (mg : Str → Option Value) (base : Heap) (k : Nat) (f : Addr) (fd : FuncData) (ps : List Str) (sp : Sp) : Prop where
  len : ∀ vs H Q E, sp vs H Q E → vs.length = ps.length
  run : ∀ (A : Around) (outer : List Env) (s : Shared) (H : Hp) (args : Args) (us : List Value) (vs : List V) (Q : VK) (E : XK), Room k A → A.guards = some [] → Env0 P w K mg base A outer s H → BindsTo s fd args (ps.zip us) → Vals vs us → sp vs H Q E → codeAny (model P w) A (.call (.ref f) args) (CR CX0 outer P w H s Q E) s
section
variable {P : Program} {w : World} {K : PySem.W.Frag} {mg : Str → Option Value} {base : Heap}
theorem okG {x qual : Str} {st : Stmt} {f : Addr} {fd : FuncData} {N ps : List Str} {k : Nat} {S : SpW} (F : Fun K x qual st f fd) (Sc : FnScope N ps (defScope st)) (len : ∀ ws mu P, S ws mu P → ws.length = ps.length)
    (body : ∀ (cdv : Value) (A : Around) (outer : List Env) (s : Shared) (H : Hp) (E : XK), Room k (A.deeper (envOfC qual (defScope st) s.heap.objs.size f cdv)) → A.guards = some [] → ∀ ws mu Pt, S ws mu Pt →
      SSs (cxOf CX0 P w K mg base N qual (defScope st) f cdv A outer s H E).nox (defBody st) (startW N ws) mu { nx := fun _ mu' => Pt .non mu', rt := Pt }) : FnG P w K mg base (k + 1) f fd ps (spW K S) := by
  obtain ⟨oc, od, kV, doc, pm, an, cdv, ct, osl, efd, lk, hcd⟩ := F.ex
  subst efd
  have lenV : ∀ vs H Q E, spW K S vs H Q E → vs.length = ps.length := fun vs H Q E ⟨ws, mu, Pt, h, d, _, _⟩ => d.length ▸ len ws mu Pt h
  refine ⟨lenV, fun A outer s H args us vs Q E hr hgd e0 hb r hsp => ?_⟩
  have kin : K.In s.heap := e0.mod.kin.keeps fun b o e => (e0.bs b o e).1
  have nol : s.heap.NoLimit := e0.mod.nolimit.keeps fun b o e => (e0.bs b o e).1
  have kinds : ∀ y ∈ ps.zip us, (defScope st).names.lookup y.1 = some .local ∨ ((defScope st).names.lookup y.1 = some .cell ∧ ((cellsFrom (s.heap.objs.size + 1) (defScope st).names []).lookup y.1).isSome = true) := by
    intro y hy
    obtain ⟨n, v⟩ := y
    exact (Sc.par n (List.of_mem_zip hy).1).imp id fun q => ⟨q, PySem.W.cellsFrom_some _ _ _ (.inl q)⟩
  refine codeAny_call_function hr.depth (kin _ _ lk) rfl Sc.co Sc.gen rfl (PySem.W.codeRec_of kin hcd) (hb _ _ _ _ (wpAny_newFunctionEnv_cells Sc.kind kinds fun env he s1 xx => ?_))
  subst he
  refine ⟨nol.keeps xx.toInCall.keep, codeAny_func ?_⟩
  have I := inv_start (CX := CX0) (E := E) Sc hr.hd e0 (lenV _ _ _ _ hsp) r xx
  obtain ⟨ws, mu, Pt, h, d, m, kk⟩ := hsp
  have said := body cdv A outer s H E (hr.deeper _) hgd ws mu Pt h _ _ { nx := fun _ H' => Q .non H', rt := Q } (start_den d) m ⟨fun σ G mu' H' h' c d' m' => kk .non .non mu' H' h' c rfl m', kk, fun _ _ _ _ h => h.elim, fun _ _ _ _ h => h.elim⟩
  have go := (pssS (X := (cxOf CX0 P w K mg base N qual (defScope st) f cdv A outer s H E).nox) (sts := defBody st)).nox.run [] s1 (start N vs) H _ I said
  refine wpAny_mono go (fun fl s' hs => ?_) fun e s' hs => hs
  have fin : ∀ {σ' : L2.St} {H' : Hp} {v : V} {u : Value}, Inv (cxOf CX0 P w K mg base N qual (defScope st) f cdv A outer s H E) [] σ' H' s' → RelV v u → Q v H' → CE outer P w H s Q u s' := fun {_ _ v _} J rv q => ⟨v, _, J.os, J.bare, J.base, J.hok, rv, q⟩
  cases fl with
  | ret u => obtain ⟨v, σ', H', J, rv, q⟩ := hs; exact fin J rv q
  | next => obtain ⟨σ', H', J, q⟩ := hs; exact fin (v := V.non) (u := Value.none) J rfl q
  | brk => obtain ⟨_, _, _, q⟩ := hs; exact q.elim
  | cont => obtain ⟨_, _, _, q⟩ := hs; exact q.elim
structure DefG (P : Program) (w : World) (K : PySem.W.Frag) (mg : Str → Option Value) (base : Heap) (x : Str) (ps : List Str) (k : Nat) (S : SpW) : Prop where
  ex : ∃ f fd, FnG P w K mg base k f fd ps (spW K S) ∧ mg x = some (.ref f) ∧ PySem.W.keepIn K (.ref f) = true ∧ Binds K fd ps []
theorem dfnG {x : Str} {st : Stmt} {N ps : List Str} {k : Nat} {S : SpW} (D : Dfn K mg x st ps) (Sc : FnScope N ps (defScope st)) (len : ∀ ws mu P, S ws mu P → ws.length = ps.length)
    (body : ∀ (f : Addr) (cdv : Value) (A : Around) (outer : List Env) (s : Shared) (H : Hp) (E : XK), Room k (A.deeper (envOfC x (defScope st) s.heap.objs.size f cdv)) → A.guards = some [] → ∀ ws mu Pt, S ws mu Pt →
      SSs (cxOf CX0 P w K mg base N x (defScope st) f cdv A outer s H E).nox (defBody st) (startW N ws) mu { nx := fun _ mu' => Pt .non mu', rt := Pt }) : DefG P w K mg base x ps (k + 1) S := by
  obtain ⟨f, fd, F, hm, hb⟩ := D.ex
  exact ⟨f, fd, okG F Sc len (body f), hm, F.kp, hb⟩
end
section
variable {X : Cx} {e : Expr} {es : List Expr} {G : Gs} {mu : Mu} {pos p : Pos} {P : PW1}
theorem se_callG {x : Str} {ps : List Str} {k : Nat} {S : SpW} (D : DefG X.prog X.w X.K X.mg X.base x ps k S) (hr : Room k X.A) (hgd : X.A.guards = some []) (h : SA X (e :: es) G mu fun ws mu1 => S ws mu1 P)
    (hg : Gl X x := by rfl) (hdb : (x == ("__debug__" : Str)) = false := by decide) (he : starEach (e :: es) X.env = (false, eval e X.env) :: starEach es X.env := by rfl) (hpl : (backTo pos (starEach es X.env)).any (·.1) = false := by rfl) : SE X (.Call (.Name x p) (e :: es) [] pos) G mu P := by
  obtain ⟨f, fd, F, hm, hk, hb⟩ := D.ex
  intro σ H Q d m kk pins s I
  refine wpAny_Call_Name_kw (ld_glob I hg hm ?_ hdb)
  refine PySem.W.callWith_K (h₀ := X.base) I.ok.mod.kin hk (thn (h σ H (fun vs H1 => spW X.K S vs H1 Q fun _ _ _ => False) d m (fun vs ws mu1 H1 h1 c1 d1 m1 => ⟨ws, mu1, P, h1, d1, m1, kk.step c1⟩) pos pins s I) fun us s1 ⟨vs, H1, I1, r, q⟩ => ⟨I1.kIn, ?_⟩) he hpl
  have hl : (us ++ []).length = ps.length := by rw [List.append_nil, ← r.length]; exact F.len _ _ _ _ q
  have bd := hb s1 us I1.kIn hl
  rw [List.append_nil] at bd
  refine wpAny_call (codeAny_mono (F.run X.A X.stack s1 H1 ⟨us, []⟩ us vs Q _ hr hgd I1.env0 bd r q) fun z s' hq => ?_)
  cases z with
  | error e => exact False.elim hq
  | ok fl => cases fl with
    | ret u => exact I1.after hq
    | next => exact False.elim hq
    | brk => exact False.elim hq
    | cont => exact False.elim hq
end
end Dv
namespace Dv
open PySem PySem.Spec PyProof.Rows L2
/-- != of texts -/
theorem neS_w {X : Cx} : OpW X rNe fun w1 w2 mu P => ∃ i j, w1 = .str i ∧ w2 = .str j ∧ ∀ b, b = (!decide (i = j)) → P (.bl b) mu := fun w1 w2 x y mu H P Q dx dy m ⟨i, j, e1, e2, q⟩ k => by
  subst e1 e2
  have dx : x = .str i := dx
  have dy : y = .str j := dy
  subst dx dy
  refine ⟨rfl, ?_⟩
  have : (!decide (V.str i = V.str j)) = !decide (i = j) := by
    congr 1
    rw [Bool.eq_iff_iff, decide_eq_true_iff, decide_eq_true_iff]
    exact ⟨fun e => by injection e, fun e => by rw [e]⟩
  rw [this]
  exact k.now (q _ rfl) rfl m
theorem ne_self (x : Str) : (!decide (x = x)) = false := by simp
/-- the script: a list of whole numbers among what stood before -/
structure Scr (base : Heap) (a : Addr) (ns : List Int) : Prop where
  ex : ∃ vs : List Value, base.get? a = some { cls := .type "list", data := .seq vs.toArray } ∧ IntsAre vs ns
  few : ns.length ≤ 63
section
variable {X : Cx} {e a b : Expr} {es : List Expr} {G : Gs} {mu : Mu} {pos p : Pos} {P : PW1}
theorem cr_lenB {ad : Addr} {ns : List Int} (S : Scr X.base ad ns) : CallR X (.builtin "len") (fun xs H Q => xs = [.ref ad] ∧ Q (.int (ns.length : Nat)) H) := by
  intro pins s σ H xs us Q I r ⟨e, q⟩
  subst e
  obtain ⟨u, eu, ru⟩ := vals1 r
  subst eu
  cases ru
  obtain ⟨vs, hv, hi⟩ := S.ex
  have e2 := hi.length
  have e3 := S.few
  have il : s.heap.IsList ad vs.toArray := ⟨_, I.bk _ _ hv, rfl, _, rfl⟩
  exact Calls.call_len_list il (by simp only [List.size_toArray]; omega) ⟨.int (ns.length : Nat), H, I.tok _, ⟨_, by simp only [List.size_toArray]; rw [e2]⟩, q⟩
theorem se_lenB {ad : Addr} {ns : List Int} (S : Scr X.base ad ns) (h : SE X e G mu fun w mu1 => w = .m ad ∧ P (.int (ns.length : Nat)) mu1) (hm : X.mg "len" = none) (hg : Gl X "len" := by rfl) (hs : starEach [e] X.env = [(false, eval e X.env)] := by rfl) (hpl : (backTo pos (starEach [] X.env)).any (·.1) = false := by rfl) : SE X (.Call (.Name "len" p) [e] [] pos) G mu P :=
  se_blt (f := fun ws mu P => ws = [.m ad] ∧ P (.int (ns.length : Nat)) mu) (cr_lenB S) (fun ws vs mu H P Q d m ⟨e, q⟩ k => by
    subst e
    obtain ⟨v, ev, dv⟩ := d.one
    have dv : v = .ref ad := dv
    subst ev dv
    exact ⟨rfl, k.now q rfl m⟩) hm (sa_one (h.imp fun w mu1 ⟨e, q⟩ => by subst e; exact ⟨rfl, q⟩) hs) (by decide +kernel) hg (by decide) (by decide) hs hpl
theorem se_ixB {ad : Addr} {ns : List Int} (S : Scr X.base ad ns) (h : SE X a G mu fun w1 mu1 => w1 = .m ad ∧ SE X b G mu1 fun w2 mu2 => ∃ (k : Nat) (i : Int), w2 = .int (k : Nat) ∧ ns[k]? = some i ∧ P (.int i) mu2) (hs : PlainIx b := by exact fun _ _ => rfl) : SE X (.Subscript a b pos) G mu P :=
  SE.mk (pe_ix (r := fun x y H Q => ∃ (k : Nat) (i : Int), x = .ref ad ∧ y = .int (k : Nat) ∧ ns[k]? = some i ∧ Q (.int i) H) (fun value slice pins s σ H x y v u Q I rx ry ⟨k, i, e1, e2, e3, q⟩ hs => by
    subst e1 e2
    cases rx
    obtain ⟨t, et⟩ := ry
    subst et
    obtain ⟨vs, hv, hi⟩ := S.ex
    have lt : k < ns.length := (List.getElem?_eq_some_iff.mp e3).1
    have l2 := hi.length
    have l3 := S.few
    obtain ⟨z, ez, rz⟩ := (vals_ints hi).get (i := k) (x := .int i) (by rw [List.getElem?_map, e3]; rfl)
    have il : s.heap.IsList ad vs.toArray := ⟨_, I.bk _ _ hv, rfl, _, rfl⟩
    exact item_listR il (Int.natCast_nonneg k) (by have : vs.toArray.size = vs.length := List.size_toArray; omega) (by rw [Int.toNat_natCast]; simpa using ez) ⟨.int i, H, I, rz, q⟩ hs) peE peE hs) fun σ H Q d m k => h σ H _ d m fun x w1 mu1 H1 ⟨e1, h1⟩ c1 d1 m1 => h1 σ H1 _ (c1.denG m d) m1 fun y w2 mu2 H2 ⟨kk, i, e2, e3, q⟩ c2 d2 m2 => by
      subst e1 e2
      have d1 : x = .ref ad := d1
      have d2 : y = .int (kk : Nat) := d2
      subst d1 d2
      exact ⟨kk, i, rfl, rfl, e3, (k.step (c1.trans c2)).now q rfl m2⟩
end
section
variable {P : Program} {w : World} {K : PySem.W.Frag} {mg mb : Str → Option Value} {k : Nat} {fa a : Addr} {fd : FuncData} {x : Str} {sp : Sp} {s1 : Shared} {vs : List Value} {ns : List Int}
theorem lawG (KX : K.In s1.heap) (hns : s1.heap.Ns mainGlobals mg) (hb : s1.heap.Ns builtinsNs mb) (hbb : ∀ x : Str, x ≠ "__name__" → mb x = bootBuiltins x) (hlim : s1.heap.NoLimit) (hg : s1.gens = #[])
    (ha : s1.heap.get? a = some { cls := .type "list", data := .seq vs.toArray }) (hi : IntsAre vs ns) (hl : ns.length ≤ 63) (hr : Room k callerA)
    (F : ∀ base : Heap, K.In base → base.Ns mainGlobals mg → Scr base a ns → FnG P w K mg base k fa fd [x] sp) (bd : ∀ (s : Shared) (u : Value), BindsTo s fd ⟨[u], []⟩ [(x, u)])
    (hsp : sp [.ref a] (fun _ => none) (fun v _ => v = .bl true) fun _ _ _ => False) :
    codeAny (model P w) callerA (.call (.ref fa) ⟨[.ref a], []⟩) (fun r s' => r = .ok (.ret (.bool true)) ∧ OldK s1.heap s'.heap ∧ s'.os = s1.os ∧ AllBare s'.gens) s1 := by
  have ok : HOk P w (fun _ => none) s1.heap := fun b u z => nomatch z
  have md : Mod K mg s1.heap := ⟨KX, hns, ⟨mb, hb, hbb⟩, hlim⟩
  have e0 : Env0 P w K mg s1.heap callerA [] s1 (fun _ => none) := { frames := rfl, mod := md, bs := fun b o e => ⟨e, rfl⟩, bsz := Nat.le_refl _, funs := trivial, frf := fun _ _ => rfl, hok := ok, bare := .of_eq hg }
  refine codeAny_mono ((F _ KX hns ⟨⟨vs, ha, hi⟩, hl⟩).run callerA [] s1 _ ⟨[.ref a], []⟩ [.ref a] [.ref a] _ _ hr rfl e0 (bd s1 (.ref a)) (.cons rfl .nil) hsp) fun r s' h => ?_
  cases r with
  | error e => exact False.elim h
  | ok fl => cases fl with
    | next => exact h.elim
    | brk => exact h.elim
    | cont => exact h.elim
    | ret u =>
      obtain ⟨v, H', os, bare, un, ok2, rr, q⟩ := h
      have q : v = .bl true := q
      subst q
      have rr : u = Value.bool true := rr
      subst rr
      exact ⟨rfl, OldK.of_keep fun b o e => un.keep b o e rfl (by intro q; exact absurd (show b ∈ ([] : List Addr) from q) (by simp)) (by simp), os, bare⟩
end
theorem walkG {l : PySem.W.OpenLaw} {k : Nat} {q : Program} {loose : List Str} {XP : (Str → Option Value) → Heap → Prop} {YP : World → Heap → Prop} {d : DefRec} {K : Params → PySem.W.Frag} {S : Addr → SpW} {x : Str}
    (hn : l.most = some 63) (hdf : d.params.defaults = []) (hr : Room k callerA) (hY : ∀ (w : World) (h : Heap), YP w h → (K w.params).In h)
    (F : ∀ (w : World) (mg : Str → Option Value) (fa : Addr) (h : Heap), (K w.params).In h → h.Ns mainGlobals mg → mg d.name = some (.ref fa) → ∃ fd : FuncData, (∀ (s : Shared) (u : Value), BindsTo s fd ⟨[u], []⟩ [(x, u)]) ∧
      ∀ (base : Heap) (a : Addr) (ns : List Int), (K w.params).In base → base.Ns mainGlobals mg → Scr base a ns → FnG l.prog w (K w.params) mg base k fa fd [x] (spW (K w.params) (S a)))
    (hS : ∀ (a : Addr) (P : PW1), (∀ mu', P (.bl true) mu') → S a [.m a] (fun _ => none) P) :
    PySem.W.WalkO q loose XP YP l.row.toRowW d [] (fun f vs => PySem.call f vs) := by
  refine Att.attach_call hn hdf fun w s0 s1 mg mb fa o pm cd doc a vs ns G Y ho hd hcd hmg hobj hints hlen hg => ?_
  have kx := hY w _ Y
  obtain ⟨fd, bd, hF⟩ := F w mg fa _ kx G.T.g hmg
  refine lawG kx G.T.g G.T.b G.T.builtins G.T.nolimit hg hobj hints hlen hr (fun base h1 h2 sc => hF base a ns h1 h2 sc) bd ?_
  refine ⟨[.m a], fun _ => none, fun w _ => w = .bl true, hS a _ fun _ => rfl, ⟨.ref a, [], rfl, rfl, rfl⟩, fun a c z => (nomatch z), fun v w mu' H' e c d m => ?_⟩
  subst e
  exact d
end Dv
set_option Elab.async false
set_option linter.all false
set_option maxRecDepth 100000
namespace K1
open PySem L2 Dv
theorem bit01 (b : Bool) : (if b = true then (1 : Int) else 0).natAbs < 2 ^ 1 := by cases b <;> decide
theorem bitmul (b : Bool) {m A : Int} (h0 : 0 ≤ m) (h1 : m < A) : 0 ≤ m * (if b = true then (1 : Int) else 0) ∧ m * (if b = true then (1 : Int) else 0) < A := by
  cases b
  · simp; omega
  · simp; exact ⟨h0, h1⟩
section
variable {P : Program} {w : World} {K : PySem.W.Frag} {mg : Str → Option Value} {base : Heap}
abbrev s_Ljar : Stmt := top 31
theorem sc_Ljar : FnScope ["_law_script", "_law_k", "_law_cell", "_law_mine"] ["_law_script", "_law_k"] (defScope s_Ljar) := ⟨rfl, rfl, rfl, by decide +kernel, rfl, by decide +kernel, by decide +kernel⟩
def S_jar (a : Addr) : SpW := fun ws mu P => ∃ (k : Nat), ws = [.m a, .int ((k : Nat) : Int)] ∧ k ≤ 3 ∧ ∀ y mu', mu y = none → JarOk mu' y 0 → Ext mu mu' → P (.m y) mu'
theorem d_Ljar {a : Addr} {cells : List Int} (sc : Scr base a cells) (D : Dfn K mg "_law_jar" s_Ljar ["_law_script", "_law_k"]) (B : Bl mg) : DefOk P w K mg base "_law_jar" ["_law_script", "_law_k"] 1 (S_jar a) := by
  refine dfnOk D sc_Ljar (fun ws mu P ⟨k, e, _⟩ => by rw [e]; rfl) (fun f cdv A outer s H E hr ws mu Pt ⟨k, e, k3, h⟩ => ?_)
  subst e
  refine sss_cons ?_
  refine ss_asg ?_
  refine se_if ?_
  refine st_cmp op_lt cmpI_w (nomark _) ?_  -- _law_k < len(_law_script)
  refine se_var (i := 1) rfl ?_  -- _law_k
  refine se_lenB sc ?_ B.len
  refine se_var (i := 0) rfl ?_  -- _law_script
  refine ⟨rfl, ?_⟩
  have body : ∀ cell : Int, SSs (cxOf CX0 P w K mg base ["_law_script", "_law_k", "_law_cell", "_law_mine"] "_law_jar" (defScope s_Ljar) f cdv A outer s H E).nox ((defBody s_Ljar).tail) [some (.m a), some (.int (k : Int)), some (.int cell), none] mu { nx := fun _ mu' => Pt .non mu', rt := Pt } := fun cell => by
    refine sss_cons ?_
    refine ss_asg ?_
    refine se_bin op_Mult Mult_w ?_
    refine se_bin op_Mod Mod_w ?_
    refine se_intC ?_ B.int
    refine se_absC ?_ B.abs
    refine se_var (i := 2) rfl ?_  -- _law_cell
    refine ⟨cell, rfl, ?_⟩
    have hc : ∃ c, c = (if cell < 0 then -cell else cell) := ⟨_, rfl⟩
    obtain ⟨c, hc⟩ := hc
    rw [← hc]
    refine se_bin op_powW PowW_w ?_
    refine se_bin op_Pow Pow_w ?_
    refine se_int ?_  -- 10
    refine se_int ?_  -- 60
    refine ⟨⟨by decide, by decide, by decide⟩, ?_⟩
    refine se_int ?_  -- 5
    refine ⟨⟨by decide, by decide +kernel⟩, ?_⟩
    have e300 : (((10 : Int) ^ (60 : Int).toNat) ^ (5 : Int).toNat) = 10 ^ 300 := by decide +kernel
    rw [e300]
    have p300 : (0 : Int) < 10 ^ 300 := by decide +kernel
    refine ⟨p300, ?_⟩
    have m0 := Int.emod_nonneg c (Int.ne_of_gt p300)
    have m1 := Int.emod_lt_of_pos c p300
    have hm : ∃ m, m = c % 10 ^ 300 := ⟨_, rfl⟩
    obtain ⟨m, hm⟩ := hm
    rw [← hm] at m0 m1 ⊢
    refine se_intC ?_ B.int
    refine se_cmp op_ge cmpI_w (nomark _) ?_  -- abs(_law_cell) >= 10 ** 18
    refine se_absC ?_ B.abs
    refine se_var (i := 2) rfl ?_  -- _law_cell
    refine ⟨cell, rfl, ?_⟩
    refine se_bin op_Pow Pow_w ?_
    refine se_int ?_  -- 10
    refine se_int ?_  -- 18
    refine ⟨⟨by decide, by decide, by decide⟩, ?_⟩
    refine ⟨?_, ?_⟩
    · obtain ⟨n, rfl⟩ : ∃ n : Nat, m = n := ⟨m.toNat, by omega⟩
      have n1 : n < 10 ^ 300 := by
        have e : ((10 ^ 300 : Nat) : Int) = 10 ^ 300 := by decide +kernel
        rw [← e] at m1
        exact Int.ofNat_lt.mp m1
      have n2 : (10 : Nat) ^ 300 ≤ 2 ^ 1000 := by decide +kernel
      exact cmulW 1000 1 (by rw [Int.natAbs_natCast]; exact Nat.lt_of_lt_of_le n1 n2) (bit01 _) (by decide) (by decide) (by decide)
    · refine sg_name (i := 3) ?_ sc_Ljar.nd  -- _law_mine =
      have hmine : ∃ mn, mn = m * (if (decide ((if cell < 0 then -cell else cell) ≥ (10 : Int) ^ (18 : Int).toNat)) = true then 1 else 0) := ⟨_, rfl⟩
      obtain ⟨mn, hmn⟩ := hmine
      rw [← hmn]
      have mn0 : 0 ≤ mn ∧ mn < 10 ^ 300 := by
        rw [hmn]
        exact bitmul _ m0 m1
      refine sss_cons ?_
      refine ss_ret ?_
      refine se_lst ?_
      refine sa_cons ?_
      refine se_var (i := 3) rfl ?_  -- _law_mine
      refine sa_cons ?_
      refine se_bin op_Mod Mod_w ?_
      refine se_intC ?_ B.int
      refine se_bin op_Add Add_w ?_
      refine se_bin op_Add Add_w ?_
      refine se_bin op_Mult Mult_w ?_
      refine se_bin op_Mod Mod_w ?_
      refine se_intC ?_ B.int
      refine se_var (i := 2) rfl ?_  -- _law_cell
      refine se_int ?_  -- 2305843009213693951
      refine ⟨by decide, ?_⟩
      refine se_int ?_  -- 70843
      have r0 := Int.emod_nonneg cell (show (2305843009213693951 : Int) ≠ 0 by decide)
      have r1 := Int.emod_lt_of_pos cell (show (0 : Int) < 2305843009213693951 by decide)
      refine ⟨cmulW 61 17 (by omega) (by decide) (by decide) (by decide) (by decide), ?_⟩
      refine se_bin op_Mult Mult_w ?_
      refine se_bin op_Mult Mult_w ?_
      refine se_int ?_  -- 8521
      refine se_var (i := 1) rfl ?_  -- _law_k
      refine ⟨cmulW 14 2 (by decide) (by omega) (by decide) (by decide) (by decide), ?_⟩
      refine se_var (i := 1) rfl ?_  -- _law_k
      refine ⟨cmulW 16 2 (by omega) (by omega) (by decide) (by decide) (by decide), ?_⟩
      refine se_int ?_  -- 41
      refine se_int ?_  -- 2305843009213693921
      refine ⟨by decide, ?_⟩
      refine sa_cons ?_
      refine se_int ?_  -- 0
      refine sa_nil ?_
      refine ⟨by show 3 ≤ sizeLine; decide, fun y ny => ?_⟩
      have q1 := Int.emod_lt_of_pos (cell % 2305843009213693951 * 70843 + 8521 * (k : Int) * (k : Int) + 41) (show (0 : Int) < 2305843009213693921 by decide)
      have q0 := Int.emod_nonneg (cell % 2305843009213693951 * 70843 + 8521 * (k : Int) * (k : Int) + 41) (show (2305843009213693921 : Int) ≠ 0 by decide)
      exact h y _ ny ⟨_, _, _, setM_same, mn0.1, mn0.2, q0, Int.lt_trans q1 (by decide), Int.le_refl _, Int.le_refl _⟩ (Ext.refl.set ny)
  by_cases hk : (k : Int) < (cells.length : Nat)
  · show if2 (decide ((k : Int) < (cells.length : Nat))) _ _
    rw [decide_eq_true hk]
    refine se_ixB sc ?_  -- _law_script[_law_k]
    refine se_var (i := 0) rfl ?_  -- _law_script
    refine ⟨rfl, ?_⟩
    refine se_var (i := 1) rfl ?_  -- _law_k
    have hk' : k < cells.length := by omega
    refine ⟨k, cells[k], rfl, List.getElem?_eq_getElem hk', ?_⟩
    exact sg_name (i := 2) (body _) sc_Ljar.nd
  · show if2 (decide ((k : Int) < (cells.length : Nat))) _ _
    rw [decide_eq_false hk]
    refine se_bin op_Add Add_w ?_
    refine se_bin op_Mult Mult_w ?_
    refine se_int ?_  -- 29
    refine se_var (i := 1) rfl ?_  -- _law_k
    refine ⟨cmulW 5 2 (by decide) (by omega) (by decide) (by decide) (by decide), ?_⟩
    refine se_int ?_  -- 11
    exact sg_name (i := 2) (body _) sc_Ljar.nd
end
end K1
set_option Elab.async false
set_option linter.all false
set_option maxRecDepth 100000
/-! What is drawn is a world. -/
namespace K1
open PySem L2 Dv
theorem look_first : ∀ {ss : List Slot} {s : Slot}, (ss.map (·.1)).Nodup → s ∈ ss → look ss (firstS ss) s.1 = some (s.2.2.headD "")
  | [], s, _, h => by simp at h
  | t :: ss, s, nd, h => by
    rw [List.map_cons, List.nodup_cons] at nd
    show look (t :: ss) (t.2.2.headD "" :: firstS ss) s.1 = _
    unfold look
    rcases List.mem_cons.mp h with rfl | h
    · rw [if_pos rfl]
    · have hne : t.1 ≠ s.1 := fun z => nd.1 (List.mem_map.mpr ⟨s, h, z.symm⟩)
      rw [if_neg hne]
      exact look_first nd.2 h
theorem away_no {hs : List Str} {ss : List Slot} {fs : Pat} (ok : SsOk hs ss) (h : Away ss fs) : holds ss (firstS ss) fs = false := by
  obtain ⟨r, hr, s, hss, e, ht⟩ := h
  unfold holds
  rw [List.all_eq_false]
  refine ⟨r, hr, ?_⟩
  rw [decide_eq_true_iff, ← e, look_first ok.nd hss]
  intro z
  have z := Option.some.inj z
  have nd := (ok.each s hss).nd
  cases hw : s.2.2 with
  | nil => rw [hw] at ht; simp at ht
  | cons x rest =>
    rw [hw] at z ht nd
    rw [List.nodup_cons] at nd
    have z : x = r.2 := z
    exact nd.1 (z ▸ ht)
theorem away_some {ss : List Slot} {fs : Pat} (h : Away ss fs) : fs ≠ [] := fun z => by
  obtain ⟨r, hr, _⟩ := h
  rw [z] at hr
  simp at hr
theorem psOk_of {hs : List Str} {ss : List Slot} {ps : List Pat} (ok : SsOk hs ss) (each : ∀ p ∈ ps, PtOk ss p ∧ Away ss p) (up : rising (ps.map ptW) = true) (len : ps.length ≤ 10) : PsOk ss ps where
  each := fun p hp => ⟨(each p hp).1, away_some (each p hp).2⟩
  up := up
  len := len
  no := by
    unfold oneHolds
    rw [List.any_eq_false]
    intro p hp
    rw [away_no ok (each p hp).2]
    simp
theorem rising_tail : ∀ {us : List W}, rising us = true → rising us.tail = true
  | [], _ => rfl
  | [x], _ => rfl
  | x :: y :: r, h => by
    unfold rising at h ⊢
    simp only [List.tail_cons, List.zip_cons_cons, List.all_cons, Bool.and_eq_true] at h ⊢
    exact h.2
theorem PsOk.tail {ss : List Slot} {ps : List Pat} (h : PsOk ss ps) : PsOk ss ps.tail where
  each := fun p hp => h.each p (List.mem_of_mem_tail hp)
  up := by rw [List.map_tail]; exact rising_tail h.up
  len := by rw [List.length_tail]; have := h.len; omega
  no := by
    have := h.no
    unfold oneHolds at this ⊢
    rw [List.any_eq_false] at this ⊢
    exact fun p hp => this p (List.mem_of_mem_tail hp)
/-- lapses turned about -/
theorem WdOk.laps {v : Wd} (h : WdOk v) : WdOk { v with lapses := v.lapses.reverse } :=
  { hs := h.hs, ss := h.ss, bears := h.bears, some_ := h.some_, never := h.never, len := by show v.lapses.reverse.length ≤ 4; rw [List.length_reverse]; exact h.len, each := fun l hl => h.each l (List.mem_reverse.mp hl) }
/-- never without its first -/
theorem WdOk.nev {v : Wd} (h : WdOk v) : WdOk { v with never := v.never.tail } :=
  { hs := h.hs, ss := h.ss, bears := h.bears, some_ := h.some_, never := h.never.tail, len := h.len, each := h.each }
/-- bears without its first -/
theorem WdOk.bea {v : Wd} (h : WdOk v) (h2 : 1 < v.bears.length) : WdOk { v with bears := v.bears.tail } :=
  { hs := h.hs, ss := h.ss, bears := h.bears.tail, some_ := fun z => by
      have z : v.bears.tail = [] := z
      have := congrArg List.length z
      rw [List.length_tail] at this
      simp at this
      omega
    never := h.never, len := h.len, each := h.each }
end K1
set_option Elab.async false
set_option linter.all false
set_option maxRecDepth 100000
/-! Worlds near a world: slots turned about, a house more. -/
namespace K1
open PySem L2 Dv
theorem PrOk.sub {ss ss' : List Slot} (h : ∀ s ∈ ss, s ∈ ss') {q : Str × Str} (p : PrOk ss q) : PrOk ss' q := let ⟨s, h1, h2⟩ := p; ⟨s, h s h1, h2⟩
theorem PtOk.sub {ss ss' : List Slot} (h : ∀ s ∈ ss, s ∈ ss') {p : Pat} (k : PtOk ss p) : PtOk ss' p := ⟨fun q hq => (k.pr q hq).sub h, k.up, k.len⟩
theorem LpOk.sub {ss ss' : List Slot} (h : ∀ s ∈ ss, s ∈ ss') {l : Lap} (k : LpOk ss l) : LpOk ss' l :=
  have f : ∀ s ∈ ss.filter (atHome l.1), s ∈ ss'.filter (atHome l.1) := fun s hs => List.mem_filter.mpr ⟨h s (List.mem_filter.mp hs).1, (List.mem_filter.mp hs).2⟩
  ⟨k.ho, k.needs.sub f, k.makes.sub f, k.some_⟩
theorem look_pr {ss : List Slot} {q : Str × Str} (nd : (ss.map (·.1)).Nodup) {s : Slot} (hs : s ∈ ss) (e : s.1 = q.1) : look ss (firstS ss) q.1 = some (s.2.2.headD "") := e ▸ look_first nd hs
theorem holds_first {ss ss' : List Slot} (nd : (ss.map (·.1)).Nodup) (nd' : (ss'.map (·.1)).Nodup) (sub : ∀ s ∈ ss, s ∈ ss') {p : Pat} (k : ∀ q ∈ p, PrOk ss q) : holds ss' (firstS ss') p = holds ss (firstS ss) p := by
  unfold holds
  have : ∀ q ∈ p, decide (look ss' (firstS ss') q.1 = some q.2) = decide (look ss (firstS ss) q.1 = some q.2) := fun q hq => by
    obtain ⟨s, hs, e, _⟩ := k q hq
    rw [look_pr nd hs e, look_pr nd' (sub s hs) e]
  rw [Bool.eq_iff_iff, List.all_eq_true, List.all_eq_true]
  exact ⟨fun h q hq => by rw [← this q hq]; exact h q hq, fun h q hq => by rw [this q hq]; exact h q hq⟩
theorem PsOk.sub {ss ss' : List Slot} (nd : (ss.map (·.1)).Nodup) (nd' : (ss'.map (·.1)).Nodup) (sub : ∀ s ∈ ss, s ∈ ss') {ps : List Pat} (h : PsOk ss ps) : PsOk ss' ps where
  each := fun p hp => ⟨(h.each p hp).1.sub sub, (h.each p hp).2⟩
  up := h.up
  len := h.len
  no := by
    have := h.no
    unfold oneHolds at this ⊢
    rw [List.any_eq_false] at this ⊢
    intro p hp
    rw [holds_first nd nd' sub (h.each p hp).1.pr]
    exact this p hp
theorem manyS_rev : ∀ ss : List Slot, manyS ss.reverse = manyS ss
  | [] => rfl
  | s :: ss => by
    rw [List.reverse_cons, manyS_append, manyS_rev ss]
    simp [manyS, Nat.mul_comm]
theorem WdOk.turn {v : Wd} (h : WdOk v) : WdOk { v with slots := v.slots.reverse } := by
  have nd' : (v.slots.reverse.map (·.1)).Nodup := by
    rw [List.map_reverse]
    exact (List.reverse_perm _).nodup_iff.mpr h.ss.nd
  have sub : ∀ s ∈ v.slots, s ∈ v.slots.reverse := fun s hs => List.mem_reverse.mpr hs
  exact
    { hs := h.hs
      ss := ⟨by show 1 ≤ v.slots.reverse.length; rw [List.length_reverse]; exact h.ss.lo, by show v.slots.reverse.length ≤ 6; rw [List.length_reverse]; exact h.ss.hi, fun s hs => h.ss.each s (List.mem_reverse.mp hs), nd', by show manyS v.slots.reverse ≤ 32; rw [manyS_rev]; exact h.ss.many⟩
      bears := h.bears.sub h.ss.nd nd' sub
      some_ := h.some_
      never := h.never.sub h.ss.nd nd' sub
      len := h.len
      each := fun l hl => (h.each l hl).sub sub }
/-- texts in ascending order -/
def asTx (ns : List Str) : List Str := ns.mergeSort fun a b => leW (.str a) (.str b)
theorem asTx_perm (ns : List Str) : (asTx ns).Perm ns := List.mergeSort_perm _ _
theorem asTx_sort (ns : List Str) : (stW ns).mergeSort leW = stW (asTx ns) := sorted_map W.str ns
theorem asTx_up {ns : List Str} (nd : ns.Nodup) : rising (stW (asTx ns)) = true := by
  have h1 := sorted_up W.str (l := ns) (List.Pairwise.imp (fun {a b} hne => str_apart hne) nd)
  refine rising_of ?_
  unfold stW
  rw [List.pairwise_map]
  exact h1
theorem lt_str {x y : Str} : ltD (.str x, .str y) = decide (x.cps.toList < y.cps.toList) := PySem.W.dataLt_str x y
theorem rising_pair : ∀ {ns : List Str}, rising (stW ns) = true → ns.Pairwise fun a b => a.cps.toList < b.cps.toList
  | [], _ => List.Pairwise.nil
  | [x], _ => List.pairwise_singleton _ _
  | x :: y :: r, h => by
    have h0 := h
    unfold rising stW at h
    simp only [List.map_cons, List.tail_cons, List.zip_cons_cons, List.all_cons, Bool.and_eq_true, lt_str, decide_eq_true_iff] at h
    have ih := rising_pair (ns := y :: r) (rising_tail h0)
    refine List.pairwise_cons.mpr ⟨fun z hz => ?_, ih⟩
    rcases List.mem_cons.mp hz with rfl | hz
    · exact h.1
    · exact List.lt_trans h.1 ((List.pairwise_cons.mp ih).1 z hz)
theorem rising_nodup {ns : List Str} (h : rising (stW ns) = true) : ns.Nodup := (rising_pair h).imp fun {a b} hl e => by
  rw [e] at hl
  exact List.lt_irrefl _ hl
theorem SlOk.sub {hs hs' : List Str} (h : ∀ x ∈ hs, x ∈ hs') {s : Slot} (k : SlOk hs s) : SlOk hs' s := ⟨k.nm, h _ k.home, k.lo, k.hi, k.wm, k.nd⟩
theorem WdOk.house {v : Wd} (h : WdOk v) {n : Str} (hn : NmOk n) (hv : n ∉ v.houses) (hl : v.houses.length < 4) : WdOk { v with houses := asTx (v.houses ++ [n]) } := by
  have pm := asTx_perm (v.houses ++ [n])
  have nd : (v.houses ++ [n]).Nodup := by
    rw [List.nodup_append]
    exact ⟨rising_nodup h.hs.up, by simp, fun a ha b hb => by rw [List.mem_singleton] at hb; subst hb; exact fun z => hv (z ▸ ha)⟩
  have len : (asTx (v.houses ++ [n])).length = v.houses.length + 1 := by rw [pm.length_eq, List.length_append]; rfl
  have sub : ∀ x ∈ v.houses, x ∈ asTx (v.houses ++ [n]) := fun x hx => pm.mem_iff.mpr (by simp [hx])
  exact
    { hs := ⟨by show 1 ≤ (asTx (v.houses ++ [n])).length; omega, by show (asTx (v.houses ++ [n])).length ≤ 4; omega, fun x hx => by
        rcases List.mem_append.mp (pm.mem_iff.mp hx) with q | q
        · exact h.hs.nm x q
        · rw [List.mem_singleton] at q
          exact q ▸ hn, asTx_up nd⟩
      ss := ⟨h.ss.lo, h.ss.hi, fun s hs => (h.ss.each s hs).sub sub, h.ss.nd, h.ss.many⟩
      bears := h.bears, some_ := h.some_, never := h.never, len := h.len, each := h.each }
end K1
set_option Elab.async false
set_option linter.all false
set_option maxRecDepth 100000
/-! Data of names: shown, compared. World.__eq__. -/
namespace K1
open PySem L2 Dv
/-- names, and tuples of such, n deep -/
def Nm3 : Nat → W → Prop
  | _, .str x => NmOk x
  | n + 1, .tup ws => ∀ w ∈ ws, Nm3 n w
  | _, _ => False
mutual
def sz : W → Nat
  | .tup ws => szs ws + 1
  | _ => 1
def szs : List W → Nat
  | [] => 0
  | w :: ws => sz w + szs ws
end
theorem szs_map {α : Type} (f : α → W) (k : Nat) : ∀ {xs : List α}, (∀ x ∈ xs, sz (f x) ≤ k) → szs (xs.map f) ≤ xs.length * k
  | [], _ => by simp [szs]
  | x :: xs, h => by
    have h1 := h x (by simp)
    have h2 := szs_map f k (xs := xs) fun y hy => h y (by simp [hy])
    simp only [List.map_cons, szs, List.length_cons, Nat.succ_mul]
    omega
structure Shows (w : W) (n : Nat) : Prop where
  pl : plW w = true
  lay : (dat w).canLay0 = true
  dep : (dat w).depth ≤ n
  shw : (dat w).showable = true
  noD : (dat w).hasDict = false
  len : (dat w).shown.length + 2 ≤ 92 * sz w
theorem shows_all {n : Nat} : ∀ {ws : List W}, (∀ w ∈ ws, Shows w n) → plsW ws = true ∧ PyData.canLayAll0 (dats ws) = true ∧ PyData.depthAll (dats ws) ≤ n ∧ PyData.showableAll (dats ws) = true ∧ PyData.hasDictAll (dats ws) = false ∧ piled (PyData.shownAll (dats ws)) ≤ 92 * szs ws
  | [], _ => by simp [plsW, dats, PyData.canLayAll0, PyData.depthAll, PyData.showableAll, PyData.hasDictAll, PyData.shownAll, szs, piled]
  | w :: ws, h => by
    have a := h w (by simp)
    obtain ⟨b1, b2, b3, b4, b5, b6⟩ := shows_all (ws := ws) fun v hv => h v (by simp [hv])
    refine ⟨by simp [plsW, a.pl, b1], by simp [dats, PyData.canLayAll0, a.lay, b2], ?_, by simp [dats, PyData.showableAll, a.shw, b4], by simp [dats, PyData.hasDictAll, a.noD, b5], ?_⟩
    · simp only [dats, PyData.depthAll]
      have := a.dep
      omega
    · simp only [dats, PyData.shownAll, piled_cons, szs]
      have := a.len
      omega
theorem tupleText_le (ts : List Str) : (tupleText ts).length ≤ piled ts + 3 := by
  unfold tupleText
  rw [strLen_append, strLen_append]
  have e1 : (("(" : String) : Str).length = 1 := rfl
  have e3 : (((if ts.length == 1 then ",)" else ")" : String) : Str)).length ≤ 2 := by split <;> decide
  by_cases h : ts = []
  · subst h
    have : (Str.join ", " ([] : List Str)).length = 0 := rfl
    omega
  · have := join_length_add ts h
    omega
theorem shows_of : ∀ (n : Nat) (w : W), Nm3 n w → Shows w n
  | n, .str x, h => by
    have h : NmOk x := by cases n <;> exact h
    have h1 := StrLaws.reprText_len x fun c hc => Nat.lt_of_le_of_lt (h.2.2 c hc).2 (by decide)
    have h2 := h.2.1
    refine ⟨by simp [plW], by simpa [dat] using nm_ok h, by simp [dat, PyData.depth], by simp [dat, PyData.showable], by simp [dat, PyData.hasDict], ?_⟩
    show (reprText x).length + 2 ≤ 92 * 1
    omega
  | 0, .tup ws, h => h.elim
  | n + 1, .tup ws, h => by
    obtain ⟨b1, b2, b3, b4, b5, b6⟩ := shows_all (n := n) (ws := ws) fun w hw => shows_of n w (h w hw)
    refine ⟨by simpa [plW] using b1, by simpa [dat, PyData.canLay0] using b2, ?_, by simpa [dat, PyData.showable] using b4, by simpa [dat, PyData.hasDict] using b5, ?_⟩
    · simp only [dat, PyData.depth]
      omega
    · show (tupleText (PyData.shownAll (dats ws))).length + 2 ≤ 92 * (szs ws + 1)
      have := tupleText_le (PyData.shownAll (dats ws))
      omega
  | 0, .non, h => h.elim
  | 0, .bl _, h => h.elim
  | 0, .int _, h => h.elim
  | 0, .m _, h => h.elim
  | _ + 1, .non, h => h.elim
  | _ + 1, .bl _, h => h.elim
  | _ + 1, .int _, h => h.elim
  | _ + 1, .m _, h => h.elim
theorem Nm3.up : ∀ {n : Nat} {w : W}, Nm3 n w → Nm3 (n + 1) w
  | 0, .str x, h => h
  | n + 1, .str x, h => h
  | n + 1, .tup ws, h => fun w hw => Nm3.up (h w hw)
  | 0, .tup _, h => h.elim
  | 0, .non, h => h.elim
  | 0, .bl _, h => h.elim
  | 0, .int _, h => h.elim
  | 0, .m _, h => h.elim
  | _ + 1, .non, h => h.elim
  | _ + 1, .bl _, h => h.elim
  | _ + 1, .int _, h => h.elim
  | _ + 1, .m _, h => h.elim
theorem Shows.shaped {w : W} {n : Nat} (h : Shows w n) (hn : n ≤ 60) : SeqAt.shaped (dat w) = true := by
  unfold SeqAt.shaped
  rw [h.lay, decide_eq_true (Nat.le_trans h.dep (Nat.le_trans hn (by decide)))]
  rfl
theorem asD_pl {mu : Mu} {w : W} (h : plW w = true) : asD mu w = some (dat w) := by
  cases w with
  | m a => simp [plW] at h
  | tup ws => exact if_pos (e := none) h
  | non => exact if_pos (e := none) h
  | bl b => exact if_pos (e := none) h
  | int i => exact if_pos (e := none) h
  | str x => exact if_pos (e := none) h
theorem Shows.repr {w : W} {n : Nat} {mu : Mu} {P : PW1} (h : Shows w n) (hr : isRef w) (hn : n ≤ 60) (hz : sz w ≤ 100000) (k : P (.str (dat w).shown) mu) : reprW [w] mu P := by
  refine ⟨w, dat w, rfl, hr, asD_pl h.pl, h.shw, h.noD, Nat.le_trans h.dep hn, ?_, k⟩
  have := h.len
  show _ ≤ 2 ^ 24
  omega
/-! the five parts of a world -/
theorem nm3_nm {ns : List Str} (h : ∀ n ∈ ns, NmOk n) : Nm3 1 (nmW ns) := fun w hw => by
  obtain ⟨n, hn, rfl⟩ := List.mem_map.mp hw
  exact h n hn
theorem nm3_sl {s : Slot} (h : NmOk s.1 ∧ NmOk s.2.1 ∧ s.2.2.length ≤ 4 ∧ ∀ w ∈ s.2.2, NmOk w) : Nm3 2 (slW1 s) := fun w hw => by
  simp only [List.mem_cons, List.not_mem_nil, or_false] at hw
  rcases hw with rfl | rfl | rfl
  · exact h.1
  · exact h.2.1
  · exact nm3_nm h.2.2.2
theorem nm3_sls {ss : List Slot} (h : SsNm ss) : Nm3 3 (slsW ss) := fun w hw => by
  obtain ⟨s, hs, rfl⟩ := List.mem_map.mp hw
  exact nm3_sl (h.nm s hs)
theorem nm3_pt {p : Pat} (h : ∀ q ∈ p, NmOk q.1 ∧ NmOk q.2) : Nm3 2 (ptW p) := fun w hw => by
  obtain ⟨q, hq, rfl⟩ := List.mem_map.mp hw
  intro v hv
  simp only [List.mem_cons, List.not_mem_nil, or_false] at hv
  rcases hv with rfl | rfl
  · exact (h q hq).1
  · exact (h q hq).2
theorem nm3_pts {ps : List Pat} (h : ∀ p ∈ ps, ∀ q ∈ p, NmOk q.1 ∧ NmOk q.2) : Nm3 3 (ptsW ps) := fun w hw => by
  obtain ⟨p, hp, rfl⟩ := List.mem_map.mp hw
  exact nm3_pt (h p hp)
theorem nm3_lps {ss : List Slot} {ls : List Lap} (nm : SsNm ss) (h : ∀ l ∈ ls, LpOk ss l) : Nm3 4 (lpsW ls) := fun w hw => by
  obtain ⟨l, hl, rfl⟩ := List.mem_map.mp hw
  have ok := h l hl
  intro v hv
  simp only [List.mem_cons, List.not_mem_nil, or_false] at hv
  rcases hv with rfl | rfl | rfl
  · exact ok.ho
  · exact (nm3_pt (pt_names (nm.filter _) ok.needs.pr))
  · exact (nm3_pt (pt_names (nm.filter _) ok.makes.pr))
structure Five (v : Wd) : Prop where
  houses : Nm3 4 (nmW v.houses)
  slots : Nm3 4 (slsW v.slots)
  bears : Nm3 4 (ptsW v.bears)
  never : Nm3 4 (ptsW v.never)
  lapses : Nm3 4 (lpsW v.lapses)
theorem WdOk.five {v : Wd} (h : WdOk v) : Five v :=
  have nm := h.ss.nm h.hs
  { houses := (nm3_nm h.hs.nm).up.up.up
    slots := (nm3_sls nm).up
    bears := (nm3_pts fun p hp => pt_names nm (h.bears.each p hp).1.pr).up
    never := (nm3_pts fun p hp => pt_names nm (h.never.each p hp).1.pr).up
    lapses := nm3_lps nm h.each }
theorem Five.all {v : Wd} (h : Five v) : Nm3 5 (.tup (fiveW v)) := fun w hw => by
  simp only [fiveW, List.mem_cons, List.not_mem_nil, or_false] at hw
  rcases hw with rfl | rfl | rfl | rfl | rfl
  · exact h.houses
  · exact h.slots
  · exact h.bears
  · exact h.never
  · exact h.lapses
def eqD (w u : W) : Bool := PyData.eqv (dat w) (dat u)
theorem eqD_w {w u : W} {n : Nat} {mu : Mu} {P : PW1} (h1 : Nm3 n w) (h2 : Nm3 n u) (hn : n ≤ 60) (k : P (.bl (eqD w u)) mu) : eqW w u mu P := by
  have a := shows_of n w h1
  have b := shows_of n u h2
  exact ⟨dat w, dat u, asD_pl a.pl, asD_pl b.pl, a.shaped hn, b.shaped hn, k⟩
def eqWd (v u : Wd) : Bool := eqD (nmW v.houses) (nmW u.houses) && (eqD (slsW v.slots) (slsW u.slots) && (eqD (ptsW v.bears) (ptsW u.bears) && (eqD (ptsW v.never) (ptsW u.never) && eqD (lpsW v.lapses) (lpsW u.lapses))))
theorem eqWd_five (v u : Wd) : eqD (.tup (fiveW v)) (.tup (fiveW u)) = eqWd v u := by
  unfold eqD fiveW eqWd eqD
  simp only [dat, dats, PyData.eqv, PyData.eqvAll, Bool.and_true]
mutual
theorem eqv_refl : ∀ d : PyData, d.canLay0 = true → PyData.eqv d d = true
  | .none, _ => by simp [PyData.eqv]
  | .bool b, _ => by simp [PyData.eqv]
  | .int i, _ => by simp [PyData.eqv]
  | .str x, _ => by simp [PyData.eqv]
  | .list xs, h => by
    simp only [PyData.eqv]
    exact eqvAll_refl xs (by simpa [PyData.canLay0] using h)
  | .tuple xs, h => by
    simp only [PyData.eqv]
    exact eqvAll_refl xs (by simpa [PyData.canLay0] using h)
  | .dict _, h => by simp [PyData.canLay0] at h
theorem eqvAll_refl : ∀ ds : List PyData, PyData.canLayAll0 ds = true → PyData.eqvAll ds ds = true
  | [], _ => by simp [PyData.eqvAll]
  | d :: ds, h => by
    simp only [PyData.canLayAll0, Bool.and_eq_true] at h
    simp only [PyData.eqvAll, eqv_refl d h.1, eqvAll_refl ds h.2, Bool.and_self]
end
theorem eqWd_refl {v : Wd} (h : Five v) : eqWd v v = true := by
  rw [← eqWd_five]
  exact eqv_refl _ (shows_of 5 _ h.all).lay
section
variable {P : Program} {w : World} {K : PySem.W.Frag} {mg : Str → Option Value} {base : Heap} {Cl : Addr}
abbrev s_World_eq : Stmt := inClass (top 15) 1
theorem sc_World_eq : FnScope ["self", "other"] ["self", "other"] (defScope s_World_eq) := ⟨rfl, rfl, rfl, by decide +kernel, rfl, by decide +kernel, by decide +kernel⟩
def S_eq (Cl : Addr) : SpW := fun ws mu P => ∃ y v w2, ws = [.m y, w2] ∧ mu y = some (.ins Cl (wdFs v)) ∧ Five v ∧ ((∃ z u, w2 = .m z ∧ mu z = some (.ins Cl (wdFs u)) ∧ Five u ∧ P (.bl (eqWd v u)) mu) ∨ (BltW w2 ∧ P (.bl false) mu))
theorem d_World_eq (D : MDfn K Cl "__eq__" "World.__eq__" s_World_eq ["self", "other"]) (C : WCls K mg Cl) (Z : IsCls K Cl) (B : Bl mg) : MetOk P w K mg base Cl "__eq__" ["self", "other"] 1 (S_eq Cl) := by
  refine metOk D sc_World_eq (fun ws mu P ⟨y, v, w2, e, _⟩ => by rw [e]; rfl) (fun f cdv A outer s H E hr ws mu Pt ⟨y, v, w2, e, hy, fv, h⟩ => ?_)
  subst e
  refine sss_cons ?_
  refine ss_ret ?_
  refine se_and ?_
  refine se_isOwn Z C.glob ?_ B.isinstance
  refine se_var (i := 1) rfl ?_  -- other
  rcases h with ⟨z, u, rfl, hz, fu, h⟩ | ⟨hb, h⟩
  · refine ⟨⟨_, hz⟩, fun b hb => ?_⟩
    have hb : true = b := Option.some.inj hb
    subst hb
    have step : ∀ {bb : Bool} {A1 B1 : Prop}, (bb = true → A1) → (bb = false → B1) → bW (.bl bb) A1 B1 := fun h1 h2 => bW_split h1 h2
    have fin : ∀ {r : Bool}, r = eqWd v u → Pt (.bl r) mu := fun e => e ▸ h
    show SE _ _ _ _ _
    refine se_and ?_
    refine se_cmp (op_eqD hr.units) eq_w (nomark _) ?_  -- self.houses == other.houses
    refine se_fld (se_var (i := 0) rfl ⟨y, Cl, wdFs v, nmW v.houses, rfl, hy, C.cls, C.houses, rfl, ?_⟩)
    refine se_fld (se_var (i := 1) rfl ⟨z, Cl, wdFs u, nmW u.houses, rfl, hz, C.cls, C.houses, rfl, ?_⟩)
    refine eqD_w fv.houses fu.houses (by decide) (step (fun e1 => ?_) fun e1 => fin (by unfold eqWd; rw [e1]; rfl))
    refine se_and ?_
    refine se_cmp (op_eqD hr.units) eq_w (nomark _) ?_  -- self.slots == other.slots
    refine se_fld (se_var (i := 0) rfl ⟨y, Cl, wdFs v, slsW v.slots, rfl, hy, C.cls, C.slots, rfl, ?_⟩)
    refine se_fld (se_var (i := 1) rfl ⟨z, Cl, wdFs u, slsW u.slots, rfl, hz, C.cls, C.slots, rfl, ?_⟩)
    refine eqD_w fv.slots fu.slots (by decide) (step (fun e2 => ?_) fun e2 => fin (by unfold eqWd; rw [e1, e2]; rfl))
    refine se_and ?_
    refine se_cmp (op_eqD hr.units) eq_w (nomark _) ?_  -- self.bears == other.bears
    refine se_fld (se_var (i := 0) rfl ⟨y, Cl, wdFs v, ptsW v.bears, rfl, hy, C.cls, C.bears, rfl, ?_⟩)
    refine se_fld (se_var (i := 1) rfl ⟨z, Cl, wdFs u, ptsW u.bears, rfl, hz, C.cls, C.bears, rfl, ?_⟩)
    refine eqD_w fv.bears fu.bears (by decide) (step (fun e3 => ?_) fun e3 => fin (by unfold eqWd; rw [e1, e2, e3]; rfl))
    refine se_and ?_
    refine se_cmp (op_eqD hr.units) eq_w (nomark _) ?_  -- self.never == other.never
    refine se_fld (se_var (i := 0) rfl ⟨y, Cl, wdFs v, ptsW v.never, rfl, hy, C.cls, C.never, rfl, ?_⟩)
    refine se_fld (se_var (i := 1) rfl ⟨z, Cl, wdFs u, ptsW u.never, rfl, hz, C.cls, C.never, rfl, ?_⟩)
    refine eqD_w fv.never fu.never (by decide) (step (fun e4 => ?_) fun e4 => fin (by unfold eqWd; rw [e1, e2, e3, e4]; rfl))
    refine se_one ?_
    refine se_cmp (op_eqD hr.units) eq_w (nomark _) ?_  -- self.lapses == other.lapses
    refine se_fld (se_var (i := 0) rfl ⟨y, Cl, wdFs v, lpsW v.lapses, rfl, hy, C.cls, C.lapses, rfl, ?_⟩)
    refine se_fld (se_var (i := 1) rfl ⟨z, Cl, wdFs u, lpsW u.lapses, rfl, hz, C.cls, C.lapses, rfl, ?_⟩)
    exact eqD_w fv.lapses fu.lapses (by decide) (fin (by unfold eqWd; rw [e1, e2, e3, e4]; rfl))
  · have ow : OthW Cl mu w2 ∧ isOwn w2 = some false := by
      cases w2 with
      | bl b => exact hb.elim
      | m a => exact hb.elim
      | _ => exact ⟨trivial, rfl⟩
    refine ⟨ow.1, fun b hb2 => ?_⟩
    rw [ow.2] at hb2
    have hb2 := Option.some.inj hb2
    subst hb2
    exact h
end
end K1
set_option Elab.async false
set_option linter.all false
set_option maxRecDepth 100000
/-! _law_near. -/
namespace K1
open PySem L2 Dv
structure FiveKv (kvs : List (Key × W)) (v : Wd) : Prop where
  houses : valW kvs (.inr "houses") = some (nmW v.houses)
  slots : valW kvs (.inr "slots") = some (slsW v.slots)
  bears : valW kvs (.inr "bears") = some (ptsW v.bears)
  never : valW kvs (.inr "never") = some (ptsW v.never)
  lapses : valW kvs (.inr "lapses") = some (lpsW v.lapses)
theorem put_same {kvs : List (Key × W)} {k : Key} {w : W} : valW (putW kvs k w) k = some w := by rw [valW_put, if_pos rfl]
theorem put_ne {kvs : List (Key × W)} {k j : Key} {w : W} {u : Option W} (hne : ¬ k = j) (h : valW kvs j = u) : valW (putW kvs k w) j = u := by rw [valW_put, if_neg hne]; exact h
theorem FiveKv.putL {kvs : List (Key × W)} {v : Wd} {ls : List Lap} (h : FiveKv kvs v) : FiveKv (putW kvs (.inr "lapses") (lpsW ls)) { v with lapses := ls } :=
  ⟨put_ne (by decide +kernel) h.houses, put_ne (by decide +kernel) h.slots, put_ne (by decide +kernel) h.bears, put_ne (by decide +kernel) h.never, put_same⟩
theorem FiveKv.putN {kvs : List (Key × W)} {v : Wd} {ps : List Pat} (h : FiveKv kvs v) : FiveKv (putW kvs (.inr "never") (ptsW ps)) { v with never := ps } :=
  ⟨put_ne (by decide +kernel) h.houses, put_ne (by decide +kernel) h.slots, put_ne (by decide +kernel) h.bears, put_same, put_ne (by decide +kernel) h.lapses⟩
theorem FiveKv.putB {kvs : List (Key × W)} {v : Wd} {ps : List Pat} (h : FiveKv kvs v) : FiveKv (putW kvs (.inr "bears") (ptsW ps)) { v with bears := ps } :=
  ⟨put_ne (by decide +kernel) h.houses, put_ne (by decide +kernel) h.slots, put_same, put_ne (by decide +kernel) h.never, put_ne (by decide +kernel) h.lapses⟩
theorem FiveKv.putS {kvs : List (Key × W)} {v : Wd} {ss : List Slot} (h : FiveKv kvs v) : FiveKv (putW kvs (.inr "slots") (slsW ss)) { v with slots := ss } :=
  ⟨put_ne (by decide +kernel) h.houses, put_same, put_ne (by decide +kernel) h.bears, put_ne (by decide +kernel) h.never, put_ne (by decide +kernel) h.lapses⟩
theorem FiveKv.putH {kvs : List (Key × W)} {v : Wd} {hs : List Str} (h : FiveKv kvs v) : FiveKv (putW kvs (.inr "houses") (nmW hs)) { v with houses := hs } :=
  ⟨put_same, put_ne (by decide +kernel) h.slots, put_ne (by decide +kernel) h.bears, put_ne (by decide +kernel) h.never, put_ne (by decide +kernel) h.lapses⟩
/-- the law's words of a world with its names; its jar is apart -/
structure LoreN (mu : Mu) (p L : Addr) (v : Wd) : Prop where
  ex : ∃ kvs N ns nm, isDic mu L kvs ∧ kvs.length ≤ 10 ∧ FiveKv kvs v ∧ valW kvs (.inr "names") = some (.m N) ∧ mu N = some (.lst (stW ns)) ∧ N ≠ p ∧ (stW ns)[16]? = some (.str nm) ∧ NmOk nm
theorem LoreN.lore {mu : Mu} {p L : Addr} {v : Wd} (h : LoreN mu p L v) : Lore mu L v := by
  obtain ⟨kvs, N, ns, nm, h1, _, F, _⟩ := h.ex
  exact ⟨kvs, h1, F.houses, F.slots, F.bears, F.never, F.lapses⟩
theorem LoreN.ne {mu : Mu} {p L : Addr} {v : Wd} {c : Nat} (h : LoreN mu p L v) (j : JarOk mu p c) : L ≠ p := fun z => by
  obtain ⟨kvs, _, _, _, ⟨h1, _⟩, _⟩ := h.ex
  obtain ⟨_, _, _, g, _⟩ := j.ex
  rw [z, g] at h1
  cases h1
theorem LoreN.but {mu mu' : Mu} {p L : Addr} {v : Wd} {c : Nat} (h : LoreN mu p L v) (j : JarOk mu p c) (e : ExtBut p mu mu') : LoreN mu' p L v := by
  have hne := h.ne j
  obtain ⟨kvs, N, ns, nm, ⟨h1, h2⟩, h3, h4, h5, h6, h7, h8⟩ := h.ex
  exact ⟨kvs, N, ns, nm, ⟨e _ _ hne h1, h2⟩, h3, h4, h5, e _ _ h7 h6, h7, h8⟩
theorem sort_sts {ns : List Str} : plsW (stW ns) = true ∧ PySem.W.AllAlike (dats (stW ns)) ∧ PySem.W.Sortable (dats (stW ns)) ∧ ∀ u ∈ stW ns, (dat u).depth ≤ 64 := by
  have each : ∀ d ∈ dats (stW ns), ∃ x, d = .str x := fun d hd => by
    obtain ⟨u, hu, rfl⟩ := mem_dats.mp hd
    obtain ⟨x, _, rfl⟩ := List.mem_map.mp hu
    exact ⟨x, rfl⟩
  refine ⟨plains_map _ plain_str ns, fun d hd d' hd' => ?_, .inr fun d hd => ?_, fun u hu => ?_⟩
  · obtain ⟨x, rfl⟩ := each d hd
    obtain ⟨y, rfl⟩ := each d' hd'
    simp [PySem.W.alike]
  · obtain ⟨x, rfl⟩ := each d hd
    exact ⟨by simp, by simp⟩
  · obtain ⟨x, _, rfl⟩ := List.mem_map.mp hu
    simp [dat, PyData.depth]
section
variable {P : Program} {w : World} {K : PySem.W.Frag} {mg : Str → Option Value} {base : Heap}
abbrev s_Lnear : Stmt := top 46
theorem sc_Lnear : FnScope ["_law_jar_here", "_law_lore", "_law_found", "_law_way"] ["_law_jar_here", "_law_lore"] (defScope s_Lnear) := ⟨rfl, rfl, rfl, by decide +kernel, rfl, by decide +kernel, by decide +kernel⟩
def S_near : SpW := fun ws mu P => ∃ p L v c, ws = [.m p, .m L] ∧ LoreN mu p L v ∧ WdOk v ∧ JarOk mu p c ∧ c + 2 < 10000 ∧ ∀ D v' mu', Lore mu' D v' → WdOk v' → JarOk mu' p (c + 1) → ExtBut p mu mu' → P (.m D) mu'
theorem d_Lnear (D : Dfn K mg "_law_near" s_Lnear ["_law_jar_here", "_law_lore"]) (B : Bl mg) (D_take : DTake P w K mg base) : DefOk P w K mg base "_law_near" ["_law_jar_here", "_law_lore"] 3 S_near := by
  refine dfnOk D sc_Lnear (fun ws mu P ⟨p, L, v, c, e, _⟩ => by rw [e]; rfl) (fun f cdv A outer s H E hr ws mu Pt ⟨p, L, v, c, e, lore, ok, jar, c1, h⟩ => ?_)
  subst e
  have hu65 : (A.deeper (PyProof.Rows.envOfC "_law_near" (defScope s_Lnear) s.heap.objs.size f cdv)).units + 65 < cLine := by have := hr.un; omega
  have Lp := lore.ne jar
  obtain ⟨kvs, N, ns, nm, ⟨hL, nd⟩, kl, F, hn, hN, Np, hnm, nok⟩ := lore.ex
  refine sss_cons ?_
  refine ss_par (i := 2) (j := 3) ?_ rfl sc_Lnear.nd (by decide) (by rfl)
  refine se_dictC ?_ rfl B.dict
  refine se_listItems ?_ rfl B.list
  refine se_var (i := 1) rfl ?_
  refine ⟨L, kvs, rfl, hL, fun l nl => ?_⟩
  refine ⟨kvs, setM_same, nd, fun D nD => ?_⟩
  have hDmu : mu D = none := by
    by_cases z : D = l
    · subst z; exact nl
    · rw [setM_ne z] at nD; exact nD
  have old : ∀ {a : Addr} {cc : C}, mu a = some cc → a ≠ l ∧ a ≠ D := fun ha => ⟨fun z => (by rw [z, nl] at ha; cases ha), fun z => (by rw [z, hDmu] at ha; cases ha)⟩
  have exD : Ext mu (setM (setM mu l (.lst (prsW kvs))) D (.dic kvs)) := fun a cc ha => by rw [setM_ne (old ha).2, setM_ne (old ha).1]; exact ha
  have pD : p ≠ D := jar.ne hDmu
  refine se_callD D_take (hr.mono (by decide)) ?_
  refine sa_cons (se_var (i := 0) rfl (sa_cons (se_int (sa_nil ?_))))
  refine ⟨p, 6, c, rfl, by decide, by decide, jar.ext exD, by omega, fun r mu2 r0 r1 j2 e2 => ?_⟩
  have hD2 : mu2 D = some (.dic kvs) := e2 _ _ (Ne.symm pD) setM_same
  have hL2 : mu2 L = some (.dic kvs) := e2 _ _ Lp (exD _ _ hL)
  have hN2 : mu2 N = some (.lst (stW ns)) := e2 _ _ Np (exD _ _ hN)
  have ex2 : ExtBut p mu mu2 := fun a cc hne ha => e2 _ _ hne (exD _ _ ha)
  have new : ∀ {a : Addr} {cc : C}, a ≠ p → mu a = some cc → a ≠ D := fun _ ha => (old ha).2
  have fin_ : ∀ (k : Key) (w : W) (v' : Wd), FiveKv (putW kvs k w) v' → WdOk v' → Pt (.m D) (setM mu2 D (.dic (putW kvs k w))) := fun k w v' F2 ok2 =>
    h D v' _ ⟨_, ⟨setM_same, putW_nodup nd⟩, F2.houses, F2.slots, F2.bears, F2.never, F2.lapses⟩ ok2 (j2.set pD) fun a cc hne ha => by rw [setM_ne (new hne ha)]; exact ex2 _ _ hne ha
  have rr : r = 0 ∨ r = 1 ∨ r = 2 ∨ r = 3 ∨ r = 4 ∨ r = 5 := by omega
  rcases rr with rfl | rfl | rfl | rfl | rfl | rfl
  · -- 0
    refine sss_cons ?_
    refine ss_if ?_
    refine st_cmp (op_eqD hr.units) eq_w (nomark _) ?_
    refine se_var (i := 3) rfl ?_
    refine se_int ?_
    refine eq_ints ?_
    show SSs _ _ _ _ _
    refine sss_cons ?_
    refine ss_dput (hu_of hr) ?_
    refine se_rev ?_
    refine se_dget (hu_of hr) (se_var (i := 1) rfl (se_str ?_))
    refine ⟨L, kvs, .inr "lapses", _, rfl, hL2, rfl, F.lapses, ?_⟩
    show SE _ _ _ _ _
    have em : lpsW v.lapses.reverse = .tup (v.lapses.map lpW).reverse := by unfold lpsW; rw [List.map_reverse]
    rw [← em]
    refine se_var (i := 2) rfl (se_str ?_)
    refine ⟨D, kvs, .inr "lapses", rfl, ⟨hD2, nd⟩, rfl, Nat.lt_of_le_of_lt kl (by decide), ?_⟩
    refine sss_nil ?_
    refine sss_cons ?_
    refine ss_if ?_
    refine st_cmp (op_eqD hr.units) eq_w (nomark _) ?_
    refine se_var (i := 3) rfl ?_
    refine se_int ?_
    refine eq_ints ?_
    show SSs _ _ _ _ _
    refine sss_nil ?_
    refine sss_cons ?_
    refine ss_if ?_
    refine st_of_w ?_
    refine sw_and ?_
    refine st_cmp (op_eqD hr.units) eq_w (nomark _) ?_
    refine se_var (i := 3) rfl ?_
    refine se_int ?_
    refine eq_ints ?_
    show SSs _ _ _ _ _
    refine sss_nil ?_
    refine sss_cons ?_
    refine ss_if ?_
    refine st_cmp (op_eqD hr.units) eq_w (nomark _) ?_
    refine se_var (i := 3) rfl ?_
    refine se_int ?_
    refine eq_ints ?_
    show SSs _ _ _ _ _
    refine sss_nil ?_
    refine sss_cons ?_
    refine ss_if ?_
    refine st_of_w ?_
    refine sw_and ?_
    refine st_cmp (op_eqD hr.units) eq_w (nomark _) ?_
    refine se_var (i := 3) rfl ?_
    refine se_int ?_
    refine eq_ints ?_
    show SSs _ _ _ _ _
    refine sss_nil ?_
    refine sss_cons (ss_ret (se_var (i := 2) rfl ?_))
    exact fin_ _ _ _ (F.putL) (ok.laps)
  · -- 1
    refine sss_cons ?_
    refine ss_if ?_
    refine st_cmp (op_eqD hr.units) eq_w (nomark _) ?_
    refine se_var (i := 3) rfl ?_
    refine se_int ?_
    refine eq_ints ?_
    show SSs _ _ _ _ _
    refine sss_nil ?_
    refine sss_cons ?_
    refine ss_if ?_
    refine st_cmp (op_eqD hr.units) eq_w (nomark _) ?_
    refine se_var (i := 3) rfl ?_
    refine se_int ?_
    refine eq_ints ?_
    show SSs _ _ _ _ _
    refine sss_cons ?_
    refine ss_dput (hu_of hr) ?_
    refine se_slFrom ?_
    refine se_dget (hu_of hr) (se_var (i := 1) rfl (se_str ?_))
    refine ⟨L, kvs, .inr "never", _, rfl, hL2, rfl, F.never, ?_⟩
    refine se_int ?_
    show SE _ _ _ _ _
    rw [cut1]
    have em : ptsW v.never.tail = .tup (v.never.map ptW).tail := by unfold ptsW; rw [List.map_tail]
    rw [← em]
    refine se_var (i := 2) rfl (se_str ?_)
    refine ⟨D, kvs, .inr "never", rfl, ⟨hD2, nd⟩, rfl, Nat.lt_of_le_of_lt kl (by decide), ?_⟩
    refine sss_nil ?_
    refine sss_cons ?_
    refine ss_if ?_
    refine st_of_w ?_
    refine sw_and ?_
    refine st_cmp (op_eqD hr.units) eq_w (nomark _) ?_
    refine se_var (i := 3) rfl ?_
    refine se_int ?_
    refine eq_ints ?_
    show SSs _ _ _ _ _
    refine sss_nil ?_
    refine sss_cons ?_
    refine ss_if ?_
    refine st_cmp (op_eqD hr.units) eq_w (nomark _) ?_
    refine se_var (i := 3) rfl ?_
    refine se_int ?_
    refine eq_ints ?_
    show SSs _ _ _ _ _
    refine sss_nil ?_
    refine sss_cons ?_
    refine ss_if ?_
    refine st_of_w ?_
    refine sw_and ?_
    refine st_cmp (op_eqD hr.units) eq_w (nomark _) ?_
    refine se_var (i := 3) rfl ?_
    refine se_int ?_
    refine eq_ints ?_
    show SSs _ _ _ _ _
    refine sss_nil ?_
    refine sss_cons (ss_ret (se_var (i := 2) rfl ?_))
    exact fin_ _ _ _ (F.putN) (ok.nev)
  · -- 2
    refine sss_cons ?_
    refine ss_if ?_
    refine st_cmp (op_eqD hr.units) eq_w (nomark _) ?_
    refine se_var (i := 3) rfl ?_
    refine se_int ?_
    refine eq_ints ?_
    show SSs _ _ _ _ _
    refine sss_nil ?_
    refine sss_cons ?_
    refine ss_if ?_
    refine st_cmp (op_eqD hr.units) eq_w (nomark _) ?_
    refine se_var (i := 3) rfl ?_
    refine se_int ?_
    refine eq_ints ?_
    show SSs _ _ _ _ _
    refine sss_nil ?_
    refine sss_cons ?_
    refine ss_if ?_
    refine st_of_w ?_
    refine sw_and ?_
    refine st_cmp (op_eqD hr.units) eq_w (nomark _) ?_
    refine se_var (i := 3) rfl ?_
    refine se_int ?_
    refine eq_ints ?_
    show SW _ _ _ _ _
    refine sw_and1 ?_
    refine st_cmp op_gt cmpI_w (nomark _) ?_
    refine se_len ?_ B.len
    refine se_dget (hu_of hr) (se_var (i := 1) rfl (se_str ?_))
    refine ⟨L, kvs, .inr "bears", _, rfl, hL2, rfl, F.bears, ?_⟩
    show SE _ _ _ _ _
    refine se_int ?_
    rw [List.length_map]
    by_cases hb : (1 : Int) < (v.bears.length : Int)
    · show if2 (decide ((1 : Int) < (v.bears.length : Int))) _ _
      refine if2_t (decide_eq_true hb) ?_
      refine sss_cons ?_
      refine ss_dput (hu_of hr) ?_
      refine se_slFrom ?_
      refine se_dget (hu_of hr) (se_var (i := 1) rfl (se_str ?_))
      refine ⟨L, kvs, .inr "bears", _, rfl, hL2, rfl, F.bears, ?_⟩
      refine se_int ?_
      show SE _ _ _ _ _
      rw [cut1]
      have em : ptsW v.bears.tail = .tup (v.bears.map ptW).tail := by unfold ptsW; rw [List.map_tail]
      rw [← em]
      refine se_var (i := 2) rfl (se_str ?_)
      refine ⟨D, kvs, .inr "bears", rfl, ⟨hD2, nd⟩, rfl, Nat.lt_of_le_of_lt kl (by decide), ?_⟩
      refine sss_nil ?_
      refine sss_cons ?_
      refine ss_if ?_
      refine st_cmp (op_eqD hr.units) eq_w (nomark _) ?_
      refine se_var (i := 3) rfl ?_
      refine se_int ?_
      refine eq_ints ?_
      show SSs _ _ _ _ _
      refine sss_nil ?_
      refine sss_cons ?_
      refine ss_if ?_
      refine st_of_w ?_
      refine sw_and ?_
      refine st_cmp (op_eqD hr.units) eq_w (nomark _) ?_
      refine se_var (i := 3) rfl ?_
      refine se_int ?_
      refine eq_ints ?_
      show SSs _ _ _ _ _
      refine sss_nil ?_
      refine sss_cons (ss_ret (se_var (i := 2) rfl ?_))
      exact fin_ _ _ _ (F.putB) (ok.bea (by omega))
    · show if2 (decide ((1 : Int) < (v.bears.length : Int))) _ _
      refine if2_f (decide_eq_false hb) ?_
      refine sss_nil ?_
      refine sss_cons ?_
      refine ss_if ?_
      refine st_cmp (op_eqD hr.units) eq_w (nomark _) ?_
      refine se_var (i := 3) rfl ?_
      refine se_int ?_
      refine eq_ints ?_
      show SSs _ _ _ _ _
      refine sss_nil ?_
      refine sss_cons ?_
      refine ss_if ?_
      refine st_of_w ?_
      refine sw_and ?_
      refine st_cmp (op_eqD hr.units) eq_w (nomark _) ?_
      refine se_var (i := 3) rfl ?_
      refine se_int ?_
      refine eq_ints ?_
      show SSs _ _ _ _ _
      refine sss_nil ?_
      refine sss_cons (ss_ret (se_var (i := 2) rfl ?_))
      exact h D v mu2 ⟨kvs, ⟨hD2, nd⟩, F.houses, F.slots, F.bears, F.never, F.lapses⟩ ok j2 ex2
  · -- 3
    refine sss_cons ?_
    refine ss_if ?_
    refine st_cmp (op_eqD hr.units) eq_w (nomark _) ?_
    refine se_var (i := 3) rfl ?_
    refine se_int ?_
    refine eq_ints ?_
    show SSs _ _ _ _ _
    refine sss_nil ?_
    refine sss_cons ?_
    refine ss_if ?_
    refine st_cmp (op_eqD hr.units) eq_w (nomark _) ?_
    refine se_var (i := 3) rfl ?_
    refine se_int ?_
    refine eq_ints ?_
    show SSs _ _ _ _ _
    refine sss_nil ?_
    refine sss_cons ?_
    refine ss_if ?_
    refine st_of_w ?_
    refine sw_and ?_
    refine st_cmp (op_eqD hr.units) eq_w (nomark _) ?_
    refine se_var (i := 3) rfl ?_
    refine se_int ?_
    refine eq_ints ?_
    show SSs _ _ _ _ _
    refine sss_nil ?_
    refine sss_cons ?_
    refine ss_if ?_
    refine st_cmp (op_eqD hr.units) eq_w (nomark _) ?_
    refine se_var (i := 3) rfl ?_
    refine se_int ?_
    refine eq_ints ?_
    show SSs _ _ _ _ _
    refine sss_cons ?_
    refine ss_dput (hu_of hr) ?_
    refine se_rev ?_
    refine se_dget (hu_of hr) (se_var (i := 1) rfl (se_str ?_))
    refine ⟨L, kvs, .inr "slots", _, rfl, hL2, rfl, F.slots, ?_⟩
    show SE _ _ _ _ _
    have em : slsW v.slots.reverse = .tup (v.slots.map slW1).reverse := by unfold slsW; rw [List.map_reverse]
    rw [← em]
    refine se_var (i := 2) rfl (se_str ?_)
    refine ⟨D, kvs, .inr "slots", rfl, ⟨hD2, nd⟩, rfl, Nat.lt_of_le_of_lt kl (by decide), ?_⟩
    refine sss_nil ?_
    refine sss_cons ?_
    refine ss_if ?_
    refine st_of_w ?_
    refine sw_and ?_
    refine st_cmp (op_eqD hr.units) eq_w (nomark _) ?_
    refine se_var (i := 3) rfl ?_
    refine se_int ?_
    refine eq_ints ?_
    show SSs _ _ _ _ _
    refine sss_nil ?_
    refine sss_cons (ss_ret (se_var (i := 2) rfl ?_))
    exact fin_ _ _ _ (F.putS) (ok.turn)
  · -- 4
    refine sss_cons ?_
    refine ss_if ?_
    refine st_cmp (op_eqD hr.units) eq_w (nomark _) ?_
    refine se_var (i := 3) rfl ?_
    refine se_int ?_
    refine eq_ints ?_
    show SSs _ _ _ _ _
    refine sss_nil ?_
    refine sss_cons ?_
    refine ss_if ?_
    refine st_cmp (op_eqD hr.units) eq_w (nomark _) ?_
    refine se_var (i := 3) rfl ?_
    refine se_int ?_
    refine eq_ints ?_
    show SSs _ _ _ _ _
    refine sss_nil ?_
    refine sss_cons ?_
    refine ss_if ?_
    refine st_of_w ?_
    refine sw_and ?_
    refine st_cmp (op_eqD hr.units) eq_w (nomark _) ?_
    refine se_var (i := 3) rfl ?_
    refine se_int ?_
    refine eq_ints ?_
    show SSs _ _ _ _ _
    refine sss_nil ?_
    refine sss_cons ?_
    refine ss_if ?_
    refine st_cmp (op_eqD hr.units) eq_w (nomark _) ?_
    refine se_var (i := 3) rfl ?_
    refine se_int ?_
    refine eq_ints ?_
    show SSs _ _ _ _ _
    refine sss_nil ?_
    refine sss_cons ?_
    refine ss_if ?_
    refine st_of_w ?_
    refine sw_and ?_
    refine st_cmp (op_eqD hr.units) eq_w (nomark _) ?_
    refine se_var (i := 3) rfl ?_
    refine se_int ?_
    refine eq_ints ?_
    show SW _ _ _ _ _
    refine sw_and ?_
    refine st_cmp op_lt cmpI_w (nomark _) ?_
    refine se_len ?_ B.len
    refine se_dget (hu_of hr) (se_var (i := 1) rfl (se_str ?_))
    refine ⟨L, kvs, .inr "houses", _, rfl, hL2, rfl, F.houses, ?_⟩
    show SE _ _ _ _ _
    refine se_int ?_
    rw [stW_len]
    by_cases hb : (v.houses.length : Int) < 4
    · show if2 (decide ((v.houses.length : Int) < 4)) _ _
      refine if2_t (decide_eq_true hb) ?_
      refine sw_and1 ?_
      refine st_cmp (op_notInT hu65) (in_w true) (by rfl) ?_
      refine se_ix ?_
      refine se_dget (hu_of hr) (se_var (i := 1) rfl (se_str ?_))
      refine ⟨L, kvs, .inr "names", _, rfl, hL2, rfl, hn, ?_⟩
      refine se_int ?_
      refine ⟨_, .str nm, hN2, atI_nat' (i := 16) hnm, ?_⟩
      refine se_dget (hu_of hr) (se_var (i := 1) rfl (se_str ?_))
      refine ⟨L, kvs, .inr "houses", _, rfl, hL2, rfl, F.houses, ?_⟩
      refine in_names nok ok.hs.nm ?_
      by_cases hv : nm ∈ v.houses
      · show if2 (true != decide (nm ∈ v.houses)) _ _
        refine if2_f (by simp [hv]) ?_
        refine sss_nil ?_
        refine sss_cons (ss_ret (se_var (i := 2) rfl ?_))
        exact h D v mu2 ⟨kvs, ⟨hD2, nd⟩, F.houses, F.slots, F.bears, F.never, F.lapses⟩ ok j2 ex2
      · show if2 (true != decide (nm ∈ v.houses)) _ _
        refine if2_t (by simp [hv]) ?_
        refine sss_cons ?_
        refine ss_dput (hu_of hr) ?_
        refine se_tupleC ?_ B.tuple
        refine se_sortT hr ?_ B.sorted
        refine se_bin op_catA catT_w ?_
        refine se_dget (hu_of hr) (se_var (i := 1) rfl (se_str ?_))
        refine ⟨L, kvs, .inr "houses", _, rfl, hL2, rfl, F.houses, ?_⟩
        refine se_tup ?_
        refine sa_cons ?_
        refine se_ix ?_
        refine se_dget (hu_of hr) (se_var (i := 1) rfl (se_str ?_))
        refine ⟨L, kvs, .inr "names", _, rfl, hL2, rfl, hn, ?_⟩
        refine se_int ?_
        refine ⟨_, .str nm, hN2, atI_nat' (i := 16) hnm, ?_⟩
        refine sa_nil ?_
        refine ⟨by show 1 ≤ sizeLine; decide, ?_⟩
        refine ⟨by rw [stW_len]; exact Nat.le_trans (Nat.add_le_add_right ok.hs.hi 1) (by decide), ?_⟩
        have em : stW v.houses ++ [W.str nm] = stW (v.houses ++ [nm]) := by unfold stW; rw [List.map_append]; rfl
        rw [em]
        obtain ⟨s1, s2, s3, s4⟩ := sort_sts (ns := v.houses ++ [nm])
        refine ⟨_, rfl, s1, s2, s3, s4, fun q nq => ?_⟩
        refine ⟨_, setM_same, ?_⟩
        rw [asTx_sort]
        have qD : D ≠ q := fun z => by rw [← z, hD2] at nq; cases nq
        refine se_var (i := 2) rfl (se_str ?_)
        refine ⟨D, kvs, .inr "houses", rfl, ⟨by rw [setM_ne qD]; exact hD2, nd⟩, rfl, Nat.lt_of_le_of_lt kl (by decide), ?_⟩
        refine sss_nil ?_
        refine sss_cons (ss_ret (se_var (i := 2) rfl ?_))
        have F2 := F.putH (hs := asTx (v.houses ++ [nm]))
        exact h D _ _ ⟨_, ⟨setM_same, putW_nodup nd⟩, F2.houses, F2.slots, F2.bears, F2.never, F2.lapses⟩ (ok.house nok hv (by omega)) ((j2.set (j2.ne nq)).set pD) (fun a c ha hc => by rw [setM_ne (new ha hc), setM_ne (fun z => by subst z; have := ex2 _ _ ha hc; rw [nq] at this; cases this)]; exact ex2 _ _ ha hc)
    · show if2 (decide ((v.houses.length : Int) < 4)) _ _
      refine if2_f (decide_eq_false hb) ?_
      refine sss_nil ?_
      refine sss_cons (ss_ret (se_var (i := 2) rfl ?_))
      exact h D v mu2 ⟨kvs, ⟨hD2, nd⟩, F.houses, F.slots, F.bears, F.never, F.lapses⟩ ok j2 ex2
  · -- 5
    refine sss_cons ?_
    refine ss_if ?_
    refine st_cmp (op_eqD hr.units) eq_w (nomark _) ?_
    refine se_var (i := 3) rfl ?_
    refine se_int ?_
    refine eq_ints ?_
    show SSs _ _ _ _ _
    refine sss_nil ?_
    refine sss_cons ?_
    refine ss_if ?_
    refine st_cmp (op_eqD hr.units) eq_w (nomark _) ?_
    refine se_var (i := 3) rfl ?_
    refine se_int ?_
    refine eq_ints ?_
    show SSs _ _ _ _ _
    refine sss_nil ?_
    refine sss_cons ?_
    refine ss_if ?_
    refine st_of_w ?_
    refine sw_and ?_
    refine st_cmp (op_eqD hr.units) eq_w (nomark _) ?_
    refine se_var (i := 3) rfl ?_
    refine se_int ?_
    refine eq_ints ?_
    show SSs _ _ _ _ _
    refine sss_nil ?_
    refine sss_cons ?_
    refine ss_if ?_
    refine st_cmp (op_eqD hr.units) eq_w (nomark _) ?_
    refine se_var (i := 3) rfl ?_
    refine se_int ?_
    refine eq_ints ?_
    show SSs _ _ _ _ _
    refine sss_nil ?_
    refine sss_cons ?_
    refine ss_if ?_
    refine st_of_w ?_
    refine sw_and ?_
    refine st_cmp (op_eqD hr.units) eq_w (nomark _) ?_
    refine se_var (i := 3) rfl ?_
    refine se_int ?_
    refine eq_ints ?_
    show SSs _ _ _ _ _
    refine sss_nil ?_
    refine sss_cons (ss_ret (se_var (i := 2) rfl ?_))
    exact h D v mu2 ⟨kvs, ⟨hD2, nd⟩, F.houses, F.slots, F.bears, F.never, F.lapses⟩ ok j2 ex2
end
end K1
set_option Elab.async false
set_option linter.all false
set_option maxRecDepth 100000
/-! _law_right and law. -/
namespace K1
open PySem L2 Dv
theorem szs_le {k : Nat} : ∀ {ws : List W}, (∀ w ∈ ws, sz w ≤ k) → szs ws ≤ ws.length * k := fun {ws} h => by
  have := szs_map (fun w : W => w) k (xs := ws) h
  rwa [List.map_id'] at this
theorem sz_nm (ns : List Str) : sz (nmW ns) ≤ ns.length + 1 := by
  show szs (stW ns) + 1 ≤ _
  have := szs_le (k := 1) (ws := stW ns) fun w hw => by
    obtain ⟨n, _, rfl⟩ := List.mem_map.mp hw
    exact Nat.le_refl _
  rw [stW_len] at this
  omega
theorem sz_pt {p : Pat} (h : p.length ≤ 6) : sz (ptW p) ≤ 19 := by
  show szs (p.map prW) + 1 ≤ _
  have := szs_map prW 3 (xs := p) fun q _ => by show szs [W.str q.1, W.str q.2] + 1 ≤ 3; simp [szs, sz]
  omega
theorem sz_five {v : Wd} (ok : WdOk v) : sz (.tup (fiveW v)) ≤ 2000 := by
  have h1 := sz_nm v.houses
  have h2 := ok.hs.hi
  have s1 := szs_map slW1 8 (xs := v.slots) fun s hs => by
    have a := sz_nm s.2.2
    have b := (ok.ss.each s hs).hi
    show szs [W.str s.1, W.str s.2.1, nmW s.2.2] + 1 ≤ 8
    simp only [szs, sz]
    omega
  have s2 := ok.ss.hi
  have b1 := szs_map ptW 19 (xs := v.bears) fun p hp => sz_pt (ok.bears.each p hp).1.len
  have b2 := ok.bears.len
  have n1 := szs_map ptW 19 (xs := v.never) fun p hp => sz_pt (ok.never.each p hp).1.len
  have n2 := ok.never.len
  have l1 := szs_map lpW 40 (xs := v.lapses) fun l hl => by
    have a := sz_pt (ok.each l hl).needs.len
    have b := sz_pt (ok.each l hl).makes.len
    show szs [W.str l.1, ptW l.2.1, ptW l.2.2] + 1 ≤ 40
    simp only [szs, sz]
    omega
  have l2 := ok.len
  show szs [nmW v.houses, .tup (v.slots.map slW1), .tup (v.bears.map ptW), .tup (v.never.map ptW), .tup (v.lapses.map lpW)] + 1 ≤ 2000
  simp only [szs, sz]
  omega
theorem nm3_stands {ss : List Slot} (h : ∀ s ∈ ss, ∀ x ∈ s.2.2, NmOk x) : Nm3 2 (.tup (standsW ss)) := fun w hw => by
  obtain ⟨st, hst, rfl⟩ := standsW_mem.mp hw
  exact nm3_nm (raw_ok (hs := []) h st hst).nm
theorem standsW_len (ss : List Slot) : (standsW ss).length = manyS ss := by
  unfold standsW raw
  rw [List.length_mergeSort, List.length_map, raw_len]
  simp
theorem sz_stands {ss : List Slot} (h1 : manyS ss ≤ 32) (h2 : ss.length ≤ 6) : sz (.tup (standsW ss)) ≤ 300 := by
  show szs (standsW ss) + 1 ≤ _
  have := szs_le (k := 7) (ws := standsW ss) fun w hw => by
    obtain ⟨st, hst, rfl⟩ := standsW_mem.mp hw
    have a := sz_nm st
    have b := raw_each ss [[]] 0 (by simp) st hst
    omega
  rw [standsW_len] at this
  omega
mutual
theorem eqv_comm : ∀ (n : Nat) (w u : W), Nm3 n w → Nm3 n u → PyData.eqv (dat w) (dat u) = PyData.eqv (dat u) (dat w)
  | _, .str x, .str y, _, _ => by
    simp only [dat, eqv_str]
    by_cases h : x = y
    · simp [h]
    · have : ¬ y = x := fun z => h z.symm
      simp [h, this]
  | 0, .tup _, _, h, _ => h.elim
  | 0, .str _, .tup _, _, h => h.elim
  | _ + 1, .str _, .tup _, _, _ => by simp [dat, PyData.eqv]
  | _ + 1, .tup _, .str _, _, _ => by simp [dat, PyData.eqv]
  | n + 1, .tup ws, .tup us, h, g => by
    simp only [dat, PyData.eqv]
    exact eqvAll_comm n ws us h g
  | 0, .non, _, h, _ => h.elim
  | 0, .bl _, _, h, _ => h.elim
  | 0, .int _, _, h, _ => h.elim
  | 0, .m _, _, h, _ => h.elim
  | _ + 1, .non, _, h, _ => h.elim
  | _ + 1, .bl _, _, h, _ => h.elim
  | _ + 1, .int _, _, h, _ => h.elim
  | _ + 1, .m _, _, h, _ => h.elim
  | 0, .str _, .non, _, h => h.elim
  | 0, .str _, .bl _, _, h => h.elim
  | 0, .str _, .int _, _, h => h.elim
  | 0, .str _, .m _, _, h => h.elim
  | _ + 1, .str _, .non, _, h => h.elim
  | _ + 1, .str _, .bl _, _, h => h.elim
  | _ + 1, .str _, .int _, _, h => h.elim
  | _ + 1, .str _, .m _, _, h => h.elim
  | _ + 1, .tup _, .non, _, h => h.elim
  | _ + 1, .tup _, .bl _, _, h => h.elim
  | _ + 1, .tup _, .int _, _, h => h.elim
  | _ + 1, .tup _, .m _, _, h => h.elim
theorem eqvAll_comm : ∀ (n : Nat) (ws us : List W), (∀ w ∈ ws, Nm3 n w) → (∀ u ∈ us, Nm3 n u) → PyData.eqvAll (dats ws) (dats us) = PyData.eqvAll (dats us) (dats ws)
  | _, [], [], _, _ => rfl
  | _, [], u :: us, _, _ => by simp [dats, PyData.eqvAll]
  | _, w :: ws, [], _, _ => by simp [dats, PyData.eqvAll]
  | n, w :: ws, u :: us, h, g => by
    have a := eqv_comm n w u (h w (by simp)) (g u (by simp))
    have b := eqvAll_comm n ws us (fun x hx => h x (by simp [hx])) (fun x hx => g x (by simp [hx]))
    simp only [dats, PyData.eqvAll, a, b]
end
theorem eqWd_comm {v u : Wd} (h : Five v) (g : Five u) : eqWd v u = eqWd u v := by
  rw [← eqWd_five, ← eqWd_five]
  exact eqv_comm 5 _ _ h.all g.all
def blsD (bs : List Bool) : PyData := .list (bs.map PyData.bool)
theorem dats_bls : ∀ bs : List Bool, dats (bs.map W.bl) = bs.map PyData.bool
  | [] => rfl
  | b :: bs => by simp [dats, dat, dats_bls bs]
theorem bls_ok : ∀ bs : List Bool, bs.length ≤ 3 → (blsD bs).showable = true ∧ (blsD bs).hasDict = false ∧ (blsD bs).depth ≤ 60 ∧ (blsD bs).shown.length ≤ sizeLine
  | [], _ => by decide +kernel
  | [a], _ => by cases a <;> decide +kernel
  | [a, b], _ => by cases a <;> cases b <;> decide +kernel
  | [a, b, c], _ => by cases a <;> cases b <;> cases c <;> decide +kernel
  | _ :: _ :: _ :: _ :: _, h => by simp at h
theorem repr_bls {mu : Mu} {a : Addr} {bs : List Bool} {P : PW1} (h : mu a = some (.lst (bs.map W.bl))) (hl : bs.length ≤ 3) (k : P (.str (blsD bs).shown) mu) : reprW [.m a] mu P := by
  have pl : plsW (bs.map W.bl) = true := plains_map _ (fun b => by simp [plW]) bs
  have e : asD mu (.m a) = some (blsD bs) := by
    unfold asD blsD
    simp only [h, pl, if_true, dats_bls]
  obtain ⟨h1, h2, h3, h4⟩ := bls_ok bs hl
  exact ⟨.m a, blsD bs, rfl, trivial, e, h1, h2, h3, h4, k⟩
theorem if2_no {b : Bool} {A B : Prop} (h : b = false) (k : B) : if2 b A B := by subst h; exact k
end K1
set_option Elab.async false
set_option linter.all false
set_option maxRecDepth 100000
/-! _law_right. -/
namespace K1
open PySem L2 Dv
section
variable {P : Program} {w : World} {K : PySem.W.Frag} {mg : Str → Option Value} {base : Heap} {Cl : Addr}
abbrev s_Lright : Stmt := top 47
theorem sc_Lright : FnScope ["_law_jar_here", "_law_lore", "_law_five_here", "_law_world", "_law_stand", "_law_due", "_law_twin", "_law_odd", "_law_thing", "_law_turn", "_law_near_here", "_law_other", "_law_alike"] ["_law_jar_here"] (defScope s_Lright) := ⟨rfl, rfl, rfl, by decide +kernel, rfl, by decide +kernel, by decide +kernel⟩
def S_parts : SpW := fun ws mu P => ∃ p c, ws = [.m p] ∧ JarOk mu p c ∧ c + 500 < 10000 ∧ ∀ L v mu', LoreN mu' p L v → WdOk v → JarOk mu' p (c + 450) → ExtBut p mu mu' → P (.m L) mu'
def S_right : SpW := fun ws mu P => ∃ p c, ws = [.m p] ∧ JarOk mu p c ∧ c + 600 < 10000 ∧ ∀ mu', JarOk mu' p (c + 500) → ExtBut p mu mu' → P (.bl true) mu'
/-- what an instance of the class promises of == -/
structure EqCls (P : Program) (w : World) (K : PySem.W.Frag) (mg : Str → Option Value) (base : Heap) (Cl : Addr) : Prop where
  eq : MetOk P w K mg base Cl "__eq__" ["self", "other"] 1 (S_eq Cl)
  sub : NoSub K Cl
  obj : PySem.W.mroIn K Cl (.type "object") = some true
  ne : PySem.W.findIn K (.ref Cl) "__ne__" = some (some (.builtin "object.__ne__"))
set_option maxHeartbeats 2000000 in
theorem d_Lright (D : Dfn K mg "_law_right" s_Lright ["_law_jar_here"]) (B : Bl mg) (C : WCls K mg Cl) (Q : EqCls P w K mg base Cl)
    (D_parts : DefOk P w K mg base "_law_parts" ["_law_jar_here"] 5 S_parts) (D_five : DefOk P w K mg base "_law_five" ["_law_lore"] 1 S_five) (D_made : DefOk P w K mg base "_law_made" ["_law_lore"] 9 (S_made Cl))
    (D_first : DefOk P w K mg base "_law_first" ["_law_lore"] 1 S_Lfirst) (D_stands : DefOk P w K mg base "_law_stands" ["_law_lore"] 1 S_Lstands) (D_has : DefOk P w K mg base "_law_has_row" ["_law_lore", "_law_stand"] 2 S_Lhas_row)
    (D_broken : DefOk P w K mg base "_law_broken" ["_law_lore", "_law_stand"] 2 S_Lbroken) (M_has : MetOk P w K mg base Cl "has_row" ["self", "stand"] 3 (S_has_row Cl)) (M_broken : MetOk P w K mg base Cl "is_broken" ["self", "stand"] 3 (S_is_broken Cl))
    (D_near : DefOk P w K mg base "_law_near" ["_law_jar_here", "_law_lore"] 3 S_near) : DefG P w K mg base "_law_right" ["_law_jar_here"] 11 S_right := by
  refine dfnG D sc_Lright (fun ws mu P ⟨p, c, e, _⟩ => by rw [e]; rfl) (fun f cdv A outer s H E hr hgd ws mu Pt ⟨p, c, e, jar, c1, h⟩ => ?_)
  subst e
  -- lore
  refine sss_cons (ss_asg (se_callD D_parts (hr.mono (by decide)) (sa_cons (se_var (i := 0) rfl (sa_nil ?_)))))
  refine ⟨p, c, rfl, jar, by omega, fun L v mu1 lore1 ok j1 e1 => ?_⟩
  refine sg_name (i := 1) ?_ sc_Lright.nd
  have fv := ok.five
  -- five, world
  refine sss_cons (ss_asg (se_tup (sa_cons (se_callD D_five (hr.mono (by decide)) (sa_cons (se_var (i := 1) rfl (sa_nil ?_)))))))
  refine ⟨L, v, rfl, lore1.lore, ?_⟩
  refine sa_cons (se_callD D_made (hr.mono (by decide)) (sa_cons (se_var (i := 1) rfl (sa_nil ?_))))
  refine ⟨L, v, rfl, lore1.lore, ok, fun y mu2 ny e2 hy => ?_⟩
  refine sa_nil ⟨by show 2 ≤ sizeLine; decide, ?_⟩
  refine sg_tup (sgs_cons (sg_name (i := 2) (sgs_cons (sg_name (i := 3) (sgs_nil ?_) sc_Lright.nd)) sc_Lright.nd))
  have lore2 := lore1.but j1 (Ext.but e2)
  have j2 := j1.ext e2
  -- the five properties
  refine sss_cons (ss_if (st_cmp op_ne neS_w (nomark _) ?_))
  refine se_repr hr hgd ?_ B.repr
  refine se_tup ?_
  refine sa_cons (se_fld (se_var (i := 3) rfl ⟨y, Cl, wdFs v, nmW v.houses, rfl, hy, C.cls, C.houses, rfl, ?_⟩))
  refine sa_cons (se_fld (se_var (i := 3) rfl ⟨y, Cl, wdFs v, slsW v.slots, rfl, hy, C.cls, C.slots, rfl, ?_⟩))
  refine sa_cons (se_fld (se_var (i := 3) rfl ⟨y, Cl, wdFs v, ptsW v.bears, rfl, hy, C.cls, C.bears, rfl, ?_⟩))
  refine sa_cons (se_fld (se_var (i := 3) rfl ⟨y, Cl, wdFs v, ptsW v.never, rfl, hy, C.cls, C.never, rfl, ?_⟩))
  refine sa_cons (se_fld (se_var (i := 3) rfl ⟨y, Cl, wdFs v, lpsW v.lapses, rfl, hy, C.cls, C.lapses, rfl, ?_⟩))
  refine sa_nil ⟨by show 5 ≤ sizeLine; decide, ?_⟩
  have s5 := shows_of 5 _ fv.all
  have z5 : sz (.tup (fiveW v)) ≤ 100000 := Nat.le_trans (sz_five ok) (by decide)
  refine s5.repr trivial (by decide) z5 ?_
  refine se_repr hr hgd ?_ B.repr
  refine se_var (i := 2) rfl ?_
  refine s5.repr trivial (by decide) z5 ?_
  refine ⟨_, _, rfl, rfl, fun b hb => ?_⟩
  rw [hb.trans (ne_self _)]
  refine sss_nil ?_
  -- first, stands
  have nm := ok.ss.nm ok.hs
  have wm : ∀ t ∈ v.slots, ∀ x ∈ t.2.2, NmOk x := fun t ht => (ok.ss.each t ht).wm
  have ne : ∀ t ∈ v.slots, 1 ≤ t.2.2.length := fun t ht => Nat.le_trans (by decide) (ok.ss.each t ht).lo
  have some_ : v.slots ≠ [] := fun z => by have := ok.ss.lo; rw [z] at this; simp at this
  have ten : v.slots.length ≤ 10 := Nat.le_trans ok.ss.hi (by decide)
  have nonil : ∀ t ∈ v.slots, t.2.2 ≠ [] := fun t ht z => by have := ne t ht; rw [z] at this; simp at this
  refine sss_cons (ss_if (st_cmp op_ne neS_w (nomark _) ?_))
  refine se_repr hr hgd ?_ B.repr
  refine se_tup ?_
  refine sa_cons (se_fld (se_var (i := 3) rfl ⟨y, Cl, wdFs v, nmW (firstS v.slots), rfl, hy, C.cls, C.first, rfl, ?_⟩))
  refine sa_cons (se_fld (se_var (i := 3) rfl ⟨y, Cl, wdFs v, .tup (standsW v.slots), rfl, hy, C.cls, C.stands, rfl, ?_⟩))
  refine sa_nil ⟨by show 2 ≤ sizeLine; decide, ?_⟩
  have n2 : Nm3 3 (.tup [nmW (firstS v.slots), .tup (standsW v.slots)]) := fun u hu => by
    simp only [List.mem_cons, List.not_mem_nil, or_false] at hu
    rcases hu with rfl | rfl
    · exact (nm3_nm (first_ok ok.ss).nm).up
    · exact nm3_stands wm
  have s2 := shows_of 3 _ n2
  have z2 : sz (.tup [nmW (firstS v.slots), .tup (standsW v.slots)]) ≤ 100000 := by
    have a := sz_nm (firstS v.slots)
    have b := sz_stands ok.ss.many ok.ss.hi
    have c := ok.ss.hi
    have d : (firstS v.slots).length = v.slots.length := by unfold firstS; rw [List.length_map]
    show szs [nmW (firstS v.slots), .tup (standsW v.slots)] + 1 ≤ _
    simp only [szs] at *
    omega
  refine s2.repr trivial (by decide) z2 ?_
  refine se_repr hr hgd ?_ B.repr
  refine se_tup ?_
  refine sa_cons (se_callD D_first (hr.mono (by decide)) (sa_cons (se_var (i := 1) rfl (sa_nil ?_))))
  refine ⟨L, v, rfl, lore2.lore, ten, nonil, fun mu3 e3 => ?_⟩
  refine sa_cons (se_callD D_stands (hr.mono (by decide)) (sa_cons (se_var (i := 1) rfl (sa_nil ?_))))
  refine ⟨L, v, rfl, lore2.lore.ext e3, some_, ten, ne, ok.ss.many, fun mu4 e4 => ?_⟩
  refine sa_nil ⟨by show 2 ≤ sizeLine; decide, ?_⟩
  refine s2.repr trivial (by decide) z2 ?_
  refine ⟨_, _, rfl, rfl, fun b hb => ?_⟩
  rw [hb.trans (ne_self _)]
  refine sss_nil ?_
  have E4 : Ext mu2 mu4 := e3.trans e4
  -- each stand
  refine sss_cons ?_
  refine ss_for PassesOwn.never rfl (by intro _; rfl) ?_
  refine si_tup ?_
  refine se_callD D_stands (hr.mono (by decide)) (sa_cons (se_var (i := 1) rfl (sa_nil ?_)))
  refine ⟨L, v, rfl, lore2.lore.ext E4, some_, ten, ne, ok.ss.many, fun mu5 e5 => ?_⟩
  have E5 : Ext mu2 mu5 := E4.trans e5
  refine ⟨fun i G' mu' => ∃ x z, G' = [some (.m p), some (.m L), some (.tup (fiveW v)), some (.m y), x, z, none, none, none, none, none, none, none] ∧ Ext mu5 mu', ⟨none, none, rfl, Ext.refl⟩, fun _ _ _ _ _ => trivial, fun i u G' mu' hu ⟨x, z, eG, ex⟩ => ?_, fun G' mu' ⟨x, z, eG, ex⟩ => ?_⟩
  · subst eG
    obtain ⟨st, hst, rfl⟩ := standsW_mem.mp (List.mem_of_getElem? hu)
    have so := raw_ok (hs := v.houses) wm st hst
    have E' : Ext mu2 mu' := E5.trans ex
    refine sg_name (i := 4) ?_ sc_Lright.nd
    refine sss_cons (ss_asg (se_lst ?_))
    refine sa_cons (se_callD D_has (hr.mono (by decide)) (sa_cons (se_var (i := 1) rfl (sa_cons (se_var (i := 4) rfl (sa_nil ?_))))))
    refine ⟨L, v, st, rfl, lore2.lore.ext E', nm, ok.ss.nd, so, fun q hq => ⟨(ok.bears.each q hq).1.pr, Nat.le_trans (ok.bears.each q hq).1.len (by decide)⟩, ok.bears.len, fun mu6 e6 => ?_⟩
    refine sa_cons (se_callD D_broken (hr.mono (by decide)) (sa_cons (se_var (i := 1) rfl (sa_cons (se_var (i := 4) rfl (sa_nil ?_))))))
    refine ⟨L, v, st, rfl, lore2.lore.ext (E'.trans e6), nm, ok.ss.nd, so, fun q hq => ⟨(ok.never.each q hq).1.pr, Nat.le_trans (ok.never.each q hq).1.len (by decide)⟩, ok.never.len, fun mu7 e7 => ?_⟩
    refine sa_nil ⟨by show 2 ≤ sizeLine; decide, fun d1 nd1 => ?_⟩
    refine sg_name (i := 5) ?_ sc_Lright.nd
    have E7 : Ext mu2 (setM mu7 d1 (.lst [.bl (oneHolds v.slots st v.bears), .bl (oneHolds v.slots st v.never)])) := ((E'.trans e6).trans e7).set ((((E'.trans e6).trans e7)).none nd1)
    refine sss_cons (ss_if (st_cmp op_ne neS_w (nomark _) ?_))
    refine se_repr hr hgd ?_ B.repr
    refine se_lst ?_
    refine sa_cons (se_meth M_has C.cls (hr.mono (by decide)) (se_var (i := 3) rfl ⟨y, wdFs v, rfl, E7 _ _ hy, rfl, sa_cons (se_var (i := 4) rfl (sa_nil ?_))⟩))
    refine ⟨y, v, st, rfl, E7 _ _ hy, ok, hst, fun mu8 e8 => ?_⟩
    refine sa_cons (se_meth M_broken C.cls (hr.mono (by decide)) (se_var (i := 3) rfl ⟨y, wdFs v, rfl, e8 _ _ (E7 _ _ hy), rfl, sa_cons (se_var (i := 4) rfl (sa_nil ?_))⟩))
    refine ⟨y, v, st, rfl, e8 _ _ (E7 _ _ hy), ok, hst, fun mu9 e9 => ?_⟩
    refine sa_nil ⟨by show 2 ≤ sizeLine; decide, fun d2 nd2 => ?_⟩
    have e89 := e8.trans e9
    have hd1 : mu9 d1 = some (.lst ([oneHolds v.slots st v.bears, oneHolds v.slots st v.never].map W.bl)) := e89 _ _ setM_same
    refine repr_bls (bs := [oneHolds v.slots st v.bears, oneHolds v.slots st v.never]) setM_same (by simp) ?_
    refine se_repr hr hgd ?_ B.repr
    refine se_var (i := 5) rfl ?_
    refine repr_bls (bs := [oneHolds v.slots st v.bears, oneHolds v.slots st v.never]) (by rw [setM_ne (fun z => by rw [← z, hd1] at nd2; cases nd2)]; exact hd1) (by simp) ?_
    refine ⟨_, _, rfl, rfl, fun b hb => ?_⟩
    rw [hb.trans (ne_self _)]
    refine sss_nil ?_
    refine sss_nil ?_
    refine ⟨_, _, rfl, ?_⟩
    have Eb := ex.trans (e6.trans e7)
    have E9 : Ext mu5 mu9 := Dv.Ext.trans (K1.Ext.own Eb (Dv.Ext.none Eb nd1)) e89
    exact K1.Ext.own E9 (Dv.Ext.none E9 nd2)
  subst eG
  have E6 : Ext mu2 mu' := E5.trans ex
  have hy6 := E6 _ _ hy
  -- twin, odd
  refine sss_cons ?_
  refine ss_par (i := 6) (j := 7) ?_ rfl sc_Lright.nd (by decide) (by rfl)
  refine se_callD D_made (hr.mono (by decide)) (sa_cons (se_var (i := 1) rfl (sa_nil ?_)))
  refine ⟨L, v, rfl, lore2.lore.ext E6, ok, fun t mu7 nt e7 ht => ?_⟩
  refine se_tup ?_
  refine sa_cons (se_var (i := 2) rfl (sa_cons (se_non (sa_cons (se_int (sa_cons (se_str (sa_cons (se_tup (sa_nil ?_))))))))))
  refine ⟨by show 0 ≤ sizeLine; decide, sa_nil ⟨by show 5 ≤ sizeLine; decide, ?_⟩⟩
  have hy7 := e7 _ _ hy6
  -- == of the twin, of odd things
  refine sss_cons ?_
  refine ss_if ?_
  refine st_of_w ?_
  refine sw_or ?_
  refine st_not ?_
  refine st_cmp (op_eqOwn Q.eq (hr.mono (by decide))) eqOwn_w (nomark _) ?_
  refine se_var (i := 3) rfl ?_
  refine se_var (i := 6) rfl ?_
  refine ⟨⟨y, _, rfl, hy7⟩, ⟨_, ht⟩, y, v, .m t, rfl, hy7, fv, .inl ⟨t, v, rfl, ht, fv, eqWd v v, rfl, ?_⟩⟩
  rw [eqWd_refl fv]
  refine sw_or ?_
  refine st_cmp (op_neOwn Q.eq (hr.mono (by decide)) Q.obj Q.ne) neOwn_w (nomark _) ?_
  refine se_var (i := 3) rfl ?_
  refine se_var (i := 6) rfl ?_
  refine ⟨⟨y, _, rfl, hy7⟩, ⟨_, ht⟩, y, v, .m t, rfl, hy7, fv, .inl ⟨t, v, rfl, ht, fv, eqWd v v, rfl, ?_⟩⟩
  rw [eqWd_refl fv]
  refine sw_or1 ?_
  refine st_val ?_
  refine se_any ?_ B.any
  refine se_lc (own := [("_law_thing", 8)]) (.nm 8) rfl sc_Lright.nd (blkOk_by (N := ["_law_jar_here", "_law_lore", "_law_five_here", "_law_world", "_law_stand", "_law_due", "_law_twin", "_law_odd", "_law_thing", "_law_turn", "_law_near_here", "_law_other", "_law_alike"]) (sc := defScope s_Lright) (by decide +kernel)) rfl (fun _ _ _ _ _ => (pg_name (i := 8) sc_Lright.nd rfl (Or.inl rfl))) (by intro _; rfl) ?_
  refine si_tup ?_
  refine se_var (i := 7) rfl ?_
  refine lc_any_g (fun _ => false) (fun _ _ => trivial) (by show 5 ≤ sizeLine; decide) InBlk.mono ?_ ?_
  · intro u mu8 hu e8
    have bu : BltW u := by
      simp only [List.mem_cons, List.not_mem_nil, or_false] at hu
      rcases hu with rfl | rfl | rfl | rfl | rfl <;> trivial
    have ou : OthW Cl mu8 u := by
      cases u with
      | bl b => exact bu.elim
      | m a => exact bu.elim
      | _ => trivial
    have hy8 := e8 _ _ hy7
    refine ⟨_, rfl, fun s H C cl fp => ?_⟩
    refine se_or ?_
    refine se_cmp (op_eqOwn Q.eq (hr.mono (by decide))) eqOwn_w (nomark _) ?_
    refine se_var (i := 3) rfl ?_
    refine se_var (i := 8) rfl ?_
    refine ⟨⟨y, _, rfl, hy8⟩, ou, y, v, u, rfl, hy8, fv, .inr ⟨bu, false, rfl, ?_⟩⟩
    show SE _ _ _ _ _
    refine se_one ?_
    refine se_cmp (op_eqRef Q.eq Q.sub (hr.mono (by decide))) eqRef_w (nomark _) ?_
    refine se_var (i := 8) rfl ?_
    refine se_var (i := 3) rfl ?_
    exact ⟨⟨y, _, rfl, hy8⟩, bu, y, v, u, rfl, hy8, fv, .inr ⟨bu, false, rfl, rfl, Ext.refl⟩⟩
  intro mu8 e8
  have em : ([W.tup (fiveW v), W.non, W.int 0, W.str "", W.tup []].any fun _ => false) = false := rfl
  rw [em]
  refine sss_nil ?_
  have E8 : Ext mu2 mu8 := E6.trans (e7.trans e8)
  -- near worlds
  refine sss_cons ?_
  refine ss_for PassesOwn.never rfl (by intro _; rfl) ?_
  refine si_range ?_ B.range
  refine se_int ?_
  refine ⟨by decide, by decide, ?_⟩
  refine ⟨fun i G' mu' => ∃ x5 x6 x9 xa xb xc, G' = [some (.m p), some (.m L), some (.tup (fiveW v)), some (.m y), x5, x6, some (.m t), some (.tup [.tup (fiveW v), .non, .int 0, .str "", .tup []]), none, x9, xa, xb, xc] ∧ JarOk mu' p (c + 450 + i) ∧ ExtBut p mu2 mu',
    ⟨_, _, _, _, _, _, rfl, j2.ext E8, Ext.but E8⟩, fun _ _ _ _ _ => trivial, fun i u G' mu' hu ⟨x5, x6, x9, xa, xb, xc, eG, jr, ex⟩ => ?_, fun G' mu' ⟨x5, x6, x9, xa, xb, xc, eG, jr, ex⟩ => ?_⟩
  · subst eG
    have i4 : i < 4 := by have := (List.getElem?_eq_some_iff.mp hu).1; simpa using this
    have yp : y ≠ p := fun z => by
      obtain ⟨_, _, _, g, _⟩ := j2.ex
      rw [z, g] at hy
      cases hy
    refine sg_name (i := 9) ?_ sc_Lright.nd
    refine sss_cons (ss_asg (se_callD D_near (hr.mono (by decide)) (sa_cons (se_var (i := 0) rfl (sa_cons (se_var (i := 1) rfl (sa_nil ?_)))))))
    refine ⟨p, L, v, c + 450 + i, rfl, lore2.but j2 ex, ok, jr, by omega, fun F v' mu9 lore' ok' j9 e9 => ?_⟩
    refine sg_name (i := 10) ?_ sc_Lright.nd
    have fv' := ok'.five
    have hy9 := e9 _ _ yp (ex _ _ yp hy)
    refine sss_cons ?_
    refine ss_par (i := 11) (j := 12) ?_ rfl sc_Lright.nd (by decide) (by rfl)
    refine se_callD D_made (hr.mono (by decide)) (sa_cons (se_var (i := 10) rfl (sa_nil ?_)))
    refine ⟨F, v', rfl, lore', ok', fun o mua no ea ho => ?_⟩
    have hya := ea _ _ hy9
    refine se_cmp (op_eqD hr.units) eq_w (nomark _) ?_
    refine se_callD D_five (hr.mono (by decide)) (sa_cons (se_var (i := 10) rfl (sa_nil ?_)))
    refine ⟨F, v', rfl, lore'.ext ea, ?_⟩
    refine se_var (i := 2) rfl ?_
    refine eqD_w fv'.all fv.all (by decide) ?_
    rw [eqWd_five]
    refine sss_cons (ss_if (st_cmp op_ne neS_w (nomark _) ?_))
    refine se_repr hr hgd ?_ B.repr
    refine se_lst ?_
    refine sa_cons (se_cmp (op_eqOwn Q.eq (hr.mono (by decide))) eqOwn_w (nomark _) (se_var (i := 3) rfl (se_var (i := 11) rfl ?_)))
    refine ⟨⟨y, _, rfl, hya⟩, ⟨_, ho⟩, y, v, .m o, rfl, hya, fv, .inl ⟨o, v', rfl, ho, fv', _, rfl, ?_⟩⟩
    refine sa_cons (se_cmp (op_eqOwn Q.eq (hr.mono (by decide))) eqOwn_w (nomark _) (se_var (i := 11) rfl (se_var (i := 3) rfl ?_)))
    refine ⟨⟨o, _, rfl, ho⟩, ⟨_, hya⟩, o, v', .m y, rfl, ho, fv', .inl ⟨y, v, rfl, hya, fv, _, rfl, ?_⟩⟩
    refine sa_cons (se_cmp (op_neOwn Q.eq (hr.mono (by decide)) Q.obj Q.ne) neOwn_w (nomark _) (se_var (i := 3) rfl (se_var (i := 11) rfl ?_)))
    refine ⟨⟨y, _, rfl, hya⟩, ⟨_, ho⟩, y, v, .m o, rfl, hya, fv, .inl ⟨o, v', rfl, ho, fv', _, rfl, ?_⟩⟩
    rw [eqWd_comm fv fv']
    refine sa_nil ⟨by show 3 ≤ sizeLine; decide, fun d1 nd1 => ?_⟩
    refine repr_bls (bs := [eqWd v' v, eqWd v' v, !eqWd v' v]) setM_same (by simp) ?_
    refine se_repr hr hgd ?_ B.repr
    refine se_lst ?_
    refine sa_cons (se_var (i := 12) rfl (sa_cons (se_var (i := 12) rfl (sa_cons (se_not (se_var (i := 12) rfl ?_))))))
    refine sa_nil ⟨by show 3 ≤ sizeLine; decide, fun d2 nd2 => ?_⟩
    refine repr_bls (bs := [eqWd v' v, eqWd v' v, !eqWd v' v]) setM_same (by simp) ?_
    refine ⟨_, _, rfl, rfl, fun b hb => ?_⟩
    rw [hb.trans (ne_self _)]
    refine sss_nil ?_
    refine sss_nil ?_
    have p1 : p ≠ d1 := fun z => by
      obtain ⟨_, _, _, g, _⟩ := (j9.ext ea).ex
      rw [z, nd1] at g
      cases g
    have ex9 : ExtBut p mu2 mua := (ex.trans e9).ext ea
    have j91 := (j9.ext ea).set (x := .lst [.bl (eqWd v' v), .bl (eqWd v' v), .bl (!eqWd v' v)]) p1
    have p2 : p ≠ d2 := j91.ne nd2
    refine ⟨_, _, _, _, _, _, rfl, ((j91.set p2).mono (by omega)), fun a cc ha hc => ?_⟩
    have q1 := ex9 _ _ ha hc
    have n1 : a ≠ d1 := fun z => by rw [z, nd1] at q1; cases q1
    have q2 : setM mua d1 (.lst [.bl (eqWd v' v), .bl (eqWd v' v), .bl (!eqWd v' v)]) a = some cc := by rw [setM_ne n1]; exact q1
    rw [setM_ne (fun z => by rw [z] at q2; rw [nd2] at q2; cases q2)]
    exact q2
  · subst eG
    refine sss_cons (ss_ret (se_bl ?_))
    exact h _ (jr.mono (by simp)) ((e1.ext e2).trans ex)
end
end K1
set_option Elab.async false
set_option linter.all false
set_option maxRecDepth 100000
/-! Sets of a few nested tuples of texts. -/
namespace NS
open PySem PySem.Spec PyProof.Rows L2
mutual
/-- texts alone, nested -/
def tx : NestedKey → Bool
  | .text _ => true
  | .tup ks => txs ks
  | _ => false
def txs : List NestedKey → Bool
  | [] => true
  | k :: ks => tx k && txs ks
end
structure IsN (h : Heap) (k : NestedKey) (a : Addr) : Prop where
  at_ : NestedIs h k (.ref a)
  dep : k.depth ≤ 8
  only : tx k = true
theorem IsN.keep {h h' : Heap} {k : NestedKey} {a : Addr} (x : IsN h k a) (hk : ∀ b o, h.get? b = some o → h'.get? b = some o) : IsN h' k a := ⟨NestedIs.at (fun b o vs n e _ => hk b o e) _ _ x.at_, x.dep, x.only⟩
theorem IsN.put {h h' : Heap} {k : NestedKey} {a b : Addr} {o : Obj} {es : Array (Int × Value)} {ep : Nat} {t : SetTable} (x : IsN h k b) (ho : h.get? a = some o) (hd : o.data = .set es ep t) (sb : Heap.SameBut a h h') : IsN h' k b :=
  ⟨NestedIs.at (fun c oc vs n e dd => (sb.2 c fun z => by subst z; rw [ho] at e; have e := Option.some.inj e; subst e; rw [hd] at dd; cases dd).trans e) _ _ x.at_, x.dep, x.only⟩
section
variable {P : Program} {w : World} {E : Value → Shared → Prop} {s : Shared}
mutual
/-- nested texts are of no class statement -/
theorem cls_k : ∀ (k : NestedKey) (v : Value) (n : Nat) (A : Around) (Q : Bool → Shared → Prop), NestedIs s.heap k v → tx k = true → k.depth ≤ n → Q false s → wpAny (model P w) A (ofAClassStatement n v) Q E s
  | .none, _, _, _, _, _, ht, _, _ => by simp [tx] at ht
  | .num _, _, _, _, _, _, ht, _, _ => by simp [tx] at ht
  | .text y, _, n, A, Q, x, _, _, q => by
    cases x
    cases n <;> exact wpAny_pure q
  | .tup ks, _, n, A, Q, x, ht, hn, q => by
    cases x with
    | @tup a o vs m _ hg hc hd hk =>
    cases n with
    | zero => simp [NestedKey.depth] at hn
    | succ n =>
      have ty : s.TypeIs (.ref a) "tuple" := ⟨_, hg, hc⟩
      unfold ofAClassStatement
      refine wpAny_bind (wpAny_typeOf ty ?_)
      have e : (("tuple" : String) == "tuple") = true := by decide
      simp only [e, if_true, Bool.not_true, Bool.false_eq_true, if_false]
      try refine wpAny_bind (wpAny_pure ?_)
      try simp only [Bool.not_true, Bool.false_eq_true, if_false]
      show wpAny _ _ (seqItems? (.ref a) >>= _) _ _ s
      refine wpAny_bind (wpAny_seqItems hg hd ?_); dsimp only
      refine wpAny_bind ?_; show wpAny _ _ (forIn vs _ _) _ _ s
      rw [← Array.forIn_toList]
      have each := cls_ks ks vs.toList n hk (by simpa [tx] using ht) (by simp only [NestedKey.depth] at hn; omega)
      refine wpAny_forIn_list _ (fun rest r s' => r.1 = none ∧ s' = s ∧ ∀ v ∈ rest, v ∈ vs.toList) _ (fun v rest r s' ⟨h1, h2, h3⟩ => ?_) (fun r s' ⟨h1, h2, _⟩ => ?_) _ _ ⟨rfl, rfl, fun _ z => z⟩
      · subst h2
        refine wpAny_bind (each v (h3 v (List.mem_cons_self ..)) A _ ?_); simp only [Bool.false_eq_true, if_false]
        exact wpAny_pure ⟨rfl, rfl, fun u hu => h3 u (List.mem_cons_of_mem _ hu)⟩
      · obtain ⟨r1, r2⟩ := r
        simp only at h1
        subst h1 h2
        exact wpAny_pure q
theorem cls_ks : ∀ (ks : List NestedKey) (vs : List Value) (n : Nat), NestedAll s.heap ks vs → txs ks = true → NestedKey.depthAll ks ≤ n → ∀ v ∈ vs, ∀ (A : Around) (Q : Bool → Shared → Prop), Q false s → wpAny (model P w) A (ofAClassStatement n v) Q E s
  | [], _, n, x, _, _, v, hv, _, _, _ => by cases x; cases hv
  | k :: ks, _, n, x, ht, hn, v, hv, A, Q, q => by
    cases x with
    | cons x1 x2 =>
      simp only [txs, Bool.and_eq_true] at ht
      simp only [NestedKey.depthAll] at hn
      rcases List.mem_cons.mp hv with e | hv
      · subst e
        exact cls_k k _ n A Q x1 ht.1 (by omega) q
      · exact cls_ks ks _ n x2 ht.2 (by omega) v hv A Q q
end
mutual
/-- whether a hash is made by value: some truth, nothing changed -/
theorem byv_k : ∀ (k : NestedKey) (v : Value) (n : Nat) (A : Around) (Q : Bool → Shared → Prop), NestedIs s.heap k v → k.depth ≤ n → (∀ b, Q b s) → wpAny (model P w) A (hashByValue n v) Q E s
  | .none, _, n, A, Q, x, _, q => by cases x; cases n <;> exact wpAny_pure (q _)
  | .num i, _, n, A, Q, x, _, q => by
    cases x with
    | bool e => cases n <;> exact wpAny_pure (q _)
    | int i t => cases n <;> exact wpAny_pure (q _)
  | .text y, _, n, A, Q, x, _, q => by cases x; cases n <;> exact wpAny_pure (q _)
  | .tup ks, _, n, A, Q, x, hn, q => by
    cases x with
    | @tup a o vs m _ hg hc hd hk =>
    cases n with
    | zero => simp [NestedKey.depth] at hn
    | succ n =>
      have ty : s.TypeIs (.ref a) "tuple" := ⟨_, hg, hc⟩
      unfold hashByValue
      refine wpAny_bind (wpAny_specialOf ty F.slot_tuple_hash.lookup ?_)
      show wpAny _ _ (seqItems? (.ref a) >>= _) _ _ s
      refine wpAny_bind (wpAny_seqItems hg hd (wpAny_bind ?_)); show wpAny _ _ (forIn vs _ _) _ _ s
      rw [← Array.forIn_toList]
      have each := byv_ks ks vs.toList n hk (by simp only [NestedKey.depth] at hn; omega)
      refine wpAny_forIn_list _ (fun rest r s' => r.1 = none ∧ s' = s ∧ ∀ v ∈ rest, v ∈ vs.toList) _ (fun v rest r s' ⟨h1, h2, h3⟩ => ?_) (fun r s' ⟨h1, h2, _⟩ => ?_) _ _ ⟨rfl, rfl, fun _ z => z⟩
      · subst h2
        refine wpAny_bind (each v (h3 v (List.mem_cons_self ..)) A _ fun b => ?_)
        cases b with
        | true =>
          simp only [Bool.not_true, Bool.false_eq_true, if_false]
          exact wpAny_pure ⟨rfl, rfl, fun u hu => h3 u (List.mem_cons_of_mem _ hu)⟩
        | false =>
          simp only [Bool.not_false, if_true]
          exact wpAny_pure (wpAny_pure (q false))
      · obtain ⟨r1, r2⟩ := r
        simp only at h1
        subst h1 h2
        exact wpAny_pure (q true)
theorem byv_ks : ∀ (ks : List NestedKey) (vs : List Value) (n : Nat), NestedAll s.heap ks vs → NestedKey.depthAll ks ≤ n → ∀ v ∈ vs, ∀ (A : Around) (Q : Bool → Shared → Prop), (∀ b, Q b s) → wpAny (model P w) A (hashByValue n v) Q E s
  | [], _, n, x, _, v, hv, _, _, _ => by cases x; cases hv
  | k :: ks, _, n, x, hn, v, hv, A, Q, q => by
    cases x with
    | cons x1 x2 =>
      simp only [NestedKey.depthAll] at hn
      rcases List.mem_cons.mp hv with e | hv
      · subst e
        exact byv_k k _ n A Q x1 (by omega) q
      · exact byv_ks ks _ n x2 (by omega) v hv A Q q
end
variable {A : Around}
/-- a search among such tuples tells nothing -/
theorem seen_k {k : NestedKey} {b : Addr} {Q : Bool → Shared → Prop} (hk : IsN s.heap k b) {ys : List Value} (hy : ∀ y ∈ ys, ∃ k' c, y = Value.ref c ∧ IsN s.heap k' c) (q : Q false s) : wpAny (model P w) A (searchCouldBeSeen (.ref b) ys) Q E s := by
  unfold searchCouldBeSeen
  refine wpAny_bind (wpAny_forIn_list _ (fun rest r s' => r.1 = none ∧ s' = s ∧ ∀ y ∈ rest, y ∈ ys) _ (fun v rest r s' ⟨h1, h2, h3⟩ => ?_) (fun r s' ⟨h1, h2, _⟩ => ?_) _ _ ⟨rfl, rfl, fun _ z => z⟩)
  · subst h2
    obtain ⟨k', c, e, hc⟩ := hy v (h3 v (List.mem_cons_self ..))
    subst e
    have on := fun u hu => h3 u (List.mem_cons_of_mem _ hu)
    dsimp only
    by_cases hv : (b == c || (carriedByValue (.ref b) && carriedByValue (.ref c))) = true
    · exact wp_if_pos hv (wpAny_pure ⟨rfl, rfl, on⟩)
    · refine wp_if_neg hv (wpAny_bind (quiet_key k _ 8 s' hk.at_ hk.dep _ _ _ ?_)); simp only [Bool.not_true, Bool.false_eq_true, if_false]
      refine wpAny_bind (quiet_key k' _ 8 s' hc.at_ hc.dep _ _ _ ?_); simp only [Bool.not_true, Bool.false_eq_true, if_false]
      refine wpAny_bind (cls_k k _ 8 _ _ hk.at_ hk.only hk.dep ?_); simp only [Bool.false_eq_true, if_false]
      refine wpAny_bind (cls_k k' _ 8 _ _ hc.at_ hc.only hc.dep ?_); simp only [Bool.false_eq_true, if_false]
      exact wpAny_pure ⟨rfl, rfl, on⟩
  · obtain ⟨r1, r2⟩ := r
    simp only at h1
    subst h1 h2
    exact wpAny_pure q
end
end NS
set_option Elab.async false
set_option linter.all false
set_option maxRecDepth 100000
/-! The set itself: at most four members, a table of eight slots. -/
namespace NS
open PySem PySem.Spec PyProof.Rows L2
abbrev Mem := List (Addr × NestedKey)
abbrev row (w : World) (p : Addr × NestedKey) : Int × Value := (p.2.hash w, .ref p.1)
structure SetN (w : World) (h : Heap) (a : Addr) (L : Mem) (es : Array (Int × Value)) (ep : Nat) (t : SetTable) : Prop where
  ob : ∃ o, h.get? a = some o ∧ o.ExactSet ∧ o.data = .set es ep t
  rows : es.toList = L.map (row w)
  tab : TabOk t (L.map fun p => p.2.hash w)
  mask : t.mask = 7
  nd : (L.map (·.2)).Nodup
  tup : ∀ p ∈ L, IsN h p.2 p.1
  led : w.params.followText "set-order" = true ∨ t.led = true
  few : L.length ≤ 4
section
variable {P : Program} {w : World} {A : Around} {E : Value → Shared → Prop} {s : Shared} {a : Addr} {L : Mem} {es : Array (Int × Value)} {ep : Nat} {t : SetTable}
theorem SetN.size {h : Heap} (R : SetN w h a L es ep t) : es.size = L.length := by
  have := congrArg List.length R.rows
  rwa [Array.length_toList, List.length_map] at this
theorem SetN.places {h : Heap} (R : SetN w h a L es ep t) : t.place.size = L.length := by
  have := R.tab.sz
  rwa [List.length_map] at this
theorem SetN.fits {h : Heap} (R : SetN w h a L es ep t) : t.fits es.size = true := by
  have h1 := R.places
  have h2 := R.size
  have h3 := R.few
  have h4 := R.mask
  unfold SetTable.fits SetTable.fill
  rw [R.tab.dm]
  simp [h1, h2, h4]
  omega
theorem SetN.ent {h : Heap} (R : SetN w h a L es ep t) {i : Nat} {p : Addr × NestedKey} (hp : L[i]? = some p) : es[i]? = some (row w p) := by
  rw [← Array.getElem?_toList, R.rows, List.getElem?_map, hp]
  rfl
theorem SetN.keep {h h' : Heap} (R : SetN w h a L es ep t) (ha : ∀ o, h.get? a = some o → h'.get? a = some o) (ht : ∀ p ∈ L, IsN h' p.2 p.1) : SetN w h' a L es ep t := by
  obtain ⟨o, ho, r⟩ := R.ob
  exact ⟨⟨o, ha o ho, r⟩, R.rows, R.tab, R.mask, R.nd, ht, R.led, R.few⟩
/-- the c-th stop of a search for a hash -/
abbrev stop (m : Nat) (h : Int) (c : Nat) : SetTable.Probe := nth m (runAt m (SetTable.bits h % (m + 1)) (SetTable.bits h)) c
theorem stop_on (m : Nat) (h : Int) (c q : Nat) : nth m (stop m h c) q = stop m h (c + q) := (nth_add m c _ q).symm
theorem stop_clean (m : Nat) (h : Int) (c : Nat) : (stop m h c).dummy = none := by
  have go : ∀ (n : Nat) (p : SetTable.Probe), p.dummy = none → (nth m p n).dummy = none := fun n => by
    induction n with
    | zero => exact fun p e => e
    | succ n ih => exact fun p e => ih (adv m p) (by unfold adv; split <;> exact e)
  exact go c _ rfl
/-- the search, from the c-th stop on -/
theorem look_from (R : SetN w s.heap a L es ep t) {x : Addr} {k : NestedKey} (hx : IsN s.heap k x) (hu : A.units + 8 < cLine) {K : Nat} (Kf : K < 10 * SetTable.turns t.mask) (out : way t.mask (k.hash w) K ∉ t.place.toList)
    (inn : ∀ c, c < K → way t.mask (k.hash w) c ∈ t.place.toList) {Q : SetFound → Shared → Prop} (yes : k ∈ L.map (·.2) → Q (.there none) s) (no : k ∉ L.map (·.2) → Q (.free (way t.mask (k.hash w) K) false) s) :
    ∀ (f c : Nat) (stand : Option SetTable.Probe), stand.getD (t.probeStart (k.hash w)) = stop t.mask (k.hash w) c → c ≤ K → K - c < f →
      (∀ (i : Nat) p, L[i]? = some p → p.2 = k → ∃ d, c ≤ d ∧ d < K ∧ t.place.toList[i]? = some (way t.mask (k.hash w) d)) → wpAny (model P w) A (setSearchFrom a (.ref x) (k.hash w) true f stand) Q E s
  | 0, c, stand, _, _, hf, _ => absurd hf (Nat.not_lt_zero _)
  | f + 1, c, stand, hst, hc, hf, ahead => by
    obtain ⟨o, ho, hex, hd⟩ := R.ob
    have odd : ¬ t.gaveWay = true := by unfold SetTable.gaveWay; rw [R.mask]; decide
    rw [setSearchFrom_succ]
    refine wpAny_bind (wpAny_setState_of ho hd R.fits ?_); dsimp only
    refine wp_if_neg odd ?_
    try refine wpAny_bind (wpAny_pure ?_)
    have hashes : ∀ (i : Nat) p, L[i]? = some p → (es[i]?.map (·.1)).getD 0 = p.2.hash w := fun i p hp => by rw [R.ent hp]; rfl
    have far : way t.mask (k.hash w) (c + (K - c)) ∉ t.place.toList := by rw [show c + (K - c) = K by omega]; exact out
    have said := go_spec t R.tab.ris R.tab.dm (fun i => (es[i]?.map (·.1)).getD 0) (k.hash w) (10 * SetTable.turns t.mask) (K - c) (stop t.mask (k.hash w) c) (stop_clean _ _ _) (by omega)
      (fun q hq => by rw [stop_on]; exact inn (c + q) (by omega)) (by rw [stop_on]; exact far)
    rcases said with ⟨q, i, hq, hi, hh, before, hpr⟩ | ⟨before, hpr⟩
    · rw [stop_on] at hi
      have met : t.probe (fun i => (es[i]?.map (·.1)).getD 0) (k.hash w) (stand.getD (t.probeStart (k.hash w))) = some (.candidate (way t.mask (k.hash w) (c + q)) i (stop t.mask (k.hash w) (c + (q + 1)))) := by
        rw [hst, ← stop_on t.mask (k.hash w) c (q + 1)]
        show SetTable.probe.go _ _ _ _ _ = some (.candidate (stop t.mask (k.hash w) (c + q)).j i _)
        rw [← stop_on t.mask (k.hash w) c q]
        exact hpr
      rw [met]; dsimp only
      have il : i < L.length := by
        have h1 : i < t.place.toList.length := (List.getElem?_eq_some_iff.mp hi).1
        rw [Array.length_toList, R.places] at h1
        exact h1
      obtain ⟨p, hp⟩ : ∃ p, L[i]? = some p := ⟨_, List.getElem?_eq_getElem il⟩
      have pm := List.mem_of_getElem? hp
      have pt := R.tup p pm
      have live : t.slot (way t.mask (k.hash w) (c + q)) = .live i := slot_live R.tab.ris hi
      have rest : wpAny (model P w) A (searchRest a (.ref x) (k.hash w) true f es t (way t.mask (k.hash w) (c + q)) i (stop t.mask (k.hash w) (c + (q + 1)))) Q E s := by
        unfold searchRest
        rw [R.ent hp]; dsimp only
        refine wpAny_bind (wpAny_holding ((nestedKind P w).eqBool (x := p.2) (y := k) hu ⟨pt.at_, pt.dep⟩ ⟨hx.at_, hx.dep⟩ (wpAny_bind (wpAny_setState_of ho hd R.fits ?_)))); dsimp only
        by_cases same : p.2 = k
        · exact wp_if_pos (by simp [same]) (wpAny_pure (yes (List.mem_map.mpr ⟨p, pm, same⟩)))
        · refine wp_if_neg (by simp [same]) ?_
          try refine wpAny_bind (wpAny_pure ?_)
          rw [sameMem]; dsimp only
          simp only [if_true, live, R.ent hp]
          refine wpAny_bind (wpAny_isSame_ref_self (wpAny_bind (wpAny_pure ?_))); simp only [if_true]
          refine wp_if_neg (by simp [same]) ?_
          refine look_from R hx hu Kf out inn yes no f (c + (q + 1)) _ rfl (by omega) (by omega) fun i0 p0 h0 e0 => ?_
          obtain ⟨d, d1, d2, d3⟩ := ahead i0 p0 h0 e0
          refine ⟨d, ?_, d2, d3⟩
          by_cases z : c + q + 1 ≤ d
          · omega
          by_cases y : d = c + q
          · exfalso
            subst y
            have l2 := slot_live R.tab.ris d3
            rw [live] at l2
            injection l2 with l2
            subst l2
            rw [hp] at h0
            have h0 := Option.some.inj h0
            subst h0
            exact same e0
          · exfalso
            refine before (d - c) i0 (by omega) ?_ ((hashes i0 p0 h0).trans (by rw [e0]))
            rw [stop_on, show c + (d - c) = d by omega]
            exact d3
      by_cases hl : t.led = true
      · refine wp_if_neg (by simp [hl]) ?_
        try refine wpAny_bind (wpAny_pure ?_)
        exact rest
      · refine wp_if_pos (by simp [hl]) (wpAny_bind (seen_k hx (fun y hy => ?_) ?_))
        · obtain ⟨e, he, ee⟩ := List.mem_map.mp hy
          have he1 : e ∈ es.toList := by
            have : e ∈ es ∧ e.1 = k.hash w := by simpa using he
            simpa using this.1
          rw [R.rows] at he1
          obtain ⟨p2, hp2, e2⟩ := List.mem_map.mp he1
          exact ⟨p2.2, p2.1, by rw [← ee, ← e2], R.tup p2 hp2⟩
        · refine wp_if_neg (by decide) ?_
          try refine wpAny_bind (wpAny_pure ?_)
          exact rest
    · have met : t.probe (fun i => (es[i]?.map (·.1)).getD 0) (k.hash w) (stand.getD (t.probeStart (k.hash w))) = some (.empty (way t.mask (k.hash w) K) none) := by
        have e2 : way t.mask (k.hash w) K = (nth t.mask (stop t.mask (k.hash w) c) (K - c)).j := by rw [stop_on, show c + (K - c) = K by omega]
        rw [hst, e2]
        exact hpr
      rw [met]; dsimp only
      refine wpAny_pure (no fun hm => ?_)
      obtain ⟨p0, m0, e0⟩ := List.mem_map.mp hm
      obtain ⟨i0, l0, g0⟩ := List.getElem_of_mem m0
      have h0 : L[i0]? = some p0 := by rw [List.getElem?_eq_getElem l0, g0]
      obtain ⟨d, d1, d2, d3⟩ := ahead i0 p0 h0 e0
      refine before (d - c) i0 (by omega) ?_ ((hashes i0 p0 h0).trans (by rw [e0]))
      rw [stop_on, show c + (d - c) = d by omega]
      exact d3
theorem look_at (R : SetN w s.heap a L es ep t) {x : Addr} {k : NestedKey} (hx : IsN s.heap k x) (hu : A.units + 8 < cLine) {Q : SetFound → Shared → Prop} (yes : k ∈ L.map (·.2) → Q (.there none) s)
    (no : ∀ K, k ∉ L.map (·.2) → way t.mask (k.hash w) K ∉ t.place.toList → (∀ c, c < K → way t.mask (k.hash w) c ∈ t.place.toList) → Q (.free (way t.mask (k.hash w) K) false) s) : wpAny (model P w) A (setSearch a (.ref x) (k.hash w) true) Q E s := by
  have h4 := R.few
  have h7 := R.mask
  obtain ⟨K, Kf, out, inn⟩ := R.tab.first (by rw [List.length_map, h7]; omega) (k.hash w)
  have small : K < 100000 := by
    have : 10 * SetTable.turns t.mask ≤ 1420 := by
      unfold SetTable.turns
      omega
    omega
  unfold setSearch
  refine look_from R hx hu Kf out inn yes (fun hn => no K hn out inn) 100000 0 none rfl (Nat.zero_le _) (by omega) fun i p hp e => ?_
  have hi : (L.map fun p => p.2.hash w)[i]? = some (k.hash w) := by rw [List.getElem?_map, hp, ← e]; rfl
  have il : i < t.place.toList.length := by
    rw [Array.length_toList, R.places]
    exact (List.getElem?_eq_some_iff.mp hp).1
  obtain ⟨c, hc, ec⟩ := R.tab.before out hi (List.getElem?_eq_getElem il)
  exact ⟨c, Nat.zero_le _, hc, by rw [List.getElem?_eq_getElem il, ec]⟩
/-- set.add of one -/
theorem add_k (R : SetN w s.heap a L es ep t) (h3 : L.length ≤ 3) {x : Addr} {k : NestedKey} (hx : IsN s.heap k x) (hu : A.units + 8 < cLine) {Q : Bool → Shared → Prop}
    (fin : ∀ b h' L' es' ep' t', Heap.SameBut a s.heap h' → SetN w h' a L' es' ep' t' → (k ∈ L.map (·.2) → L' = L) → (k ∉ L.map (·.2) → L'.Perm ((x, k) :: L)) → Q b { s with heap := h' }) : wpAny (model P w) A (setAddHashed a (.ref x) (k.hash w)) Q E s := by
  obtain ⟨o, ho, hex, hd⟩ := R.ob
  (unfold setAddHashed; refine wpAny_holding ?_)
  rw [show (100000 : Nat) = 99999 + 1 from rfl, setAddHashedIn_succ]
  refine wpAny_bind (wpAny_setState_of ho hd R.fits ?_); dsimp only
  refine wp_if_neg (by simp [byScan, Value.scannable]) ?_
  try refine wpAny_bind (wpAny_pure ?_)
  refine wpAny_bind (look_at R hx hu (fun hm => ?_) fun K hm out inn => ?_)
  · dsimp only
    exact wpAny_pure (fin false s.heap L es ep t (Heap.SameBut.refl a s.heap) R (fun _ => rfl) fun z => absurd hm z)
  dsimp only
  refine wpAny_bind (wpAny_setState_of ho hd R.fits ?_); dsimp only
  obtain ⟨q1, q2, q3, q4, q5, _, _, _, q9⟩ := R.tab.put out inn
  generalize hpt : t.put (way t.mask (k.hash w) K) = pt at q1 q3 q4 q5 q9 ⊢
  obtain ⟨t1, pl⟩ := pt
  dsimp only at q1 q3 q4 q5 q9 ⊢
  subst q1
  generalize SetTable.below t.place (way t.mask (k.hash w) K) = pl at q2 q3 ⊢
  have rows1 : (SetTable.insertAt es pl (k.hash w, Value.ref x)).toList = (L.take pl ++ (x, k) :: L.drop pl).map (row w) := by
    rw [SetTable.toList_insertAt, R.rows, List.map_append, List.map_cons, List.map_take, List.map_drop]
  have hh : (L.take pl ++ (x, k) :: L.drop pl).map (fun p => p.2.hash w) = (L.map fun p => p.2.hash w).take pl ++ k.hash w :: (L.map fun p => p.2.hash w).drop pl := by
    rw [List.map_append, List.map_cons, List.map_take, List.map_drop]
  rw [← hh] at q3
  have pm : (L.take pl ++ (x, k) :: L.drop pl).Perm ((x, k) :: L) := put_perm L pl (x, k)
  have len := pm.length_eq
  have nd1 : ((L.take pl ++ (x, k) :: L.drop pl).map (·.2)).Nodup := (pm.map (·.2)).nodup_iff.mpr (by rw [List.map_cons]; exact List.nodup_cons.mpr ⟨hm, R.nd⟩)
  generalize L.take pl ++ (x, k) :: L.drop pl = L1 at rows1 hh q3 pm len nd1
  generalize SetTable.insertAt es pl (k.hash w, Value.ref x) = es1 at rows1 ⊢
  have sz1 : es1.size = L.length + 1 := by
    have := congrArg List.length rows1
    rw [Array.length_toList, List.length_map, len] at this
    exact this
  have store : ∀ (t2 : SetTable), TabOk t2 (L1.map fun p => p.2.hash w) → t2.mask = 7 → t2.led = t.led → t2.tooFull = false → wpAny (model P w) A (do
      storeSet a es1 t2
      if !false && t2.tooFull then setRelay a (SetTable.grown (es.size + 1))
      return true) Q E s := fun t2 T m2 l2 nf => by
    refine wpAny_bind (wpAny_storeSet_of ho hd ?_ (by rw [sz1, sizeLine_eq]; omega))
    have sb : Heap.SameBut a s.heap (s.heap.update a (Obj.putSet es1 t2)) := Heap.SameBut.update ..
    have ho1 := store_at (es' := es1) (t' := t2) ho hd
    generalize s.heap.update a (Obj.putSet es1 t2) = h1 at sb ho1 ⊢
    have tup1 : ∀ p ∈ L1, IsN h1 p.2 p.1 := fun p hp => by
      rcases List.mem_cons.mp (pm.mem_iff.mp hp) with e | hp
      · rw [e]; exact hx.put ho hd sb
      · exact (R.tup p hp).put ho hd sb
    have done : Q true { s with heap := h1 } := fin true h1 L1 es1 (ep + 1) t2 sb ⟨⟨_, ho1, ⟨hex.1, hex.2.1, hex.2.2⟩, rfl⟩, rows1, T, m2, nd1, tup1, by rw [l2]; exact R.led, by rw [len, List.length_cons]; omega⟩ (fun z => absurd z hm) fun _ => pm
    rw [nf]
    simp only [Bool.not_false, Bool.and_false, Bool.false_eq_true, if_false]
    first
      | exact wpAny_bind (wpAny_pure (wpAny_pure done))
      | exact wpAny_pure done
  have full : ∀ (t2 : SetTable), t2.fill = L.length + 1 → t2.mask = 7 → t2.tooFull = false := fun t2 e m => by
    unfold SetTable.tooFull
    rw [e, m]
    simp
    omega
  rw [List.length_map] at q9
  have m1 : t1.mask = 7 := q4.trans R.mask
  have both : ∀ b : Bool, wpAny (model P w) A (do
      storeSet a es1 (if b = true then t1 else { t1 with plain := false })
      if !false && (if b = true then t1 else { t1 with plain := false }).tooFull then setRelay a (SetTable.grown (es.size + 1))
      return true) Q E s := fun b => by
    cases b with
    | true => exact store t1 q3 m1 q5 (full t1 q9 m1)
    | false => exact store { t1 with plain := false } ⟨q3.ris, q3.dm, q3.sz, q3.mok, q3.bd, q3.reach⟩ m1 q5 (full { t1 with plain := false } q9 m1)
  by_cases hp : t1.plain = true
  · rw [if_pos hp]
    exact wpAny_bind (byv_k k _ 8 _ _ hx.at_ hx.dep fun b => both b)
  · rw [if_neg hp]
    exact wpAny_bind (wpAny_pure (both true))
end
end NS
set_option Elab.async false
set_option linter.all false
set_option maxRecDepth 100000
/-! set(xs) of a few nested texts; what sorted makes of it. -/
namespace NS
open PySem PySem.Spec PyProof.Rows L2
abbrev bare (led : Bool) : Obj := { cls := .type "set", dict := none, data := .set #[] 0 (.fresh 0 0 led) }
/-- what came in of the first ones -/
structure Got (ks : Mem) (i : Nat) (L : Mem) : Prop where
  sub : ∀ p ∈ L, p ∈ ks.take i
  len : L.length ≤ i
  any : 0 < i → L ≠ []
theorem none_at {h : Heap} {b : Addr} (z : h.objs.size ≤ b) : h.get? b = none := by
  cases q : h.get? b with
  | none => rfl
  | some o => exact absurd (Nat.lt_of_lt_of_le (Heap.lt_size q) z) (Nat.lt_irrefl _)
theorem Got.zero (ks : Mem) : Got ks 0 [] := ⟨fun p h => (by cases h), Nat.le_refl _, fun h => absurd h (Nat.lt_irrefl _)⟩
theorem Got.in {ks L : Mem} {i : Nat} {x : Addr × NestedKey} (g : Got ks i L) (h : ks[i]? = some x) (hm : x.2 ∈ L.map (·.2)) : Got ks (i + 1) L where
  sub := fun p hp => by rw [take_next h]; exact List.mem_append_left _ (g.sub p hp)
  len := Nat.le_succ_of_le g.len
  any := fun _ e => by rw [e] at hm; cases hm
theorem Got.new {ks L L' : Mem} {i : Nat} {x : Addr × NestedKey} (g : Got ks i L) (h : ks[i]? = some x) (pm : L'.Perm (x :: L)) : Got ks (i + 1) L' where
  sub := fun p hp => by
    rw [take_next h]
    rcases List.mem_cons.mp (pm.mem_iff.mp hp) with e | hp
    · exact List.mem_append_right _ (by rw [e]; exact List.mem_singleton.mpr rfl)
    · exact List.mem_append_left _ (g.sub p hp)
  len := by
    have := pm.length_eq
    have := g.len
    rw [List.length_cons] at *
    omega
  any := fun _ e => by
    have := pm.length_eq
    rw [e] at this
    cases this
section
variable {pr : Program} {ww : World} {A : Around}
theorem fresh_n {h : Heap} {a : Addr} (ho : h.get? a = some (bare (!ww.params.followText "set-order"))) : SetN ww h a [] #[] 0 (.fresh 0 0 (!ww.params.followText "set-order")) where
  ob := ⟨_, ho, ⟨rfl, rfl, rfl⟩, rfl⟩
  rows := rfl
  tab := ⟨List.Pairwise.nil, rfl, rfl, .inl rfl, fun x hx => (by cases hx), fun i h j hi => (by simp at hi)⟩
  mask := rfl
  nd := List.nodup_nil
  tup := fun p hp => (by cases hp)
  led := by
    show _ ∨ (!ww.params.followText "set-order") = true
    cases ww.params.followText "set-order"
    · exact .inr rfl
    · exact .inl rfl
  few := Nat.zero_le _
/-- one after another -/
theorem fillN {R : Result → Shared → Prop} {I D : Addr} {fp wr : List Addr} {G : Array GenState → Array GenState → Prop} {m : Nat} {Pv : Nat → Value → Prop} {St : Nat → Shared → Prop} {h0 : Heap}
    (Wk : WalksS pr ww A.in1 I fp wr G m Pv St) (hD : D ∉ fp) (ks : Mem) (hm : ks.length = m) (few : ks.length ≤ 3) (hP : ∀ i v, Pv i v → ∃ p, ks[i]? = some p ∧ v = .ref p.1) (isn : ∀ p ∈ ks, IsN h0 p.2 p.1) (hD0 : h0.get? D = none) (hwr : ∀ b ∈ wr, h0.get? b = none) (hu : A.in1.units + 8 < cLine) :
    ∀ (left i : Nat) (sh : Shared), m - i = left → i ≤ m → St i sh → (∀ b o, h0.get? b = some o → sh.heap.get? b = some o) → (∃ L es ep t, SetN ww sh.heap D L es ep t ∧ Got ks i L) →
      (∀ sh2, Moved (D :: wr) G sh sh2 → (∃ L es ep t, SetN ww sh2.heap D L es ep t ∧ Got ks m L) → R (.ok (.ret .none)) sh2) → codeAny (model pr ww) A (.builtin "set.update.loop" ⟨[.ref D, .ref I], []⟩) R sh := by
  have hDw : D ∉ wr := fun z => hD (Wk.sub _ z)
  have up : ∀ b ∈ wr, b ∈ D :: wr := fun b z => List.mem_cons_of_mem _ z
  have hold : ∀ {a b : Shared}, Moved wr G a b → (∀ c o, h0.get? c = some o → a.heap.get? c = some o) → ∀ c o, h0.get? c = some o → b.heap.get? c = some o := fun mv k c o e =>
    mv.heap c o (fun z => by rw [hwr c z] at e; cases e) (k c o e)
  intro left
  induction left with
  | zero =>
    intro i sh z0 hi st k0 ⟨L, es, ep, t, hS, g⟩ fin
    have e : i = m := by omega
    subst e
    (refine codeAny_builtin F.entry_set_update_loop ?_; rw [Around.under_plainId F.plain_set_update_loop _])
    show wpAny _ A.in1 (pyNext (.ref I) >>= _) _ _ sh
    refine wpAny_bind (Wk.done sh _ _ st fun sh2 mv => ?_)
    show wpAny _ A.in1 (ret Value.none) _ _ sh2
    exact wpAny_pure (fin sh2 (mv.mono up) ⟨L, es, ep, t, hS.keep (fun o e => mv.heap D o hDw e) fun p hp => (isn p (List.mem_of_mem_take (g.sub p hp))).keep (hold mv k0), g⟩)
  | succ left ih =>
    intro i sh z0 hi st k0 ⟨L, es, ep, t, hS, g⟩ fin
    have lt : i < m := by omega
    (refine codeAny_builtin F.entry_set_update_loop ?_; rw [Around.under_plainId F.plain_set_update_loop _])
    show wpAny _ A.in1 (pyNext (.ref I) >>= _) _ _ sh
    refine wpAny_bind (Wk.item i sh _ _ lt st fun v sh2 hv st2 mv => ?_)
    obtain ⟨x, hx, rfl⟩ := hP i v hv
    have k2 := hold mv k0
    have hS2 : SetN ww sh2.heap D L es ep t := hS.keep (fun o e => mv.heap D o hDw e) fun p hp => (isn p (List.mem_of_mem_take (g.sub p hp))).keep k2
    have hx2 := (isn x (List.mem_of_getElem? hx)).keep k2
    show wpAny _ A.in1 (holding [Value.ref x.1] (setAdd D (.ref x.1)) >>= _) _ _ sh2
    (refine wpAny_bind (wpAny_holding ?_); unfold setAdd)
    refine wpAny_holding (wpAny_bind ((nestedKind pr ww).pyHash (k := x.2) hu ⟨hx2.at_, hx2.dep⟩ ?_))
    have l1 := g.len
    refine add_k (s := { sh2 with toks := sh2.toks + (nestedKind pr ww).draws x.2 }) hS2 (by omega) hx2 hu fun b h3 L3 es3 ep3 t3 same hS3 c1 c2 => ?_
    have g3 : Got ks (i + 1) L3 := by
      by_cases c : x.2 ∈ L.map (·.2)
      · rw [c1 c]; exact g.in hx c
      · exact g.new hx (c2 c)
    refine wpAny_pure ⟨plainId_quiet F.plain_set_update_loop _, ih (i + 1) _ (by omega) lt (Wk.frame _ sh2 _ _ st2 (Nat.le_add_right _ _) fun b z o e => (same.2 b fun q : b = D => hD (q ▸ z)).trans e)
      (fun b o e => (same.2 b fun q => by subst q; rw [hD0] at e; cases e).trans (k2 b o e)) ⟨L3, es3, ep3, t3, hS3, g3⟩ fun sh3 mv3 hS5 => fin sh3 (Moved.trans Wk.gtrans ((mv.mono up).then_heap (Nat.le_add_right _ _) fun b o z e => (same.2 b fun q : b = D => z (by rw [q]; exact List.mem_cons_self)).trans e) mv3) hS5⟩
variable {E : Value → Shared → Prop} {sh : Shared}
set_option maxHeartbeats 3300000 in
theorem newN {ad : Addr} {its : Array Value} {ks : Mem} {Q : Value → Shared → Prop} (noExc : A.handled = none) (hu : A.units + 20 < cLine) (hseq : sh.heap.IsList ad its) (tx : its.toList = ks.map fun p => Value.ref p.1) (isn : ∀ p ∈ ks, IsN sh.heap p.2 p.1) (few : ks.length ≤ 3)
    (fin : ∀ (h2 : Heap) (t2 : Nat), (∃ L es ep t, SetN ww h2 sh.heap.objs.size L es ep t ∧ Got ks ks.length L) → (∀ b o, b < sh.heap.objs.size → sh.heap.get? b = some o → h2.get? b = some o) → Q (.ref sh.heap.objs.size) { sh with heap := h2, toks := t2 }) : wpAny (model pr ww) A (call (.type "set") [.ref ad]) Q E sh := by
  obtain ⟨cc, rest, mro⟩ := F.called_set.mro
  have made := F.called_set.made
  have subS := F.called_set.sub
  (refine wpAny_call (codeAny_of_tree ?_); show wpAny _ _ (callAny (.type "set") _) _ _ sh; refine wpAny_pure ⟨Code.quiet_builtin _ (by decide +kernel), codeAny_builtin F.entry_type_call ?_⟩)
  rw [Around.under_plain (weight_type_call_type "set" [.ref ad] []) rfl]
  have n1 := F.called_set.notType
  have n2 := F.called_set.canCreate
  have n3 := F.typeCall_set_1 (.ref ad)
  repeat any_goals first | assumption | wp_step
  refine codeAny_mono (code_set_led1 (.ref ad) (E := E) (Q₁ := fun ob sh1 => ob = .ref sh.heap.objs.size ∧ sh1 = { sh with heap := sh.heap.push (bare (!ww.params.followText "set-order")) }) ⟨rfl, rfl⟩) fun r sh1 hr => ?_
  rcases r with ex | fl
  · exact hr
  cases fl with
  | ret ob =>
    obtain ⟨rfl, rfl⟩ := hr
    have at0 : (sh.heap.push (bare (!ww.params.followText "set-order"))).get? sh.heap.objs.size = some (bare (!ww.params.followText "set-order")) := Heap.get?_push_size _ rfl
    have ty0 : Shared.TypeIs { sh with heap := sh.heap.push (bare (!ww.params.followText "set-order")) } (.ref sh.heap.objs.size) "set" := ⟨_, at0, rfl⟩
    have in1 := F.called_set.init.lookup
    have in2 := F.called_set.init.bind (.ref sh.heap.objs.size)
    repeat any_goals first | assumption | wp_step
    refine codeAny_mono (codeAny_call_builtin (R := wants (fun r sh2 => r = .none ∧ ∃ h2 t2, sh2 = { sh with heap := h2, toks := t2 } ∧ (∃ L es ep t, SetN ww h2 sh.heap.objs.size L es ep t ∧ Got ks ks.length L) ∧ (∀ b o, b < sh.heap.objs.size → sh.heap.get? b = some o → h2.get? b = some o)) E) F.called_set.init.plain F.entry_set_init (check_set_init_1 ty0 ?_)) fun r2 sh2 hr2 => ?_
    · obtain ⟨⟨oc, odt, oda, osl⟩, hol, hcl, nl, hdl⟩ := hseq
      simp only at hcl hdl
      subst hcl hdl
      have hol2 : (sh.heap.push (bare (!ww.params.followText "set-order"))).get? ad = some { cls := .type "list", dict := odt, data := .seq its nl, slots := osl } := Heap.get?_push_of_some _ hol
      have sub1 := PySem.F.sub_list_set
      have sub2 := PySem.F.sub_list_frozenset
      have neD : (Value.type "list" == Value.type "dict") = false := by decide
      have seq2 : (sh.heap.push (bare (!ww.params.followText "set-order"))).IsList ad its := ⟨_, hol2, rfl, nl, rfl⟩
      (unfold Builtin.«set.__init__» noKeywords Builtin.Frozenset.updateFrom; generalize ePI : pyIter = PI)
      wp_walk
      subst ePI
      refine wpAny_pyIter_list seq2 (wpAny_bind (wpAny_runValue ?_))
      have adLt : ad < sh.heap.objs.size := Heap.lt_size hol
      have noExc3 : A.in1.in1.in1.handled = none := by simp [noExc]
      have apart : ad ≠ (sh.heap.push (bare (!ww.params.followText "set-order"))).objs.size := by rw [Heap.size_push]; exact Nat.ne_of_lt (Nat.lt_succ_of_lt adLt)
      have out : sh.heap.objs.size ∉ [(sh.heap.push (bare (!ww.params.followText "set-order"))).objs.size, ad] := by
        rw [Heap.size_push]
        simp only [List.mem_cons, List.mem_singleton, List.not_mem_nil, or_false, not_or]
        exact ⟨Nat.ne_of_lt (Nat.lt_succ_self _), Nat.ne_of_gt adLt⟩
      have few2 : ks.length = its.size := by rw [← Array.length_toList, tx, List.length_map]
      have each : ∀ (i : Nat) (v : Value), its[i]? = some v → ∃ p, ks[i]? = some p ∧ v = .ref p.1 := fun i v hv => by
        rw [← Array.getElem?_toList, tx, List.getElem?_map] at hv
        cases hk : ks[i]? with
        | none => rw [hk] at hv; cases hv
        | some p => rw [hk] at hv; exact ⟨p, rfl, (Option.some.inj hv).symm⟩
      have hwn : ∀ b ∈ [(sh.heap.push (bare (!ww.params.followText "set-order"))).objs.size], sh.heap.get? b = none := fun b hb => by
        rw [List.mem_singleton.mp hb, Heap.size_push]
        exact none_at (Nat.le_succ _)
      refine fillN ((Walks.list noExc3 _ ad apart its).toS) out ks few2 few each isn (none_at (Nat.le_refl _)) hwn (by show A.units + 1 + 1 + 1 + 8 < cLine; omega) (its.size - 0) 0 _ (by omega) (Nat.zero_le _) ⟨⟨_, Heap.get?_push_size _ rfl, rfl, rfl⟩, seq2.push _⟩ (fun b o e => Heap.get?_push_of_some _ (Heap.get?_push_of_some _ e)) ?begin ?after
      case begin =>
        have at1 : ((sh.heap.push (bare (!ww.params.followText "set-order"))).push { cls := .type "list_iterator", data := .fields #[.ref ad, .int 0 0] }).get? sh.heap.objs.size = some (bare (!ww.params.followText "set-order")) := Heap.get?_push_of_some _ at0
        exact ⟨[], #[], 0, _, fresh_n at1, Got.zero ks⟩
      case after =>
        intro sh3 mv hS
        obtain ⟨h3, g3, d3, t3, o3⟩ := sh3
        have eg : g3 = sh.gens := mv.gens
        have ed : d3 = sh.drawn := mv.drawn
        have eo : o3 = sh.os := mv.os
        subst eg ed eo
        show wpAny _ _ _ _ _ _
        (refine wpAny_pure ?_; show wpAny _ _ (ret Value.none) _ _ _)
        refine wpAny_pure ⟨rfl, h3, t3, rfl, (by rw [few2]; exact hS), fun b o hb e => mv.heap b o ?_ (Heap.get?_push_of_some _ (Heap.get?_push_of_some _ e))⟩
        have b1 : b ≠ sh.heap.objs.size := Nat.ne_of_lt hb
        have b2 : b ≠ (sh.heap.push (bare (!ww.params.followText "set-order"))).objs.size := by rw [Heap.size_push]; exact Nat.ne_of_lt (Nat.lt_succ_of_lt hb)
        simp only [List.mem_cons, List.mem_singleton, List.not_mem_nil, or_false, not_or]
        exact ⟨b1, b2⟩
    · rcases r2 with ex | fl2
      · exact hr2
      cases fl2 with
      | ret r =>
        obtain ⟨rfl, h2, t2, rfl, hS, hk⟩ := hr2
        repeat any_goals first | assumption | wp_step
        exact fin _ _ hS hk
      | _ => exact hr2.elim
  | _ => exact hr.elim
end
end NS
set_option Elab.async false
set_option linter.all false
set_option maxRecDepth 100000
/-! sorted(set(patterns)). -/
namespace K1
open PySem PySem.Spec L2 Dv PyProof.Rows
def prK (q : Str × Str) : NestedKey := .tup [.text q.1, .text q.2]
def patK (p : Pat) : NestedKey := .tup (p.map prK)
theorem prK_inj {a b : Str × Str} (h : prK a = prK b) : a = b := by
  unfold prK at h
  injection h with h
  injection h with h1 h2
  injection h2 with h2 _
  injection h1 with h1
  injection h2 with h2
  exact Prod.ext h1 h2
theorem patK_inj {p q : Pat} (h : patK p = patK q) : p = q := by
  unfold patK at h
  injection h with h
  exact List.map_inj_right (fun a b e => prK_inj e) |>.mp h
theorem prs_dep : ∀ p : Pat, NestedKey.depthAll (p.map prK) ≤ 1
  | [] => by simp [NestedKey.depthAll]
  | q :: p => by
    have := prs_dep p
    simp only [List.map_cons, NestedKey.depthAll, prK, NestedKey.depth]
    omega
theorem patK_dep (p : Pat) : (patK p).depth ≤ 8 := by
  have := prs_dep p
  unfold patK
  simp only [NestedKey.depth]
  omega
theorem prs_tx : ∀ p : Pat, NS.txs (p.map prK) = true
  | [] => by simp [NS.txs]
  | q :: p => by simp [NS.txs, NS.tx, prK, prs_tx p]
theorem patK_tx (p : Pat) : NS.tx (patK p) = true := by
  unfold patK NS.tx
  exact prs_tx p
section
variable {X : Cx} {pins : List (Addr × Obj)} {σ : L2.St} {H : Hp} {s : Shared}
theorem key_pr (I : L2.Inv X pins σ H s) {q : Str × Str} {v : V} {u : Value} (d : Den X.K H (prW q) v) (r : RelV v u) : NestedIs s.heap (prK q) u := by
  obtain ⟨a, xs, e, sq, dx⟩ := d
  subst e
  have r : u = .ref a := r
  subst r
  obtain ⟨its, rv, ⟨o, ho, hc, n, hd⟩, _⟩ := I.tuple sq
  have e2 := denAll_str (bs := [q.1, q.2]) dx
  subst e2
  refine .tup ho hc hd ?_
  cases rv with
  | cons r1 rv =>
  cases rv with
  | cons r2 rv =>
  cases rv
  obtain ⟨t1, e1⟩ := r1
  obtain ⟨t2, e2⟩ := r2
  subst e1 e2
  exact .cons (.text _ _) (.cons (.text _ _) .nil)
theorem key_prs (I : L2.Inv X pins σ H s) : ∀ {p : Pat} {xs : List V} {us : List Value}, DenAll X.K H (p.map prW) xs → Vals xs us → NestedAll s.heap (p.map prK) us
  | [], _, _, d, r => by
    have d : _ = [] := d
    subst d
    cases r
    exact .nil
  | q :: p, _, _, ⟨v, vs, e, d1, d2⟩, r => by
    subst e
    cases r with
    | cons r1 r2 => exact .cons (key_pr I d1 r1) (key_prs I d2 r2)
theorem key_pt (I : L2.Inv X pins σ H s) {p : Pat} {b : Addr} (d : Den X.K H (ptW p) (.ref b)) : NS.IsN s.heap (patK p) b := by
  obtain ⟨a, xs, e, sq, dx⟩ := d
  injection e with e
  subst e
  obtain ⟨its, rv, ⟨o, ho, hc, n, hd⟩, _⟩ := I.tuple sq
  exact ⟨.tup ho hc hd (by simpa using key_prs I dx rv), patK_dep p, patK_tx p⟩
theorem pts_of {K : PySem.W.Frag} : ∀ {ps : List Pat} {xs : List V}, DenAll K H (ps.map ptW) xs → ∃ bs : List (Addr × Pat), xs = bs.map (fun b => V.ref b.1) ∧ bs.map (·.2) = ps ∧ ∀ b ∈ bs, Den K H (ptW b.2) (.ref b.1)
  | [], xs, d => by
    have d : xs = [] := d
    subst d
    exact ⟨[], rfl, rfl, fun b hb => (by cases hb)⟩
  | p :: ps, _, ⟨v, vs, e, d1, d2⟩ => by
    obtain ⟨bs, e1, e2, hb⟩ := pts_of d2
    obtain ⟨a, ys, e3, sq, dy⟩ := id d1
    subst e e3
    refine ⟨(a, p) :: bs, by rw [List.map_cons, e1], by rw [List.map_cons, e2], fun b h => ?_⟩
    rcases List.mem_cons.mp h with z | z
    · rw [z]; exact d1
    · exact hb b z
theorem den_pts {K : PySem.W.Frag} : ∀ {bs : List (Addr × Pat)}, (∀ b ∈ bs, Den K H (ptW b.2) (.ref b.1)) → DenAll K H ((bs.map (·.2)).map ptW) (bs.map fun b => V.ref b.1)
  | [], _ => rfl
  | b :: bs, h => ⟨_, _, rfl, h b (by simp), den_pts fun c hc => h c (by simp [hc])⟩
theorem vals_pts : ∀ (bs : List (Addr × Pat)), Vals (bs.map fun b => V.ref b.1) (bs.map fun b => Value.ref b.1)
  | [] => .nil
  | b :: bs => .cons rfl (vals_pts bs)
theorem vals_inj2 : ∀ (bs : List (Addr × Pat)) {us : List Value}, Vals (bs.map fun b => V.ref b.1) us → us = bs.map fun b => Value.ref b.1
  | [], _, r => by cases r; rfl
  | b :: bs, _, r => by
    cases r with
    | cons r1 r2 =>
      have r1 : _ = Value.ref b.1 := r1
      rw [r1, vals_inj2 bs r2, List.map_cons]
theorem each_self {α β : Type} {R : α → β → Prop} (f : β → α) : ∀ {bs : List β}, (∀ b ∈ bs, R (f b) b) → PySem.W.EachIs R (bs.map f) bs
  | [], _ => .nil
  | b :: bs, h => .cons (h b (by simp)) (each_self f fun c hc => h c (by simp [hc]))
end
/-- of two patterns that differ one is less -/
theorem toks_pr (q : Str × Str) : PySem.W.keyToks (dat (prW q)) = [.inl 1, .inr q.1.cps.toList, .inl 1, .inr q.2.cps.toList, .inl 0] := by
  simp [prW, dat, dats, PySem.W.keyToks, PySem.W.keyToksAll]
theorem toks_inj : ∀ {p q : Pat}, PySem.W.keyToksAll (dats (p.map prW)) = PySem.W.keyToksAll (dats (q.map prW)) → p = q
  | [], [], _ => rfl
  | [], y :: q, h => by simp [dats, PySem.W.keyToksAll] at h
  | x :: p, [], h => by simp [dats, PySem.W.keyToksAll] at h
  | x :: p, y :: q, h => by
    simp only [List.map_cons, dats, PySem.W.keyToksAll, toks_pr, List.cons_append, List.nil_append, List.cons.injEq, Sum.inr.injEq, true_and] at h
    obtain ⟨h1, h2, h3⟩ := h
    rw [toks_inj h3, Prod.ext (PySem.W.str_of_cps h1) (PySem.W.str_of_cps h2)]
theorem pt_apart {p q : Pat} (h : p ≠ q) : ltD (ptW p, ptW q) = true ∨ ltD (ptW q, ptW p) = true := by
  show PySem.W.dataLt (dat (ptW p)) (dat (ptW q)) = true ∨ PySem.W.dataLt (dat (ptW q)) (dat (ptW p)) = true
  unfold ptW
  simp only [dat]
  rw [PySem.W.dataLt_tuple, PySem.W.dataLt_tuple]
  rcases hb : PyProof.Rows.lexLt itemOrd (PySem.W.keyToksAll (dats (p.map prW))) (PySem.W.keyToksAll (dats (q.map prW))) with _ | _
  · rcases hc : PyProof.Rows.lexLt itemOrd (PySem.W.keyToksAll (dats (q.map prW))) (PySem.W.keyToksAll (dats (p.map prW))) with _ | _
    · exact absurd (toks_inj (lex_total (O := itemOrd) _ _ hb hc)) h
    · exact .inr rfl
  · exact .inl rfl
theorem sort_pts {ps : List Pat} (h : ∀ p ∈ ps, p ≠ []) : PySem.W.AllAlike (ps.map fun p => dat (ptW p)) ∧ PySem.W.Sortable (ps.map fun p => dat (ptW p)) := by
  refine ⟨fun d hd d' hd' => ?_, .inl fun d hd => ?_⟩
  · obtain ⟨p, _, rfl⟩ := List.mem_map.mp hd
    obtain ⟨q, _, rfl⟩ := List.mem_map.mp hd'
    exact alike_pt p q
  · obtain ⟨p, hp, rfl⟩ := List.mem_map.mp hd
    have := h p hp
    cases p with
    | nil => exact absurd rfl this
    | cons q p => exact ⟨_, _, rfl⟩
def tSortSet (K : PySem.W.Frag) (ta : TE) : TE := fun σ H Q => ta σ H fun x H1 => ∃ (l : Addr) (xs : List V) (ps : List Pat), x = .ref l ∧ SqL K H1 l xs ∧ DenAll K H1 (ps.map ptW) xs ∧ ps.length ≤ 3 ∧ (∀ p ∈ ps, p ≠ []) ∧
  ∀ (y : Addr) ys (qs : List Pat), H1 y = none → DenAll K H1 (qs.map ptW) ys → (∀ q ∈ qs, q ∈ ps) → rising (qs.map ptW) = true → (ps ≠ [] → qs ≠ []) → qs.length ≤ 3 → Q (.ref y) (upd H1 y (.lst ys))
set_option maxHeartbeats 1000000 in
theorem pe_sortSet {X : Cx} {a : Expr} {ta : TE} {p p2 q pos : Pos} {j : Nat} (hr : Room j X.A) (hc : X.calm = true) (hg : Gl X "sorted") (hm : X.mg "sorted" = none) (hg2 : Gl X "set") (hm2 : X.mg "set" = none) (ha : PE X a ta) (na : starEach [a] X.env = (false, eval a X.env) :: starEach [] X.env := by rfl) :
    PE X (.Call (.Name "sorted" p) [.Call (.Name "set" p2) [a] [] q] [] pos) (tSortSet X.K ta) := by
  refine ⟨fun pins s σ H Q I h => Call_ (ld_blt I hg hm boot_sorted (PyProof.Rows.callWith_builtin1 (PyProof.Rows.args_cons (Call_ (ld_blt I hg2 hm2 boot_set (PyProof.Rows.callWith_type1 (PyProof.Rows.args_cons (thn (ha.run pins s σ H _ I h) fun v s1 ⟨x, H1, I1, r1, l, xs, ps, ex, hq, dx, l3, ne, qq⟩ => PyProof.Rows.args_nil ?_) na) na rfl))) rfl) rfl rfl))⟩
  subst ex
  cases r1
  obtain ⟨itms, rv, pl, hz⟩ := I1.list hq
  obtain ⟨ks, ek, e2, dk⟩ := pts_of dx
  subst ek e2
  have ev : itms = ks.map fun b => Value.ref b.1 := by
    exact vals_inj2 ks rv
  subst ev
  have un := hr.un
  refine NS.newN (ks := ks.map fun b => (b.1, patK b.2)) (I1.ok.hd hc) (by omega) pl.isList (by simp) (fun p hp => ?_) (by rw [List.length_map]; rw [List.length_map] at l3; exact l3) fun h' tk ⟨L, es, ep, t, R, g⟩ hk => ?_
  · obtain ⟨b, hb, rfl⟩ := List.mem_map.mp hp
    exact key_pt I1 (dk b hb)
  refine PyProof.Rows.args_nil ?_
  have J : L2.Inv X pins σ H1 { s1 with heap := h', toks := tk } := I1.kept fun b ob z => hk b ob (Heap.lt_size z) z
  have noExc : X.A.handled = none := I1.ok.hd hc
  obtain ⟨o, ho, hex, hd⟩ := id R.ob
  have LL : ∀ p ∈ L, ∃ b ∈ ks, p = (b.1, patK b.2) := fun p hp => by
    obtain ⟨b, hb, e⟩ := List.mem_map.mp (List.mem_of_mem_take (g.sub p hp))
    exact ⟨b, hb, e.symm⟩
  have eref : es.toList.map (·.2) = L.map fun p => Value.ref p.1 := by
    rw [R.rows, List.map_map]
    rfl
  have one : ∀ p ∈ L, ∀ r ∈ L, p.1 = r.1 → p = r := fun p hp r hr e => by
    have a1 := (R.tup p hp).at_
    have a2 := (R.tup r hr).at_
    rw [e] at a1
    exact Prod.ext e (NestedIs.inj _ _ _ a1 a2)
  have nL : (L.map (·.1)).Nodup := by
    refine List.pairwise_map.mpr (List.Pairwise.imp_of_mem (fun {p r} hp hr hne e => hne (by rw [one p hp r hr e])) (List.pairwise_map.mp R.nd))
  have bsOf : ∀ vs : List Value, (∀ v ∈ vs, ∃ p ∈ L, v = Value.ref p.1) → ∃ bs : List (Addr × Pat), vs = bs.map (fun b => Value.ref b.1) ∧ ∀ b ∈ bs, b ∈ ks ∧ (b.1, patK b.2) ∈ L := by
    intro vs
    induction vs with
    | nil => exact fun _ => ⟨[], rfl, fun b hb => (by cases hb)⟩
    | cons v vs ih =>
      intro hv
      obtain ⟨p, hp, e⟩ := hv v (by simp)
      obtain ⟨b, hb, e3⟩ := LL p hp
      obtain ⟨bs, e1, hs⟩ := ih fun u hu => hv u (by simp [hu])
      refine ⟨b :: bs, by rw [List.map_cons, e, e1, e3], fun c hc => ?_⟩
      rcases List.mem_cons.mp hc with z | z
      · rw [z]; exact ⟨hb, e3 ▸ hp⟩
      · exact hs c z
  refine SortT.sorted_by (β := Addr × Pat) (enc := fun b => dat (ptW b.2)) (R := fun u b => u = .ref b.1) (OK := fun vs s2 => vs.Perm (es.toList.map (·.2)) ∧ (∀ b u, h'.get? b = some u → s2.heap.get? b = some u) ∧ h'.objs.size ≤ s2.heap.objs.size ∧ s2.gens = s1.gens ∧ s2.os = s1.os)
    (fun h => L2.collect_set (s := { s1 with heap := h', toks := tk }) (by simp [noExc]) ⟨o, ho, hex.1, hd⟩ R.fits (by rw [R.size]; have := R.few; unfold scanBound; omega) R.tab.ris R.led fun s2 vs k1 hz g1 o1 pm => h vs s2 ⟨pm, k1, hz, g1, o1⟩) ?_
  rintro vs s2 ⟨pm, k1, z1, g1, o1⟩
  rw [eref] at pm
  obtain ⟨bs, evs, hbs⟩ := bsOf vs fun v hv => by
    obtain ⟨p, hp, e⟩ := List.mem_map.mp (pm.mem_iff.mp hv)
    exact ⟨p, hp, e.symm⟩
  subst evs
  have blen : bs.length = L.length := by
    have := pm.length_eq
    rwa [List.length_map, List.length_map] at this
  have bnd : (bs.map (·.1)).Nodup := by
    have p2 : ((bs.map (·.1)).map Value.ref).Perm ((L.map (·.1)).map Value.ref) := by
      rw [List.map_map, List.map_map]; exact pm
    have n2 := (p2.nodup_iff).mpr (List.pairwise_map.mpr (nL.imp fun {x y} h e => h (by injection e)))
    exact (List.pairwise_map.mp n2).imp fun {x y} h e => h (by rw [e])
  have bpat : bs.Pairwise fun b c => b.2 ≠ c.2 := by
    refine List.Pairwise.imp_of_mem (fun {b c} hb hc hne e => ?_) (List.pairwise_map.mp bnd)
    have m1 := (hbs b hb).2
    have m2 := (hbs c hc).2
    obtain ⟨i, hi, ei⟩ := List.getElem_of_mem m1
    obtain ⟨j, hj, ej⟩ := List.getElem_of_mem m2
    have nd := R.nd
    have : i = j := by
      refine (List.getElem_inj (xs := L.map (·.2)) (h₀ := by rw [List.length_map]; exact hi) (h₁ := by rw [List.length_map]; exact hj) nd).mp ?_
      rw [List.getElem_map, List.getElem_map, ei, ej]
      show patK b.2 = patK c.2
      rw [e]
    subst this
    rw [ei] at ej
    injection ej with e1 _
    exact hne e1
  have I2 : ∀ h2 : Heap, (∀ b u, s2.heap.get? b = some u → h2.get? b = some u) → ∀ b u, h'.get? b = some u → h2.get? b = some u := fun h2 k b u e => k b u (k1 b u e)
  have few := R.few
  have nes : ∀ p ∈ bs.map (·.2), p ≠ [] := fun p hp => by
    obtain ⟨b, hb, rfl⟩ := List.mem_map.mp hp
    exact ne b.2 (List.mem_map.mpr ⟨b, (hbs b hb).1, rfl⟩)
  refine ⟨bs, each_self _ fun b _ => rfl, each_self _ fun b hb => ?_, ?_, ?_, by rw [blen]; exact Nat.le_trans few (by decide), fun b hb => ?_, fun out c h2 hl he k2 hcc => ?_⟩
  · obtain ⟨as, rd⟩ := Dp.reads J (dat (ptW b.2)) (.ref b.1) _ (Den.dp (ptW b.2) (plain_pt b.2) (dk b (hbs b hb).1)) rfl
    exact ⟨as, PyProof.Rows.Reads.keeps k1 rd⟩
  · have := (sort_pts (ps := bs.map (·.2)) nes).1
    rwa [List.map_map] at this
  · have := (sort_pts (ps := bs.map (·.2)) nes).2
    rwa [List.map_map] at this
  · have := depth_pt b.2
    omega
  · have hp : h'.objs.size ≤ s2.heap.objs.size := z1
    have hn : H1 s2.heap.objs.size = none := J.hok.fresh hp
    have eo : out = (bs.mergeSort (PySem.W.dataLe false fun b : Addr × Pat => dat (ptW b.2))).map fun b => Value.ref b.1 := by
      generalize bs.mergeSort (PySem.W.dataLe false fun b : Addr × Pat => dat (ptW b.2)) = cs at he
      clear hl hcc
      induction he with
      | nil => rfl
      | cons r _ ih => rw [r, ih]; rfl
    have prm := List.mergeSort_perm bs (PySem.W.dataLe false fun b : Addr × Pat => dat (ptW b.2))
    have up := sorted_up (fun b : Addr × Pat => ptW b.2) (l := bs) (bpat.imp fun {b c} h => pt_apart h)
    change (bs.mergeSort (PySem.W.dataLe false fun b : Addr × Pat => dat (ptW b.2))).Pairwise _ at up
    generalize bs.mergeSort (PySem.W.dataLe false fun b : Addr × Pat => dat (ptW b.2)) = cs at eo prm up
    have mem : ∀ b ∈ cs, b ∈ ks := fun b hb => (hbs b (prm.mem_iff.mp hb)).1
    have clen : cs.length ≤ 3 := by
      have h1 := prm.length_eq
      have h2 := g.len
      rw [List.length_map] at h2 l3
      omega
    have kk : ∀ b u, h'.get? b = some u → h2.get? b = some u := I2 h2 k2
    have JJ : L2.Inv X pins σ (upd H1 s2.heap.objs.size (.lst (cs.map fun b => V.ref b.1))) { s1 with heap := h2, gens := s2.gens, drawn := s2.drawn, toks := s2.toks } :=
      L2.Inv.call (s := { s1 with heap := h', toks := tk }) (ch := []) J (Un.laid kk hp hn) (J.hok.laid kk hp ⟨by rw [List.length_map]; exact Nat.le_trans clen (by decide), out, c, by rw [eo]; exact vals_pts cs, hcc⟩) (by rw [g1]; exact I1.bare) (fun _ z => nomatch z)
    have e : { s2 with heap := h2 } = { s1 with heap := h2, gens := s2.gens, drawn := s2.drawn, toks := s2.toks } := by
      cases s2
      cases s1
      cases o1
      rfl
    rw [e]
    refine ⟨.ref s2.heap.objs.size, _, JJ, rfl, qq _ _ (cs.map (·.2)) hn (den_pts fun b hb => dk b (mem b hb)) (fun q hq => ?_) (rising_of ?_) (fun hne hz => ?_) (by rw [List.length_map]; exact clen)⟩
    · obtain ⟨b, hb, rfl⟩ := List.mem_map.mp hq
      exact List.mem_map.mpr ⟨b, mem b hb, rfl⟩
    · rw [List.map_map, List.pairwise_map]
      exact up
    · have h1 := prm.length_eq
      have h2 : cs = [] := by cases cs with
        | nil => rfl
        | cons b cs => cases hz
      rw [h2] at h1
      have h3 : L = [] := List.length_eq_zero_iff.mp (by rw [← blen, ← h1]; rfl)
      refine g.any ?_ h3
      rw [List.length_map]
      cases ks with
      | nil => exact absurd rfl hne
      | cons b ks => exact Nat.succ_pos _
end K1
namespace Dv
open PySem L2 K1
theorem se_sortSet {X : Cx} {e : Expr} {G : Gs} {mu : Mu} {p p2 q pos : Pos} {P : PW1} {j : Nat} (hr : Room j X.A) (h : SE X e G mu fun w mu1 => ∃ a ps, w = .m a ∧ mu1 a = some (.lst (ps.map ptW)) ∧ ps.length ≤ 3 ∧ (∀ p ∈ ps, p ≠ []) ∧
      ∀ y qs, mu1 y = none → (∀ q ∈ qs, q ∈ ps) → rising (qs.map ptW) = true → (ps ≠ [] → qs ≠ []) → qs.length ≤ 3 → P (.m y) (setM mu1 y (.lst (qs.map ptW))))
    (hm : X.mg "sorted" = none) (hm2 : X.mg "set" = none) (hc : X.calm = true := by rfl) (hg : Gl X "sorted" := by rfl) (hg2 : Gl X "set" := by rfl) (na : starEach [e] X.env = (false, eval e X.env) :: starEach [] X.env := by rfl) : SE X (.Call (.Name "sorted" p) [.Call (.Name "set" p2) [e] [] q] [] pos) G mu P :=
  SE.mk (pe_sortSet hr hc hg hm hg2 hm2 peE na) fun σ H Q d m k => h σ H _ d m fun v w mu1 H1 h1 c1 d1 m1 => by
    obtain ⟨a, ps, hw, ha, l3, ne, qq⟩ := h1
    subst hw
    have d1 : v = .ref a := d1
    subst d1
    obtain ⟨xs, hx, dx⟩ := m1 a _ ha
    refine ⟨a, xs, ps, rfl, SqL.of hx, dx, l3, ne, fun y ys qs hy dy h1 h2 h3 h4 => ?_⟩
    obtain ⟨c2, m2⟩ := laidC (o := .lst ys) (c := .lst (qs.map ptW)) m1 hy (newLst dy)
    exact (k.step c1) _ _ _ _ (qq y qs (m1.dom hy) h1 h2 h3 h4) c2 rfl m2
end Dv
set_option Elab.async false
set_option linter.all false
set_option maxRecDepth 100000
/-! What _law_parts draws: facts. -/
namespace K1
open PySem L2 Dv
theorem sIx_pos {n d : Nat} {i : Int} (h : 0 ≤ i) : HT.sIx n d (some i) = min i.toNat n := by
  obtain ⟨k, rfl⟩ : ∃ k : Nat, i = k := ⟨i.toNat, by omega⟩
  rw [HT.sIx_nat, Int.toNat_natCast]
theorem cut_to {us : List W} {i : Int} (h : 0 ≤ i) : cutW us none (some i) = us.take i.toNat := by
  unfold cutW
  rw [sIx_pos h, HT.sIx_none, Nat.sub_zero, List.drop_zero]
  exact (List.take_eq_take_min ..).symm
theorem cut_mid {us : List W} {i j : Int} (hi : 0 ≤ i) (hl : i.toNat ≤ us.length) (hj : 0 ≤ j) : cutW us (some i) (some j) = (us.drop i.toNat).take (j.toNat - i.toNat) := by
  unfold cutW
  rw [sIx_pos hi, sIx_pos hj, Nat.min_eq_left hl]
  rw [List.take_eq_take_min (i := j.toNat - i.toNat), List.length_drop]
  congr 1
  omega
theorem st_take (ns : List Str) (n : Nat) : (stW ns).take n = stW (ns.take n) := by unfold stW; rw [List.map_take]
theorem st_drop (ns : List Str) (n : Nat) : (stW ns).drop n = stW (ns.drop n) := by unfold stW; rw [List.map_drop]
/-- the slots, made from the first i names -/
structure Lots (hs ns : List Str) (i : Nat) (ss : List Slot) : Prop where
  each : ∀ s ∈ ss, SlOk hs s
  nm : (ss.map (·.1)).Sublist (ns.take i)
  many : manyS ss ≤ 32
  any : 0 < i → ss ≠ []
theorem Lots.zero (hs ns : List Str) : Lots hs ns 0 [] := ⟨fun s h => (by cases h), by simp, by decide, fun h => absurd h (Nat.lt_irrefl _)⟩
theorem Lots.len {hs ns : List Str} {i : Nat} {ss : List Slot} (h : Lots hs ns i ss) : ss.length ≤ i := by
  have := h.nm.length_le
  rw [List.length_map, List.length_take] at this
  omega
theorem Lots.add {hs ns : List Str} {i : Nat} {ss : List Slot} {s : Slot} (h : Lots hs ns i ss) (hn : ns[i]? = some s.1) (ok : SlOk hs s) (m : manyS ss * s.2.2.length ≤ 32) : Lots hs ns (i + 1) (ss ++ [s]) where
  each := fun t ht => by
    rcases List.mem_append.mp ht with ht | ht
    · exact h.each t ht
    · rw [List.mem_singleton.mp ht]; exact ok
  nm := by
    rw [List.map_append, List.take_add_one, hn]
    exact h.nm.append (List.Sublist.refl _)
  many := by
    rw [manyS_append]
    simpa [manyS] using m
  any := fun _ z => by simp at z
theorem Lots.skip {hs ns : List Str} {i : Nat} {ss : List Slot} (h : Lots hs ns i ss) (m : ss ≠ []) : Lots hs ns (i + 1) ss where
  each := h.each
  nm := h.nm.trans (by rw [List.take_add_one]; exact List.sublist_append_left ..)
  many := h.many
  any := fun _ => m
theorem Lots.ok {hs ns : List Str} {i : Nat} {ss : List Slot} (h : Lots hs ns i ss) (hi : 0 < i) (h6 : i ≤ 6) (nd : ns.Nodup) : SsOk hs ss where
  lo := by
    have := h.any hi
    cases ss with
    | nil => exact absurd rfl this
    | cons s r => simp
  hi := Nat.le_trans h.len h6
  each := h.each
  nd := (h.nm.trans (List.take_sublist ..)).nodup nd
  many := h.many
/-- the state: the jar, the names, the slots -/
structure At (mu : Mu) (p N T : Addr) (ns : List Str) (ss : List Slot) (mu' : Mu) (c : Nat) : Prop where
  jar : JarOk mu' p c
  nam : mu' N = some (.lst (stW ns))
  lot : mu' T = some (.lst (ss.map slW1))
  ex : ExtBut p mu mu'
section
variable {mu mu' mu2 : Mu} {p N T : Addr} {ns : List Str} {ss : List Slot} {c c2 : Nat}
theorem At.step (h : At mu p N T ns ss mu' c) (Np : N ≠ p) (Tp : T ≠ p) (j : JarOk mu2 p c2) (e : ExtBut p mu' mu2) : At mu p N T ns ss mu2 c2 := ⟨j, e _ _ Np h.nam, e _ _ Tp h.lot, h.ex.trans e⟩
theorem At.new (h : At mu p N T ns ss mu' c) {q : Addr} {x : C} (hq : mu' q = none) : At mu p N T ns ss (setM mu' q x) c where
  jar := h.jar.set (h.jar.ne hq)
  nam := by rw [setM_ne fun z => (by have := h.nam; rw [z, hq] at this; cases this)]; exact h.nam
  lot := by rw [setM_ne fun z => (by have := h.lot; rw [z, hq] at this; cases this)]; exact h.lot
  ex := h.ex.setNew hq
theorem At.own (h : At mu p N T ns ss mu' c) {q : Addr} {x : C} (hq : mu q = none) (qp : q ≠ p) (qN : q ≠ N) (qT : q ≠ T) : At mu p N T ns ss (setM mu' q x) c where
  jar := h.jar.set (Ne.symm qp)
  nam := by rw [setM_ne (Ne.symm qN)]; exact h.nam
  lot := by rw [setM_ne (Ne.symm qT)]; exact h.lot
  ex := h.ex.own hq
theorem At.lots (h : At mu p N T ns ss mu' c) (hT : mu T = none) (Tp : T ≠ p) (TN : T ≠ N) (s : Slot) : At mu p N T ns (ss ++ [s]) (setM mu' T (.lst (ss.map slW1 ++ [slW1 s]))) c where
  jar := h.jar.set (Ne.symm Tp)
  nam := by rw [setM_ne (Ne.symm TN)]; exact h.nam
  lot := by rw [setM_same, List.map_append]; rfl
  ex := h.ex.own hT
theorem At.mono (h : At mu p N T ns ss mu' c) (l : c ≤ c2) : At mu p N T ns ss mu' c2 := ⟨h.jar.mono l, h.nam, h.lot, h.ex⟩
theorem At.free (h : At mu p N T ns ss mu' c) {q : Addr} (hq : mu' q = none) : mu q = none ∧ q ≠ p ∧ q ≠ N ∧ q ≠ T := by
  have a1 := Ne.symm (h.jar.ne hq)
  refine ⟨?_, a1, fun z => ?_, fun z => ?_⟩
  · cases e : mu q with
    | none => rfl
    | some x => have := h.ex _ _ a1 e; rw [hq] at this; cases this
  · have := h.nam; rw [← z, hq] at this; cases this
  · have := h.lot; rw [← z, hq] at this; cases this
end
end K1
set_option Elab.async false
set_option linter.all false
set_option maxRecDepth 100000
/-! _law_parts. -/
namespace K1
open PySem L2 Dv
section
variable {P : Program} {w : World} {K : PySem.W.Frag} {mg : Str → Option Value} {base : Heap}
theorem val_hit {kvs : List (Key × W)} {k : Key} {w : W} : valW ((k, w) :: kvs) k = some w := if_pos rfl
theorem val_miss {kvs : List (Key × W)} {k j : Key} {w : W} {u : Option W} (h : ¬ j = k) (e : valW kvs k = u) : valW ((j, w) :: kvs) k = u := (if_neg h).trans e
theorem five_kv {hs : List Str} {ss : List Slot} {bs vs : List Pat} {ls : List Lap} : FiveKv [(.inr "houses", nmW hs), (.inr "slots", slsW ss), (.inr "bears", ptsW bs), (.inr "never", ptsW vs), (.inr "lapses", lpsW ls)] ⟨hs, ss, bs, vs, ls⟩ :=
  ⟨val_hit, val_miss (by decide +kernel) val_hit, val_miss (by decide +kernel) (val_miss (by decide +kernel) val_hit), val_miss (by decide +kernel) (val_miss (by decide +kernel) (val_miss (by decide +kernel) val_hit)), val_miss (by decide +kernel) (val_miss (by decide +kernel) (val_miss (by decide +kernel) (val_miss (by decide +kernel) val_hit)))⟩
theorem FiveKv.putM {kvs : List (Key × W)} {v : Wd} {u : W} (h : FiveKv kvs v) : FiveKv (putW kvs (.inr "names") u) v :=
  ⟨put_ne (by decide +kernel) h.houses, put_ne (by decide +kernel) h.slots, put_ne (by decide +kernel) h.bears, put_ne (by decide +kernel) h.never, put_ne (by decide +kernel) h.lapses⟩
theorem putW_le : ∀ (kvs : List (Key × W)) (k : Key) (u : W), (putW kvs k u).length ≤ kvs.length + 1
  | [], k, u => by simp [putW]
  | (j, x) :: r, k, u => by
    have := putW_le r k u
    unfold putW
    split <;> simp only [List.length_cons] <;> omega
abbrev s_Lparts : Stmt := top 43
theorem sc_Lparts : FnScope ["_law_jar_here", "_law_names_here", "_law_homes", "_law_lots", "_law_many_stands", "_law_name", "_law_many", "_law_bearing", "_law_turn", "_law_banned", "_law_ends", "_law_home", "_law_here", "_law_slot", "_law_found"] ["_law_jar_here"] (defScope s_Lparts) := ⟨rfl, rfl, rfl, by decide +kernel, rfl, by decide +kernel, by decide +kernel⟩
set_option maxHeartbeats 2000000 in
theorem d_Lparts (D : Dfn K mg "_law_parts" s_Lparts ["_law_jar_here"]) (B : Bl mg) (D_take : DTake P w K mg base) (D_of : DOf P w K mg base) (D_names : DefOk P w K mg base "_law_names" ["_law_jar_here", "_law_many"] 3 S_names) (D_mixed : DefOk P w K mg base "_law_mixed" ["_law_jar_here", "_law_items"] 2 S_mixed)
    (D_held : DefOk P w K mg base "_law_held_back" ["_law_jar_here", "_law_slots"] 3 S_held_back) (D_part : DefOk P w K mg base "_law_part" ["_law_jar_here", "_law_slots", "_law_least"] 3 S_part) : DefOk P w K mg base "_law_parts" ["_law_jar_here"] 5 S_parts := by
  refine dfnOk D sc_Lparts (fun ws mu P ⟨p, c, e, _⟩ => by rw [e]; rfl) (fun f cdv A outer s H E hr ws mu Pt ⟨p, c, e, jar, c1, h⟩ => ?_)
  subst e
  -- names
  refine sss_cons (ss_asg (se_callD D_names (hr.mono (by decide)) (sa_cons (se_var (i := 0) rfl (sa_cons (se_int (sa_nil ?_)))))))
  refine ⟨p, 18, c, rfl, by decide, jar, by omega, fun N ns mu1 nN hN nl nd nm j1 e1 => ?_⟩
  refine sg_name (i := 1) ?_ sc_Lparts.nd
  have Np : N ≠ p := Ne.symm (jar.ne nN)
  -- homes
  refine sss_cons (ss_asg (se_tup ?_))
  refine sa_cons (se_tupleC ?_ B.tuple)
  refine se_sorted hr ?_ B.sorted
  refine se_slTo ?_
  refine se_var (i := 1) rfl ?_
  refine se_bin op_Add Add_w (se_int (se_callD D_take (hr.mono (by decide)) (sa_cons (se_var (i := 0) rfl (sa_cons (se_int (sa_nil ?_)))))))
  refine ⟨p, 4, _, rfl, by decide, by decide, j1, by omega, fun r mu2 r0 r1 j2 e2 => ?_⟩
  have hN2 := e2 _ _ Np hN
  refine ⟨_, hN2, fun q nq => ?_⟩
  rw [cut_to (by omega), st_take]
  have i1 : 1 ≤ (1 + r).toNat := by omega
  have i4 : (1 + r).toNat ≤ 4 := by omega
  generalize (1 + r).toNat = hc at i1 i4
  have hl : (ns.take hc).length = hc := by rw [List.length_take]; omega
  obtain ⟨s1, s2, s3, s4⟩ := sort_sts (ns := ns.take hc)
  refine ⟨_, setM_same, s1, s2, s3, by rw [stW_len, hl]; exact Nat.le_trans i4 (by decide), s4, fun q2 nq2 => ?_⟩
  refine ⟨_, setM_same, ?_⟩
  rw [asTx_sort]
  have ndh : (ns.take hc).Nodup := (List.take_sublist ..).nodup nd
  have hok : HsOk (asTx (ns.take hc)) := by
    have pl := (asTx_perm (ns.take hc)).length_eq
    exact ⟨by omega, by omega, fun x hx => nm x (List.mem_of_mem_take ((asTx_perm _).mem_iff.mp hx)), asTx_up ndh⟩
  have hpos : asTx (ns.take hc) ≠ [] := fun z => by have := hok.lo; rw [z] at this; simp at this
  generalize asTx (ns.take hc) = hs at hok hpos
  clear s1 s2 s3 s4 ndh hl
  have j4 : JarOk (setM (setM mu2 q (.lst (stW (ns.take hc)))) q2 (.lst (stW hs))) p (c + 11) := (j2.set (j2.ne nq)).set ((j2.set (j2.ne nq)).ne nq2)
  have e4 : ExtBut p mu (setM (setM mu2 q (.lst (stW (ns.take hc)))) q2 (.lst (stW hs))) := ((e1.trans e2).setNew nq).setNew nq2
  have hN4 : (setM (setM mu2 q (.lst (stW (ns.take hc)))) q2 (.lst (stW hs))) N = some (.lst (stW ns)) := by
    have z1 : N ≠ q := fun z => by rw [z, nq] at hN2; cases hN2
    have z2 : (setM mu2 q (.lst (stW (ns.take hc)))) N = some (.lst (stW ns)) := by rw [setM_ne z1]; exact hN2
    rw [setM_ne fun z => (by rw [z, nq2] at z2; cases z2)]
    exact z2
  generalize setM (setM mu2 q (.lst (stW (ns.take hc)))) q2 (.lst (stW hs)) = mu4 at j4 e4 hN4 ⊢
  -- lots
  refine sa_cons (se_lst (sa_nil ⟨by decide, fun T nT => ?_⟩))
  refine sa_cons (se_int (sa_nil ⟨by show 3 ≤ sizeLine; decide, ?_⟩))
  refine sg_tup (sgs_cons (sg_name (i := 2) (sgs_cons (sg_name (i := 3) (sgs_cons (sg_name (i := 4) (sgs_nil ?_) sc_Lparts.nd)) sc_Lparts.nd)) sc_Lparts.nd))
  have Tp : T ≠ p := Ne.symm (j4.ne nT)
  have TN : T ≠ N := fun z => by rw [← z, nT] at hN4; cases hN4
  have muT : mu T = none := by
    cases e : mu T with
    | none => rfl
    | some x => have := e4 _ _ Tp e; rw [nT] at this; cases this
  have A5 : At mu p N T ns [] (setM mu4 T (.lst [])) (c + 11) := ⟨j4.set (Ne.symm Tp), by rw [setM_ne (Ne.symm TN)]; exact hN4, setM_same, e4.setNew nT⟩
  change SSs _ _ _ (setM mu4 T (.lst [])) _
  generalize setM mu4 T (.lst []) = mu5 at A5 ⊢
  clear j4 e4 hN4 nT
  -- the slots
  refine sss_cons ?_
  refine ss_for PassesOwn.never rfl (by intro _; rfl) ?_
  refine si_lst ?_
  refine se_slMid ?_
  refine se_var (i := 1) rfl ?_
  refine se_int ?_
  refine se_bin op_Add Add_w (se_int (se_callD D_take (hr.mono (by decide)) (sa_cons (se_var (i := 0) rfl (sa_cons (se_int (sa_nil ?_)))))))
  refine ⟨p, 6, _, rfl, by decide, by decide, A5.jar, by omega, fun r6 mu6 r60 r61 j6 e6 => ?_⟩
  have A6 := A5.step Np Tp j6 e6
  refine ⟨_, A6.nam, fun q3 nq3 => ?_⟩
  rw [cut_mid (by decide) (by rw [stW_len, nl]; decide) (by omega), st_drop, st_take]
  have lk : ((5 + r6).toNat - (4 : Int).toNat) = r6.toNat + 1 := by omega
  rw [lk]
  obtain ⟨ks, ek⟩ : ∃ ks, ks = (ns.drop (4 : Int).toNat).take (r6.toNat + 1) := ⟨_, rfl⟩
  have kl : ks.length = r6.toNat + 1 := by rw [ek, List.length_take, List.length_drop, nl]; show min _ 14 = _; omega
  have kn : ks.Nodup := by rw [ek]; exact ((List.take_sublist ..).trans (List.drop_sublist ..)).nodup nd
  have km : ∀ x ∈ ks, NmOk x := fun x hx => nm x (by rw [ek] at hx; exact List.mem_of_mem_drop (List.mem_of_mem_take hx))
  rw [← ek]
  have k6 : ks.length ≤ 6 := by omega
  have k1 : 0 < ks.length := by omega
  clear ek kl lk
  have A7 := A6.new (x := .lst (stW ks)) nq3
  obtain ⟨F1, F2, F3, F4⟩ := A6.free nq3
  have hq7 : (setM mu6 q3 (.lst (stW ks))) q3 = some (.lst (stW ks)) := setM_same
  generalize setM mu6 q3 (.lst (stW ks)) = mu7 at A7 hq7 ⊢
  refine ⟨_, hq7, ?_⟩
  refine ⟨fun i G' mu' => ∃ ss x y, G' = [some (.m p), some (.m N), some (.tup (stW hs)), some (.m T), some (.int ((manyS ss : Nat) : Int)), x, y, none, none, none, none, none, none, none, none] ∧ Lots hs ks i ss ∧ mu' q3 = some (.lst (stW ks)) ∧ At mu p N T ns ss mu' (c + 12 + 8 * i), ⟨[], none, none, rfl, Lots.zero hs ks, hq7, A7⟩,
    fun i G' mu' _ ⟨ss, x, y, eG, Lo, hq, AA⟩ => hq, fun i w' G' mu' hw ⟨ss, x, y, eG, Lo, hq, AA⟩ => ?_, fun G' mu' ⟨ss, xx, yy, eG, Lo, hq, AA⟩ => ?_⟩
  · subst eG
    unfold stW at hw
    rw [List.getElem?_map] at hw
    cases ht : ks[i]? with
    | none => rw [ht] at hw; cases hw
    | some t =>
    rw [ht] at hw
    cases hw
    have hi : i < ks.length := (List.getElem?_eq_some_iff.mp ht).1
    have tok := km t (List.mem_of_getElem? ht)
    refine sg_name (i := 5) ?_ sc_Lparts.nd
    -- many
    refine sss_cons (ss_asg ?_)
    refine se_bin op_Add Add_w (se_int (se_callD D_take (hr.mono (by decide)) (sa_cons (se_var (i := 0) rfl (sa_cons (se_int (sa_nil ?_)))))))
    refine ⟨p, 3, _, rfl, by decide, by decide, AA.jar, by omega, fun r8 mu8 r80 r81 j8 e8 => ?_⟩
    refine sg_name (i := 6) ?_ sc_Lparts.nd
    obtain ⟨m, em, m2, m4⟩ : ∃ m : Nat, (2 + r8 : Int) = (m : Nat) ∧ 2 ≤ m ∧ m ≤ 4 := ⟨(2 + r8).toNat, by omega, by omega, by omega⟩
    show SSs _ _ [_, _, _, _, _, _, some (.int (2 + r8)), _, _, _, _, _, _, _, _] _ _
    rw [em]
    have A8 := AA.step Np Tp j8 e8
    have hq8 := e8 _ _ F2 hq
    have mm := Lo.many
    have mul : (manyS ss : Int).natAbs < 2 ^ 6 := by omega
    have mul2 : ((m : Nat) : Int).natAbs < 2 ^ 3 := by omega
    refine sss_cons (ss_if ?_)
    refine st_cmp op_le cmpI_w (nomark _) ?_
    refine se_bin op_Mult Mult_w (se_var (i := 4) rfl (se_var (i := 6) rfl ?_))
    refine ⟨cmulW 6 3 mul mul2 (by decide) (by decide) (by decide), ?_⟩
    refine se_int ?_
    show if2 (decide ((manyS ss : Int) * (m : Int) ≤ 32)) _ _
    by_cases hm : (manyS ss : Int) * (m : Int) ≤ 32
    · rw [decide_eq_true hm]
      -- taken
      refine sss_cons (ss_asg (se_bin op_Mult Mult_w (se_var (i := 4) rfl (se_var (i := 6) rfl ?_))))
      refine ⟨cmulW 6 3 mul mul2 (by decide) (by decide) (by decide), ?_⟩
      refine sg_name (i := 4) ?_ sc_Lparts.nd
      refine sss_cons (ss_expr (se_append (se_var (i := 3) rfl ?_)))
      refine ⟨⟨_, A8.lot⟩, ?_⟩
      refine sa_one ?_
      refine se_tup ?_
      refine sa_cons (se_var (i := 5) rfl ?_)
      refine sa_cons (se_callD D_of (hr.mono (by decide)) (sa_cons (se_var (i := 0) rfl (sa_cons (se_var (i := 2) rfl (sa_nil ?_))))))
      refine ⟨p, _, stW hs, _, rfl, .inl rfl, fun z => hpos (by cases hs with | nil => rfl | cons a b => cases z), by rw [stW_len]; have := hok.hi; omega, A8.jar, by omega, fun x' mu9 hx j9 e9 => ?_⟩
      obtain ⟨ho, hho, rfl⟩ := List.mem_map.mp hx
      have A9 := A8.step Np Tp j9 e9
      have hq9 := e9 _ _ F2 hq8
      -- the words
      refine sa_cons (se_tupleC (se_slTo (se_callD D_mixed (hr.mono (by decide)) (sa_cons (se_var (i := 0) rfl (sa_cons (se_slMid (se_var (i := 1) rfl (se_int (se_int ?_))))))))) B.tuple)
      refine ⟨_, A9.nam, fun q4 nq4 => ?_⟩
      rw [cut_mid (by decide) (by rw [stW_len, nl]; decide) (by decide), st_drop, st_take]
      obtain ⟨xs, ex⟩ : ∃ xs, xs = (ns.drop (10 : Int).toNat).take ((16 : Int).toNat - (10 : Int).toNat) := ⟨_, rfl⟩
      have xl : xs.length = 6 := by rw [ex, List.length_take, List.length_drop, nl]; rfl
      have xn : xs.Nodup := by rw [ex]; exact ((List.take_sublist ..).trans (List.drop_sublist ..)).nodup nd
      have xm : ∀ x ∈ xs, NmOk x := fun x hx => nm x (by rw [ex] at hx; exact List.mem_of_mem_drop (List.mem_of_mem_take hx))
      rw [← ex]
      clear ex
      have A10 := A9.new (x := .lst (stW xs)) nq4
      have q43 : q3 ≠ q4 := fun z => by rw [z, nq4] at hq9; cases hq9
      refine sa_nil ?_
      refine ⟨p, q4, xs, _, rfl, setM_same, Ne.symm (A9.jar.ne nq4), by omega, xm, A10.jar, by omega, fun q5 ys mu11 py nq5 hq5 j11 e11 => ?_⟩
      have A11 := A10.step Np Tp j11 e11
      have hq11 : mu11 q3 = some (.lst (stW ks)) := e11 _ _ F2 (by rw [setM_ne q43]; exact hq9)
      refine se_var (i := 6) rfl ?_
      refine ⟨_, hq5, fun q6 nq6 => ?_⟩
      refine ⟨_, setM_same, ?_⟩
      rw [cut_to (by omega), st_take, Int.toNat_natCast]
      have A12 := A11.new (x := .lst (stW (ys.take m))) nq6
      have hq12 : (setM mu11 q6 (.lst (stW (ys.take m)))) q3 = some (.lst (stW ks)) := by rw [setM_ne fun z => (by rw [z, nq6] at hq11; cases hq11)]; exact hq11
      have yl : (ys.take m).length = m := by rw [List.length_take, py.length_eq, xl]; omega
      have yn : (ys.take m).Nodup := (List.take_sublist ..).nodup (py.nodup_iff.mpr xn)
      have ym : ∀ x ∈ ys.take m, NmOk x := fun x hx => xm x (py.mem_iff.mp (List.mem_of_mem_take hx))
      have sok : SlOk hs (t, ho, ys.take m) := ⟨tok, hho, by show 2 ≤ (ys.take m).length; omega, by show (ys.take m).length ≤ 4; omega, ym, yn⟩
      have em2 : manyS (ss ++ [(t, ho, ys.take m)]) = manyS ss * m := by
        rw [manyS_append]
        simp only [manyS, yl, Nat.mul_one]
      have hm2 : manyS ss * (ys.take m).length ≤ 32 := by rw [yl]; exact_mod_cast hm
      refine sa_nil ⟨by show 3 ≤ sizeLine; decide, ?_⟩
      refine ⟨_, A12.lot, by rw [List.length_map]; exact Nat.lt_of_le_of_lt (Nat.le_trans Lo.len (by omega : i ≤ 6)) (by decide), ?_⟩
      refine sss_nil ?_
      refine sss_nil ?_
      refine ⟨ss ++ [(t, ho, ys.take m)], some (.str t), some (.int ((m : Nat) : Int)), ?_, Lo.add ht sok hm2, ?_, (A12.lots muT Tp TN (t, ho, ys.take m)).mono (by omega)⟩
      · rw [em2, Int.natCast_mul]; rfl
      · rw [setM_ne F4]; exact hq12
    · rw [decide_eq_false hm]
      refine sss_nil ?_
      refine sss_nil ?_
      have s0 : ss ≠ [] := fun z => by
        rw [z] at hm
        exact hm (by show ((1 : Nat) : Int) * (m : Int) ≤ 32; omega)
      exact ⟨ss, _, _, rfl, Lo.skip s0, hq8, A8.mono (by omega)⟩
  -- behind the slots
  subst eG
  have sl : (stW ks).length = ks.length := stW_len ks
  rw [sl] at Lo AA
  have sok := Lo.ok k1 k6 kn
  have B1 := AA.mono (c2 := c + 60) (by omega)
  clear AA hq A5 A6 A7 hq7 F1 F2 F3 F4 nq3
  have w24 : ∀ s ∈ ss, 2 ≤ s.2.2.length ∧ s.2.2.length ≤ 4 := fun s hs' => ⟨(sok.each s hs').lo, (sok.each s hs').hi⟩
  -- held back: bears
  refine sss_cons (ss_asg (se_tupleC ?_ B.tuple))
  refine se_sortSet hr ?_ B.sorted B.set
  refine se_lc (own := [("_law_turn", 8)]) (.nm 8) rfl sc_Lparts.nd (blkOk_by (N := ["_law_jar_here", "_law_names_here", "_law_homes", "_law_lots", "_law_many_stands", "_law_name", "_law_many", "_law_bearing", "_law_turn", "_law_banned", "_law_ends", "_law_home", "_law_here", "_law_slot", "_law_found"]) (sc := defScope s_Lparts) (by decide +kernel)) rfl (fun _ _ _ _ _ => (pg_name (i := 8) sc_Lparts.nd rfl (Or.inl rfl))) (by intro _; rfl) ?_
  refine si_range ?_ B.range
  refine se_bin op_Add Add_w (se_int (se_callD D_take (hr.mono (by decide)) (sa_cons (se_var (i := 0) rfl (sa_cons (se_int (sa_nil ?_)))))))
  refine ⟨p, 3, _, rfl, by decide, by decide, B1.jar, by omega, fun r muA r0 r1 jz ez => ?_⟩
  have Cz := B1.step Np Tp jz ez
  refine ⟨by omega, by omega, fun Dd hDd => ?_⟩
  refine ⟨fun i acc mu2 => ∃ ps : List Pat, acc = ps.map ptW ∧ ps.length = i ∧ (∀ q ∈ ps, PtOk ss q ∧ Away ss q) ∧ At mu p N T ns ss mu2 (c + 60 + 1 + 20 * i), ⟨[], rfl, rfl, by simp, Cz⟩, fun _ _ _ _ _ => trivial, fun i w' acc mu2 hw ⟨ps, ea, el, ok, AA⟩ => ?_, fun acc mu2 ⟨ps, ea, el, ok, AA⟩ => ?_⟩
  · have hi : i < 3 := by
      have := (List.getElem?_eq_some_iff.mp hw).1
      rw [List.length_map, List.length_range] at this
      omega
    refine ⟨by rw [ea, List.length_map, el]; exact Nat.lt_trans hi (by decide), _, rfl, fun s H C cl fp => ?_⟩
    refine se_callD D_held (hr.mono (by decide)) (sa_cons (se_var (i := 0) rfl (sa_cons (se_var (i := 3) rfl (sa_nil ?_)))))
    refine ⟨p, T, ss, _, rfl, AA.lot, Tp, sok.lo, sok.hi, w24, sok.nd, AA.jar, by omega, fun q mu3 q1 q2 jq eq => ?_⟩
    refine ⟨ps ++ [q], by rw [ea, List.map_append]; rfl, by rw [List.length_append, el]; rfl, fun x hx => ?_, (AA.step Np Tp jq eq).mono (by omega)⟩
    rcases List.mem_append.mp hx with hx | hx
    · exact ok x hx
    · rw [List.mem_singleton.mp hx]; exact ⟨q1, q2⟩
  rw [List.length_map, List.length_range] at el AA
  subst ea
  refine ⟨Dd, ps, rfl, setM_same, by omega, fun q hq => away_some (ok q hq).2, fun y bs ny m1 m2 m3 m4 => ?_⟩
  refine ⟨_, setM_same, ?_⟩
  refine sg_name (i := 7) ?_ sc_Lparts.nd
  obtain ⟨d1, d2, d3, d4⟩ := Cz.free hDd
  have B2 := (((AA.mono (c2 := c + 121) (by omega)).own (x := .lst (ps.map ptW)) d1 d2 d3 d4).new (x := .lst (bs.map ptW)) ny)
  have bok : (∀ q ∈ bs, PtOk ss q ∧ Away ss q) ∧ rising (bs.map ptW) = true ∧ bs.length ≤ 3 := ⟨fun q hq => ok q (m1 q hq), m2, m4⟩
  have bne : bs ≠ [] := m3 fun z => by rw [z] at el; simp at el; omega
  change SSs _ _ _ (setM (setM mu2 Dd (.lst (ps.map ptW))) y (.lst (bs.map ptW))) _
  generalize setM (setM mu2 Dd (.lst (ps.map ptW))) y (.lst (bs.map ptW)) = muB at B2 ⊢
  clear m1 m2 m3 m4 ny d1 d2 d3 d4 ok AA hDd Cz jz ez r0 r1 el
  -- held back: never
  refine sss_cons (ss_asg (se_tupleC ?_ B.tuple))
  refine se_sortSet hr ?_ B.sorted B.set
  refine se_lc (own := [("_law_turn", 8)]) (.nm 8) rfl sc_Lparts.nd (blkOk_by (N := ["_law_jar_here", "_law_names_here", "_law_homes", "_law_lots", "_law_many_stands", "_law_name", "_law_many", "_law_bearing", "_law_turn", "_law_banned", "_law_ends", "_law_home", "_law_here", "_law_slot", "_law_found"]) (sc := defScope s_Lparts) (by decide +kernel)) rfl (fun _ _ _ _ _ => (pg_name (i := 8) sc_Lparts.nd rfl (Or.inl rfl))) (by intro _; rfl) ?_
  refine si_range ?_ B.range
  refine se_callD D_take (hr.mono (by decide)) (sa_cons (se_var (i := 0) rfl (sa_cons (se_int (sa_nil ?_)))))
  refine ⟨p, 3, _, rfl, by decide, by decide, B2.jar, by omega, fun r muA r0 r1 jz ez => ?_⟩
  have Cz := B2.step Np Tp jz ez
  refine ⟨by omega, by omega, fun Dd hDd => ?_⟩
  refine ⟨fun i acc mu2 => ∃ ps : List Pat, acc = ps.map ptW ∧ ps.length = i ∧ (∀ q ∈ ps, PtOk ss q ∧ Away ss q) ∧ At mu p N T ns ss mu2 (c + 121 + 1 + 20 * i), ⟨[], rfl, rfl, by simp, Cz⟩, fun _ _ _ _ _ => trivial, fun i w' acc mu2 hw ⟨ps, ea, el, ok, AA⟩ => ?_, fun acc mu2 ⟨ps, ea, el, ok, AA⟩ => ?_⟩
  · have hi : i < 3 := by
      have := (List.getElem?_eq_some_iff.mp hw).1
      rw [List.length_map, List.length_range] at this
      omega
    refine ⟨by rw [ea, List.length_map, el]; exact Nat.lt_trans hi (by decide), _, rfl, fun s H C cl fp => ?_⟩
    refine se_callD D_held (hr.mono (by decide)) (sa_cons (se_var (i := 0) rfl (sa_cons (se_var (i := 3) rfl (sa_nil ?_)))))
    refine ⟨p, T, ss, _, rfl, AA.lot, Tp, sok.lo, sok.hi, w24, sok.nd, AA.jar, by omega, fun q mu3 q1 q2 jq eq => ?_⟩
    refine ⟨ps ++ [q], by rw [ea, List.map_append]; rfl, by rw [List.length_append, el]; rfl, fun x hx => ?_, (AA.step Np Tp jq eq).mono (by omega)⟩
    rcases List.mem_append.mp hx with hx | hx
    · exact ok x hx
    · rw [List.mem_singleton.mp hx]; exact ⟨q1, q2⟩
  rw [List.length_map, List.length_range] at el AA
  subst ea
  refine ⟨Dd, ps, rfl, setM_same, by omega, fun q hq => away_some (ok q hq).2, fun y vs ny m1 m2 m3 m4 => ?_⟩
  refine ⟨_, setM_same, ?_⟩
  refine sg_name (i := 9) ?_ sc_Lparts.nd
  obtain ⟨d1, d2, d3, d4⟩ := Cz.free hDd
  have B3 := (((AA.mono (c2 := c + 162) (by omega)).own (x := .lst (ps.map ptW)) d1 d2 d3 d4).new (x := .lst (vs.map ptW)) ny)
  have vok : (∀ q ∈ vs, PtOk ss q ∧ Away ss q) ∧ rising (vs.map ptW) = true ∧ vs.length ≤ 3 := ⟨fun q hq => ok q (m1 q hq), m2, m4⟩
  change SSs _ _ _ (setM (setM mu2 Dd (.lst (ps.map ptW))) y (.lst (vs.map ptW))) _
  generalize setM (setM mu2 Dd (.lst (ps.map ptW))) y (.lst (vs.map ptW)) = muC at B3 ⊢
  clear m1 m2 m3 m4 ny d1 d2 d3 d4 ok AA hDd Cz jz ez r0 r1 el
  -- lapses
  refine sss_cons (ss_asg (se_lst (sa_nil ⟨by decide, fun Z nZ => ?_⟩)))
  refine sg_name (i := 10) ?_ sc_Lparts.nd
  obtain ⟨Z1, Zp, ZN, ZT⟩ := B3.free nZ
  have B4 := B3.new (x := .lst []) nZ
  have hZ : (setM muC Z (.lst [])) Z = some (.lst []) := setM_same
  change SSs _ _ _ (setM muC Z (.lst [])) _
  generalize setM muC Z (.lst []) = muD at B4 hZ ⊢
  clear B3 nZ
  refine sss_cons ?_
  refine ss_for PassesOwn.never rfl (by intro _; rfl) ?_
  refine si_range ?_ B.range
  refine se_callD D_take (hr.mono (by decide)) (sa_cons (se_var (i := 0) rfl (sa_cons (se_int (sa_nil ?_)))))
  refine ⟨p, 5, _, rfl, by decide, by decide, B4.jar, by omega, fun r5 muE r50 r51 jE eE => ?_⟩
  have B5 := B4.step Np Tp jE eE
  have hZ5 := eE _ _ Zp hZ
  refine ⟨by omega, by omega, ?_⟩
  refine ⟨fun i G' mu' => ∃ ls u8 u11 u12, G' = [some (.m p), some (.m N), some (.tup (stW hs)), some (.m T), some (.int ((manyS ss : Nat) : Int)), xx, yy, some (.tup (bs.map ptW)), u8, some (.tup (vs.map ptW)), some (.m Z), u11, u12, none, none] ∧ ls.length = i ∧ (∀ l ∈ ls, LpOk ss l) ∧ mu' Z = some (.lst (ls.map lpW)) ∧ At mu p N T ns ss mu' (c + 163 + 41 * i),
    ⟨[], none, none, none, rfl, rfl, by simp, hZ5, B5⟩, fun _ _ _ _ _ => trivial, fun i w' G' mu' hw ⟨ls, u8, u11, u12, eG, el, lok, hz, AA⟩ => ?_, fun G' mu' ⟨ls, u8, u11, u12, eG, el, lok, hz, AA⟩ => ?_⟩
  · subst eG
    have hi : i < 4 := by
      have := (List.getElem?_eq_some_iff.mp hw).1
      rw [List.length_map, List.length_range] at this
      omega
    refine sg_name (i := 8) ?_ sc_Lparts.nd
    -- the home
    refine sss_cons (ss_asg (se_ix ?_))
    refine se_callD D_of (hr.mono (by decide)) (sa_cons (se_var (i := 0) rfl (sa_cons (se_var (i := 3) rfl (sa_nil ?_)))))
    refine ⟨p, _, ss.map slW1, _, rfl, .inr (.inl ⟨T, rfl, Tp, AA.lot⟩), fun z => by have := sok.lo; rw [List.map_eq_nil_iff.mp z] at this; simp at this, by rw [List.length_map]; exact Nat.le_trans sok.hi (by decide), AA.jar, by omega, fun u mu8 hu j8 e8 => ?_⟩
    obtain ⟨s0, hs0, rfl⟩ := List.mem_map.mp hu
    have A8 := AA.step Np Tp j8 e8
    have hz8 := e8 _ _ Zp hz
    refine se_int ?_
    refine ⟨_, rfl, ?_⟩
    refine sg_name (i := 11) ?_ sc_Lparts.nd
    have hon : NmOk s0.2.1 := hok.nm _ (sok.each s0 hs0).home
    -- the slots there
    refine sss_cons ?_
    refine ss_setlc1 (i := 12) (own := [("_law_slot", 13)]) (.nm 13) rfl sc_Lparts.nd rfl rfl (sw_true rfl rfl rfl (by decide +kernel)) (blkOk_by (N := ["_law_jar_here", "_law_names_here", "_law_homes", "_law_lots", "_law_many_stands", "_law_name", "_law_many", "_law_bearing", "_law_turn", "_law_banned", "_law_ends", "_law_home", "_law_here", "_law_slot", "_law_found"]) (sc := defScope s_Lparts) (by decide +kernel)) rfl (fun _ _ _ _ _ => (pg_name (i := 13) sc_Lparts.nd rfl (Or.inl rfl))) (by intro _; rfl) ?_
    refine si_lst (se_var (i := 3) rfl ⟨_, A8.lot, ?_⟩)
    refine lc_filter (fun w => match w with | .tup [_, .str x, _] => decide (x = s0.2.1) | _ => false) (fun w => w) (fun _ e => e _ _ A8.lot) (by rw [List.length_map]; exact Nat.le_trans sok.hi (by decide)) ?_ InBlk.mono ?_
    · intro w mu' hw he
      obtain ⟨t, ht, rfl⟩ := List.mem_map.mp hw
      refine ⟨_, rfl, fun s H C cl fp => ?_⟩
      refine st_cmp (op_eqD hr.units) eq_w (nomark _) ?_
      refine se_ix (se_var (i := 13) rfl (se_int ?_))
      refine ⟨_, rfl, ?_⟩
      refine se_var (i := 11) rfl ?_
      refine eq_strs (hok.nm _ (sok.each t ht).home) hon ?_
      refine ⟨rfl, Ext.refl, fun _ s H C cl fp => ?_⟩
      refine se_var (i := 13) rfl ?_
      exact ⟨rfl, Ext.refl⟩
    have em : ((ss.map slW1).filter fun w => match w with | .tup [_, .str x, _] => decide (x = s0.2.1) | _ => false).map (fun w => w) = (ss.filter (atHome s0.2.1)).map slW1 := by
      rw [List.map_id', List.filter_map]
      rfl
    rw [em]
    intro Hd mu9 hHd he he2
    have A9 := A8.step Np Tp (A8.jar.ext he2) (Ext.but he2)
    have hz9 := he2 _ _ hz8
    have hH9 : (setM mu9 Hd (.lst ((ss.filter (atHome s0.2.1)).map slW1))) Hd = some (.lst ((ss.filter (atHome s0.2.1)).map slW1)) := setM_same
    obtain ⟨_, Hp, HN, HT⟩ := A8.free hHd
    have HZ : Hd ≠ Z := fun z => by rw [z, hz8] at hHd; cases hHd
    obtain ⟨hh, eh⟩ : ∃ hh, hh = ss.filter (atHome s0.2.1) := ⟨_, rfl⟩
    rw [← eh] at A9 hz9 hH9 ⊢
    generalize setM mu9 Hd (.lst (hh.map slW1)) = mu10 at A9 hz9 hH9 ⊢
    have hsub : hh.Sublist ss := by rw [eh]; exact List.filter_sublist
    have hlo : 1 ≤ hh.length := List.length_pos_of_mem (a := s0) (by rw [eh]; exact List.mem_filter.mpr ⟨hs0, by simp [atHome]⟩)
    have hhi : hh.length ≤ 6 := Nat.le_trans hsub.length_le sok.hi
    have hw24 : ∀ s ∈ hh, 2 ≤ s.2.2.length ∧ s.2.2.length ≤ 4 := fun s hs' => w24 s (hsub.subset hs')
    have hnd : (hh.map (·.1)).Nodup := (hsub.map _).nodup sok.nd
    -- append
    refine sss_cons (ss_expr (se_append (se_var (i := 10) rfl ?_)))
    refine ⟨⟨_, hz9⟩, ?_⟩
    refine sa_one ?_
    refine se_tup (sa_cons (se_var (i := 11) rfl ?_))
    refine sa_cons (se_callD D_part (hr.mono (by decide)) (sa_cons (se_var (i := 0) rfl (sa_cons (se_var (i := 12) rfl (sa_cons (se_int (sa_nil ?_))))))))
    refine ⟨p, Hd, _, hh, _, rfl, hH9, Hp, hlo, hhi, hw24, hnd, A9.jar, by omega, fun q0 mu11 ok0 _ j11 e11 => ?_⟩
    have A11 := A9.step Np Tp j11 e11
    refine sa_cons (se_callD D_part (hr.mono (by decide)) (sa_cons (se_var (i := 0) rfl (sa_cons (se_var (i := 12) rfl (sa_cons (se_int (sa_nil ?_))))))))
    refine ⟨p, Hd, _, hh, _, rfl, e11 _ _ Hp hH9, Hp, hlo, hhi, hw24, hnd, A11.jar, by omega, fun q1 mu12 ok1 ne1 j12 e12 => ?_⟩
    have A12 := A11.step Np Tp j12 e12
    refine sa_nil ⟨by show 3 ≤ sizeLine; decide, ?_⟩
    refine ⟨_, e12 _ _ Zp (e11 _ _ Zp hz9), by rw [List.length_map, el]; exact Nat.lt_trans hi (by decide), ?_⟩
    refine sss_nil ?_
    have lk : LpOk ss (s0.2.1, q0, q1) := ⟨hon, by show PtOk (ss.filter (atHome s0.2.1)) q0; rw [← eh]; exact ok0, by show PtOk (ss.filter (atHome s0.2.1)) q1; rw [← eh]; exact ok1, ne1 rfl⟩
    refine ⟨ls ++ [(s0.2.1, q0, q1)], _, _, _, rfl, by rw [List.length_append, el]; rfl, fun l hl => ?_, by rw [setM_same, List.map_append]; rfl, (A12.own Z1 Zp ZN ZT).mono (by omega)⟩
    rcases List.mem_append.mp hl with hl | hl
    · exact lok l hl
    · rw [List.mem_singleton.mp hl]; exact lk
  -- behind the lapses
  subst eG
  rw [List.length_map, List.length_range] at el AA
  have B6 := AA.mono (c2 := c + 450) (by omega)
  clear AA B5 B4 hZ hZ5
  refine sss_cons (ss_asg (se_disp ?_))
  unfold SPs
  refine se_str (se_var (i := 2) rfl ?_)
  unfold SPs
  refine se_str (se_tupleC (se_var (i := 3) rfl ⟨_, B6.lot, ?_⟩) B.tuple)
  unfold SPs
  refine se_str (se_var (i := 7) rfl ?_)
  unfold SPs
  refine se_str (se_var (i := 9) rfl ?_)
  unfold SPs
  refine se_str (se_tupleC (se_var (i := 10) rfl ⟨_, hz, ?_⟩) B.tuple)
  unfold SPs
  have kn : (([(.inr "houses", nmW hs), (.inr "slots", slsW ss), (.inr "bears", ptsW bs), (.inr "never", ptsW vs), (.inr "lapses", lpsW ls)] : List (Key × W)).map (·.1)).Nodup := by
    show ([.inr "houses", .inr "slots", .inr "bears", .inr "never", .inr "lapses"] : List Key).Nodup
    decide +kernel
  refine ⟨[(.inr "houses", nmW hs), (.inr "slots", slsW ss), (.inr "bears", ptsW bs), (.inr "never", ptsW vs), (.inr "lapses", lpsW ls)], rfl, kn, by show 5 ≤ 15; decide, fun L nL => ?_⟩
  refine sg_name (i := 14) ?_ sc_Lparts.nd
  obtain ⟨L1, Lp, LN, LT⟩ := B6.free nL
  have F5 : FiveKv [(.inr "houses", nmW hs), (.inr "slots", slsW ss), (.inr "bears", ptsW bs), (.inr "never", ptsW vs), (.inr "lapses", lpsW ls)] ⟨hs, ss, bs, vs, ls⟩ := five_kv
  refine sss_cons (ss_dput (hu_of hr) ?_)
  refine se_var (i := 1) rfl (se_var (i := 14) rfl (se_str ?_))
  refine ⟨L, _, .inr "names", rfl, ⟨setM_same, kn⟩, rfl, by show 5 < sizeLine; decide, ?_⟩
  refine sss_cons (ss_ret (se_var (i := 14) rfl ?_))
  have B7 := (B6.own (x := .dic [(.inr "houses", nmW hs), (.inr "slots", slsW ss), (.inr "bears", ptsW bs), (.inr "never", ptsW vs), (.inr "lapses", lpsW ls)]) L1 Lp LN LT).own (x := .dic (putW [(.inr "houses", nmW hs), (.inr "slots", slsW ss), (.inr "bears", ptsW bs), (.inr "never", ptsW vs), (.inr "lapses", lpsW ls)] (.inr "names") (.m N))) L1 Lp LN LT
  have h16 : (stW ns)[16]? = some (.str ns[16]) := by
    unfold stW
    rw [List.getElem?_map, List.getElem?_eq_getElem (by omega)]
    rfl
  exact h L ⟨hs, ss, bs, vs, ls⟩ _ ⟨_, N, ns, ns[16], ⟨setM_same, putW_nodup kn⟩, Nat.le_trans (putW_le _ _ _) (by show 5 + 1 ≤ 10; decide), F5.putM, put_same, B7.nam, Np, h16, nm _ (List.getElem_mem _)⟩
    ⟨hok, sok, psOk_of sok bok.1 bok.2.1 (by show bs.length ≤ 10; have := bok.2.2; omega), bne, psOk_of sok vok.1 vok.2.1 (by show vs.length ≤ 10; have := vok.2.2; omega), by show ls.length ≤ 4; omega, lok⟩ B7.jar B7.ex
end
end K1
set_option Elab.async false
set_option linter.all false
set_option maxRecDepth 100000
/-! law. -/
namespace K1
open PySem L2 Dv
section
variable {X : Cx}
theorem max2_w : CallW X (fun xs H Q => ∃ i j, xs = [.int i, .int j] ∧ Q (.int (if j > i then j else i)) H) fun ws mu P => ∃ i j, ws = [.int i, .int j] ∧ P (.int (if j > i then j else i)) mu := fun ws vs mu H P Q d m ⟨i, j, e, q⟩ k => by
  subst e
  obtain ⟨x, y, e, d1, d2⟩ := d.two
  have d1 : x = .int i := d1
  have d2 : y = .int j := d2
  subst e d1 d2
  exact ⟨i, j, rfl, k.now q rfl m⟩
theorem min2_w : CallW X (fun xs H Q => ∃ i j, xs = [.int i, .int j] ∧ Q (.int (if j < i then j else i)) H) fun ws mu P => ∃ i j, ws = [.int i, .int j] ∧ P (.int (if j < i then j else i)) mu := fun ws vs mu H P Q d m ⟨i, j, e, q⟩ k => by
  subst e
  obtain ⟨x, y, e, d1, d2⟩ := d.two
  have d1 : x = .int i := d1
  have d2 : y = .int j := d2
  subst e d1 d2
  exact ⟨i, j, rfl, k.now q rfl m⟩
end
section
variable {P : Program} {w : World} {K : PySem.W.Frag} {mg : Str → Option Value} {base : Heap} {f a : Addr} {fd : FuncData} {ns : List Int}
abbrev s_law : Stmt := top 48
theorem sc_law : FnScope ["_law_script", "_law_k", "_law_jar_here", "_law_turn"] ["_law_script"] (defScope s_law) := ⟨rfl, rfl, rfl, by decide +kernel, rfl, by decide +kernel, by decide +kernel⟩
def S_law (a : Addr) : SpW := fun ws mu P => ws = [.m a] ∧ ∀ mu', P (.bl true) mu'
theorem ok_law (F : Fun K "law" "law" s_law f fd) (B : Bl mg) (sc : Scr base a ns) (D_jar : DefOk P w K mg base "_law_jar" ["_law_script", "_law_k"] 1 (S_jar a)) (D_right : DefG P w K mg base "_law_right" ["_law_jar_here"] 11 S_right) : FnG P w K mg base 12 f fd ["_law_script"] (spW K (S_law a)) := by
  refine okG F sc_law (fun ws mu P ⟨e, _⟩ => by rw [e]; rfl) (fun cdv A outer s H E hr hgd ws mu Pt ⟨e, h⟩ => ?_)
  subst e
  refine sss_cons ?_
  refine ss_for PassesOwn.never rfl (by intro _; rfl) ?_
  refine si_range ?_ B.range
  refine se_blt (call_max2 rfl) max2_w B.max ?_
  refine sa_cons (se_int (sa_cons (se_blt (call_min2 rfl) min2_w B.min ?_)))
  refine sa_cons (se_int (sa_cons (se_lenB sc (se_var (i := 0) rfl ⟨rfl, sa_nil ?_⟩) B.len)))
  refine ⟨_, _, rfl, sa_nil ⟨_, _, rfl, ?_⟩⟩
  have hr4 : ∀ n : Nat, ∃ r : Nat, r ≤ 4 ∧ (if (if ((n : Nat) : Int) < 4 then ((n : Nat) : Int) else 4) > 1 then (if ((n : Nat) : Int) < 4 then ((n : Nat) : Int) else 4) else (1 : Int)) = (r : Nat) := fun n => by
    by_cases h1 : ((n : Nat) : Int) < 4
    · by_cases h2 : ((n : Nat) : Int) > 1
      · exact ⟨n, by omega, by rw [if_pos h1, if_pos h2]⟩
      · exact ⟨1, by omega, by rw [if_pos h1, if_neg h2]; rfl⟩
    · exact ⟨4, by omega, by rw [if_neg h1, if_pos (by decide)]; rfl⟩
  obtain ⟨r, r4, er⟩ := hr4 ns.length
  rw [er]
  refine ⟨by omega, by omega, ?_⟩
  rw [Int.toNat_natCast]
  refine ⟨fun i G' mu' => ∃ x y, G' = [some (.m a), x, y, none], ⟨none, none, rfl⟩, fun _ _ _ _ _ => trivial, fun i u G' mu' hu ⟨x, y, eG⟩ => ?_, fun G' mu' ⟨x, y, eG⟩ => ?_⟩
  · subst eG
    have hi : i < r := by have := (List.getElem?_eq_some_iff.mp hu).1; simpa using this
    have eu : u = .int ((i : Nat) : Int) := by
      rw [List.getElem?_map, List.getElem?_range hi] at hu
      exact (Option.some.inj hu).symm
    subst eu
    refine sg_name (i := 1) ?_ sc_law.nd
    refine sss_cons (ss_asg (se_callD D_jar (hr.mono (by decide)) (sa_cons (se_var (i := 0) rfl (sa_cons (se_var (i := 1) rfl (sa_nil ?_)))))))
    refine ⟨i, rfl, by omega, fun j mu1 nj jar e1 => ?_⟩
    refine sg_name (i := 2) ?_ sc_law.nd
    refine sss_cons ?_
    refine ss_if ?_
    refine st_not ?_
    refine st_val ?_
    refine se_all ?_ B.all
    refine se_lc (own := [("_law_turn", 3)]) (.nm 3) rfl sc_law.nd (blkOk_by (N := ["_law_script", "_law_k", "_law_jar_here", "_law_turn"]) (sc := defScope s_law) (by decide +kernel)) rfl (fun _ _ _ _ _ => (pg_name (i := 3) sc_law.nd rfl (Or.inl rfl))) (by intro _; rfl) ?_
    refine si_range ?_ B.range
    refine se_int ?_
    refine ⟨by decide, by decide, ?_⟩
    intro D hD
    refine ⟨fun k acc mu2 => acc = List.replicate k (W.bl true) ∧ JarOk mu2 j (k * 500), ⟨rfl, jar⟩, fun _ _ _ _ _ => trivial, fun k v acc mu2 hv ⟨ea, jr⟩ => ?_, fun acc mu2 ⟨ea, jr⟩ => ?_⟩
    · have k2 : k < 2 := by have := (List.getElem?_eq_some_iff.mp hv).1; simpa using this
      refine ⟨by rw [ea, List.length_replicate]; exact Nat.lt_of_lt_of_le k2 (by decide), _, rfl, fun s H C cl fp => ?_⟩
      refine se_callG D_right (hr.mono (by decide)) hgd (sa_cons (se_var (i := 2) rfl (sa_nil ?_)))
      refine ⟨j, k * 500, rfl, jr, by omega, fun mu3 j3 _ => ⟨?_, j3.mono (by omega)⟩⟩
      rw [ea, List.replicate_succ']
    · refine ⟨[true, true], by rw [setM_same, ea]; rfl, ?_⟩
      refine sss_nil ?_
      refine sss_nil ?_
      exact ⟨_, _, rfl⟩
  · subst eG
    exact sss_cons (ss_ret (se_bl (h _)))
end
end K1
set_option Elab.async false
set_option linter.all false
set_option maxRecDepth 100000
/-! All together. -/
namespace K1
open PySem L2 Dv
section
variable {P : Program} {w : World} {K : PySem.W.Frag} {mg : Str → Option Value} {h : Heap}
theorem dfn_by {x : Str} {st : Stmt} {ps : List Str} {f : Addr} {oc : Value} {od an : Option Addr} {osl : Array (Option Value)} {kV doc pm cdv ct : Value} (X : K.In h) (G : h.Ns mainGlobals mg)
    (b : ∀ (kV doc pm : Value) (an : Option Addr) (cdv ct : Value) (us : List Value), us.length = ps.length → bindArgs (PySem.W.fnOf x x (defArgs st) (defBody st) (defScope st) .none kV doc pm an cdv ct) ⟨us, []⟩ = pure (ps.zip us))
    (a : PySem.W.nsIn K mainGlobals x = some (some (.ref f))) (l : K.lookup f = some ⟨oc, od, .func (PySem.W.fnOf x x (defArgs st) (defBody st) (defScope st) .none kV doc pm an cdv ct), osl⟩)
    (c : PySem.W.codeIn K cdv x = true) (k : PySem.W.keepIn K (.ref f) = true) : Dfn K mg x st ps :=
  ⟨f, _, fun_mk l c k, PySem.W.mg_of X G a, (fun_mk l c k).binds b⟩
theorem mdfn_by {C : Addr} {x qual : Str} {st : Stmt} {ps : List Str} {f : Addr} {oc : Value} {od an : Option Addr} {osl : Array (Option Value)} {kV doc pm cdv ct : Value}
    (b : ∀ (kV doc pm : Value) (an : Option Addr) (cdv ct : Value) (us : List Value), us.length = ps.length → bindArgs (PySem.W.fnOf x qual (defArgs st) (defBody st) (defScope st) .none kV doc pm an cdv ct) ⟨us, []⟩ = pure (ps.zip us))
    (a : PySem.W.findIn K (.ref C) x = some (some (.ref f))) (i : PySem.W.isFn K (.ref f) = true) (l : K.lookup f = some ⟨oc, od, .func (PySem.W.fnOf x qual (defArgs st) (defBody st) (defScope st) .none kV doc pm an cdv ct), osl⟩)
    (c : PySem.W.codeIn K cdv qual = true) (k : PySem.W.keepIn K (.ref f) = true) : MDfn K C x qual st ps :=
  ⟨f, _, fun_mk l c k, ⟨a, i, k⟩, (fun_mk l c k).binds b⟩
theorem kdfn_by {C : Addr} {x qual : Str} {st : Stmt} {ps : List Str} {f : Addr} {oc : Value} {od an : Option Addr} {osl : Array (Option Value)} {kV doc pm cdv ct : Value} (X : K.In h) (G : h.Ns mainGlobals mg)
    (b : ∀ (kV doc pm : Value) (an : Option Addr) (cdv ct : Value) (us : List Value), us.length = ps.length → bindArgs (PySem.W.fnOf "__init__" qual (defArgs st) (defBody st) (defScope st) .none kV doc pm an cdv ct) ⟨us, []⟩ = pure (ps.zip us))
    (g : PySem.W.nsIn K mainGlobals x = some (some (.ref C))) (m : PySem.W.makesIn K C = true) (kc : PySem.W.keepIn K (.ref C) = true)
    (a : PySem.W.findIn K (.ref C) "__init__" = some (some (.ref f))) (i : PySem.W.isFn K (.ref f) = true) (l : K.lookup f = some ⟨oc, od, .func (PySem.W.fnOf "__init__" qual (defArgs st) (defBody st) (defScope st) .none kV doc pm an cdv ct), osl⟩)
    (c : PySem.W.codeIn K cdv qual = true) (k : PySem.W.keepIn K (.ref f) = true) : KDfn K mg x C qual st ps :=
  ⟨f, _, fun_mk l c k, ⟨m, a, i, kc⟩, PySem.W.mg_of X G g, (fun_mk l c k).binds b⟩
theorem kit_same {C : Addr} : PySem.W.kitOne K (.ref C) (.ref C) = some true := by
  unfold PySem.W.kitOne
  rw [if_pos (by simp)]
theorem kit_no {C : Addr} {T : String} {c : _} (h1 : PySem.W.clsIn K C = some c) (h2 : PySem.W.typeIn K (.ref C) = some (.type "type")) (h3 : PySem.W.subIn K (.type T) (.ref C) = some false) : PySem.W.kitOne K (.type T) (.ref C) = some false := by
  unfold PySem.W.kitOne PySem.W.kitCls
  rw [if_neg (by simp)]
  simp only [h1, h2]
  exact h3
theorem wcls_by {C : Addr} (X : K.In h) (G : h.Ns mainGlobals mg) (a : PySem.W.nsIn K mainGlobals "World" = some (some (.ref C))) (pg : PySem.W.plainGet K C Str.empty = true) (hd : PySem.W.hasDictIn K C = true) (po : PySem.W.plainOver K C = true)
    (sa : PySem.W.findIn K (.ref C) "__setattr__" = some (some (.builtin "object.__setattr__"))) (n1 : PySem.W.findIn K (.ref C) "houses" = some none) (n2 : PySem.W.findIn K (.ref C) "slots" = some none) (n3 : PySem.W.findIn K (.ref C) "bears" = some none)
    (n4 : PySem.W.findIn K (.ref C) "never" = some none) (n5 : PySem.W.findIn K (.ref C) "lapses" = some none) (n6 : PySem.W.findIn K (.ref C) "first" = some none) (n7 : PySem.W.findIn K (.ref C) "stands" = some none) : WCls K mg C :=
  ⟨⟨pg, hd, po, sa⟩, n1, n2, n3, n4, n5, n6, n7, PySem.W.mg_of X G a⟩
theorem iscls_by {C : Addr} {c : _} (cl : Cls K C) (h1 : PySem.W.clsIn K C = some c) (h2 : PySem.W.typeIn K (.ref C) = some (.type "type")) (s1 : PySem.W.subIn K (.type "NoneType") (.ref C) = some false) (s2 : PySem.W.subIn K (.type "int") (.ref C) = some false) (s3 : PySem.W.subIn K (.type "str") (.ref C) = some false) (s4 : PySem.W.subIn K (.type "tuple") (.ref C) = some false)
    (ha : PySem.W.findIn K (.ref C) "__class__" = some (some (.builtin "object.__class__"))) (hn : PySem.W.specialIn K (.builtin "object.__class__") "__get__" = some (some (.builtin "getset_descriptor.__get__"))) (ht : PySem.W.takesIn K (.builtin "object.__class__") = some true) (hm : PySem.W.mroIn K C (.type "object") = some true) : IsCls K C :=
  ⟨cl, ha, hn, ht, hm, kit_same, kit_no h1 h2 s1, kit_no h1 h2 s2, kit_no h1 h2 s3, kit_no h1 h2 s4⟩
theorem bl_by (X : K.In h) (G : h.Ns mainGlobals mg) {t1 t2 : Tok} (b1 : PySem.W.nsIn K mainGlobals "isinstance" = some none) (b2 : PySem.W.nsIn K mainGlobals "tuple" = some none) (b3 : PySem.W.nsIn K mainGlobals "list" = some none) (b4 : PySem.W.nsIn K mainGlobals "str" = some none)
    (b5 : PySem.W.nsIn K mainGlobals "len" = some none) (b6 : PySem.W.nsIn K mainGlobals "all" = some none) (b7 : PySem.W.nsIn K mainGlobals "any" = some none) (b8 : PySem.W.nsIn K mainGlobals "zip" = some none) (b9 : PySem.W.nsIn K mainGlobals "set" = some none)
    (b10 : PySem.W.nsIn K mainGlobals "range" = some none) (b11 : PySem.W.nsIn K mainGlobals "sorted" = some none) (b12 : PySem.W.nsIn K mainGlobals "int" = some none) (b13 : PySem.W.nsIn K mainGlobals "abs" = some none) (b14 : PySem.W.nsIn K mainGlobals "min" = some none)
    (b15 : PySem.W.nsIn K mainGlobals "max" = some none) (b16 : PySem.W.nsIn K mainGlobals "enumerate" = some none) (b17 : PySem.W.nsIn K mainGlobals "dict" = some none) (b18 : PySem.W.nsIn K mainGlobals "repr" = some none)
    (b19 : PySem.W.nsIn K mainGlobals "LETTERS" = some (some (.str "abcdefghijklmnopqrstuvwxyz" t1))) (b20 : PySem.W.nsIn K mainGlobals "MOST_STANDS" = some (some (.int 32 t2))) : Bl mg :=
  ⟨PySem.W.mg_none_of X G b1, PySem.W.mg_none_of X G b2, PySem.W.mg_none_of X G b3, PySem.W.mg_none_of X G b4, PySem.W.mg_none_of X G b5, PySem.W.mg_none_of X G b6, PySem.W.mg_none_of X G b7, PySem.W.mg_none_of X G b8, PySem.W.mg_none_of X G b9, PySem.W.mg_none_of X G b10, PySem.W.mg_none_of X G b11, PySem.W.mg_none_of X G b12, PySem.W.mg_none_of X G b13, PySem.W.mg_none_of X G b14, PySem.W.mg_none_of X G b15, PySem.W.mg_none_of X G b16, PySem.W.mg_none_of X G b17, PySem.W.mg_none_of X G b18, ⟨_, PySem.W.mg_of X G b19⟩, ⟨_, PySem.W.mg_of X G b20⟩⟩
set_option maxHeartbeats 1000000 in
theorem all_by {Cl fa : Addr} (hfa : mg "law" = some (.ref fa)) (C : WCls K mg Cl) (Z : IsCls K Cl) (T : NoSub K Cl) (hobj : PySem.W.mroIn K Cl (.type "object") = some true) (hne : PySem.W.findIn K (.ref Cl) "__ne__" = some (some (.builtin "object.__ne__")))
    (B : Bl mg) (D_law : Dfn K mg "law" s_law ["_law_script"])
    (D_is_tuple : Dfn K mg "is_tuple" s_is_tuple ["value", "least", "most"])
    (D_is_rising : Dfn K mg "is_rising" s_is_rising ["values"])
    (D_is_name : Dfn K mg "is_name" s_is_name ["value"])
    (D_are_names : Dfn K mg "are_names" s_are_names ["value", "least", "most"])
    (D_are_houses : Dfn K mg "are_houses" s_are_houses ["value"])
    (D_are_different : Dfn K mg "are_different" s_are_different ["names"])
    (D_is_slot : Dfn K mg "is_slot" s_is_slot ["houses", "value"])
    (D_is_pair_over : Dfn K mg "is_pair_over" s_is_pair_over ["slots", "value"])
    (D_is_pattern_over : Dfn K mg "is_pattern_over" s_is_pattern_over ["slots", "value"])
    (D_are_full_patterns : Dfn K mg "are_full_patterns" s_are_full_patterns ["slots", "value"])
    (D_is_pattern_at : Dfn K mg "is_pattern_at" s_is_pattern_at ["slots", "house", "value"])
    (D_is_lapse : Dfn K mg "is_lapse" s_is_lapse ["slots", "value"])
    (D_first_stand : Dfn K mg "first_stand" s_first_stand ["slots"])
    (D_count_stands : Dfn K mg "count_stands" s_count_stands ["slots"])
    (D_are_slots : Dfn K mg "are_slots" s_are_slots ["houses", "value"])
    (D_pattern_holds : Dfn K mg "pattern_holds" s_pattern_holds ["slots", "pattern", "stand"])
    (D_one_holds : Dfn K mg "one_holds" s_one_holds ["slots", "patterns", "stand"])
    (D_all_stands : Dfn K mg "all_stands" s_all_stands ["slots"])
    (D_is_world : Dfn K mg "is_world" s_is_world ["houses", "slots", "bears", "never", "lapses"])
    (D_World_init : KDfn K mg "World" Cl "World.__init__" s_World___init__ ["self", "houses", "slots", "bears", "never", "lapses"])
    (D_World_is_stand : MDfn K Cl "is_stand" "World.is_stand" s_World_is_stand ["self", "value"])
    (D_World__check_stand : MDfn K Cl "_check_stand" "World._check_stand" s_World__check_stand ["self", "value"])
    (D_World_has_row : MDfn K Cl "has_row" "World.has_row" s_World_has_row ["self", "stand"])
    (D_World_is_broken : MDfn K Cl "is_broken" "World.is_broken" s_World_is_broken ["self", "stand"])
    (D_World_eq : MDfn K Cl "__eq__" "World.__eq__" s_World_eq ["self", "other"])
    (D_Ltake : Dfn K mg "_law_take" s_Ltake ["_law_jar_here", "_law_many"])
    (D_Lof : Dfn K mg "_law_of" s_Lof ["_law_jar_here", "_law_some"])
    (D_Lnames : Dfn K mg "_law_names" s_Lnames ["_law_jar_here", "_law_many"])
    (D_Lmixed : Dfn K mg "_law_mixed" s_Lmixed ["_law_jar_here", "_law_items"])
    (D_Lpart : Dfn K mg "_law_part" s_Lpart ["_law_jar_here", "_law_slots", "_law_least"])
    (D_Lheld_back : Dfn K mg "_law_held_back" s_Lheld_back ["_law_jar_here", "_law_slots"])
    (D_Lparts : Dfn K mg "_law_parts" s_Lparts ["_law_jar_here"])
    (D_Lfive : Dfn K mg "_law_five" s_Lfive ["_law_lore"])
    (D_Lmade : Dfn K mg "_law_made" s_Lmade ["_law_lore"])
    (D_Lfirst : Dfn K mg "_law_first" s_Lfirst ["_law_lore"])
    (D_Lstands : Dfn K mg "_law_stands" s_Lstands ["_law_lore"])
    (D_Lis_held : Dfn K mg "_law_is_held" s_Lis_held ["_law_lore", "_law_pattern", "_law_stand"])
    (D_Lhas_row : Dfn K mg "_law_has_row" s_Lhas_row ["_law_lore", "_law_stand"])
    (D_Lbroken : Dfn K mg "_law_broken" s_Lbroken ["_law_lore", "_law_stand"])
    (D_Lnear : Dfn K mg "_law_near" s_Lnear ["_law_jar_here", "_law_lore"])
    (D_Lright : Dfn K mg "_law_right" s_Lright ["_law_jar_here"])
    (D_Ljar : Dfn K mg "_law_jar" s_Ljar ["_law_script", "_law_k"]) :
    ∃ fd : FuncData, (∀ (s : Shared) (v : Value), BindsTo s fd ⟨[v], []⟩ [("_law_script", v)]) ∧ ∀ (base : Heap) (a : Addr) (ns : List Int), K.In base → base.Ns mainGlobals mg → Scr base a ns → FnG P w K mg base 12 fa fd ["_law_script"] (spW K (S_law a)) := by
  obtain ⟨f, fd, F, hm, hb⟩ := D_law.ex
  have e := hfa.symm.trans hm
  cases e
  refine ⟨fd, fun s v => ?_, fun base a ns _ _ sc => ?_⟩
  · obtain ⟨oc, od, kV, doc, pm, an, cdv, ct, osl, efd, lk, hcd⟩ := F.ex
    subst efd
    exact .of_eq rfl
  · skip
    have E_is_tuple := d_is_tuple (P := P) (w := w) (base := base) D_is_tuple B
    have E_is_rising := d_is_rising (P := P) (w := w) (base := base) D_is_rising B
    have E_is_name := d_is_name (P := P) (w := w) (base := base) D_is_name B
    have E_are_names := d_are_names (P := P) (w := w) (base := base) D_are_names B E_is_tuple E_is_name
    have E_are_houses := d_are_houses (P := P) (w := w) (base := base) D_are_houses B E_are_names E_is_rising
    have E_are_different := d_are_different (P := P) (w := w) (base := base) D_are_different B
    have E_is_slot := d_is_slot (P := P) (w := w) (base := base) D_is_slot B E_is_tuple E_is_name E_are_names E_are_different
    have E_is_pair_over := d_is_pair_over (P := P) (w := w) (base := base) D_is_pair_over B E_is_tuple
    have E_is_pattern_over := d_is_pattern_over (P := P) (w := w) (base := base) D_is_pattern_over B E_is_pair_over E_is_rising
    have E_are_full_patterns := d_are_full_patterns (P := P) (w := w) (base := base) D_are_full_patterns B E_is_pattern_over E_is_rising
    have E_is_pattern_at := d_is_pattern_at (P := P) (w := w) (base := base) D_is_pattern_at B E_is_pattern_over
    have E_is_lapse := d_is_lapse (P := P) (w := w) (base := base) D_is_lapse B E_is_tuple E_is_pattern_at
    have E_first_stand := d_first_stand (P := P) (w := w) (base := base) D_first_stand B
    have E_count_stands := d_count_stands (P := P) (w := w) (base := base) D_count_stands B
    have E_are_slots := d_are_slots (P := P) (w := w) (base := base) D_are_slots B E_is_tuple E_is_slot E_are_different E_count_stands
    have E_pattern_holds := d_pattern_holds (P := P) (w := w) (base := base) D_pattern_holds B
    have E_one_holds := d_one_holds (P := P) (w := w) (base := base) D_one_holds B E_pattern_holds
    have E_all_stands := d_all_stands (P := P) (w := w) (base := base) D_all_stands B
    have E_is_world := d_is_world (P := P) (w := w) (base := base) D_is_world B E_are_houses E_are_slots E_are_full_patterns E_first_stand E_one_holds E_is_tuple E_is_lapse
    have E_World_init := d_World_init (P := P) (w := w) (base := base) D_World_init C B E_is_world E_first_stand E_all_stands
    have E_World_is_stand := d_World_is_stand (P := P) (w := w) (base := base) D_World_is_stand C
    have E_World__check_stand := d_World__check_stand (P := P) (w := w) (base := base) D_World__check_stand C E_World_is_stand
    have E_World_has_row := d_World_has_row (P := P) (w := w) (base := base) D_World_has_row C E_World__check_stand E_one_holds
    have E_World_is_broken := d_World_is_broken (P := P) (w := w) (base := base) D_World_is_broken C E_World__check_stand E_one_holds
    have E_World_eq := d_World_eq (P := P) (w := w) (base := base) D_World_eq C Z B
    have E_Ltake := d_Ltake (P := P) (w := w) (base := base) D_Ltake B
    have E_Lof := d_Lof (P := P) (w := w) (base := base) D_Lof B E_Ltake
    have E_Lnames := d_Lnames (P := P) (w := w) (base := base) D_Lnames B E_Ltake E_Lof
    have E_Lmixed := d_Lmixed (P := P) (w := w) (base := base) D_Lmixed B E_Ltake
    have E_Lpart := d_Lpart (P := P) (w := w) (base := base) D_Lpart B E_Ltake E_Lof
    have E_Lheld_back := d_Lheld_back (P := P) (w := w) (base := base) D_Lheld_back B E_Ltake E_Lof
    have E_Lparts := d_Lparts (P := P) (w := w) (base := base) D_Lparts B E_Ltake E_Lof E_Lnames E_Lmixed E_Lheld_back E_Lpart
    have E_Lfive := d_Lfive (P := P) (w := w) (base := base) D_Lfive
    have E_Lmade := d_Lmade (P := P) (w := w) (base := base) D_Lmade E_World_init
    have E_Lfirst := d_Lfirst (P := P) (w := w) (base := base) D_Lfirst B
    have E_Lstands := d_Lstands (P := P) (w := w) (base := base) D_Lstands B
    have E_Lis_held := d_Lis_held (P := P) (w := w) (base := base) D_Lis_held B
    have E_Lhas_row := d_Lhas_row (P := P) (w := w) (base := base) D_Lhas_row B E_Lis_held
    have E_Lbroken := d_Lbroken (P := P) (w := w) (base := base) D_Lbroken B E_Lis_held
    have E_Lnear := d_Lnear (P := P) (w := w) (base := base) D_Lnear B E_Ltake
    have Q : EqCls P w K mg base Cl := ⟨E_World_eq, T, hobj, hne⟩
    have E_Lright := d_Lright (P := P) (w := w) (base := base) D_Lright B C Q E_Lparts E_Lfive E_Lmade E_Lfirst E_Lstands E_Lhas_row E_Lbroken E_World_has_row E_World_is_broken E_Lnear
    exact ok_law F B sc (d_Ljar sc D_Ljar B) E_Lright
end
end K1
set_option Elab.async false
set_option linter.all false
set_option maxRecDepth 100000
open PySem PySem.W PyProof.Rows
set_option maxHeartbeats 0 in
theorem PySem.Challenge.cw_unlikekeys_k01_worlds_as_they_were_made_holds : PySem.Challenge.rw_unlikekeys_k01_worlds_as_they_were_made.Holds := by
  w_on; o_law; k_head; (case hw => w_witness2)
  k_fill
  refine Dv.walkG (l := PySem.Challenge.rw_unlikekeys_k01_worlds_as_they_were_made) (k := 12) (S := K1.S_law) (x := "_law_script") rfl rfl ⟨rfl, by decide, by decide⟩ (fun w h Y => PySem.W.kIn_of Y) ?F ?S
  case S => exact fun a P h => ⟨rfl, h⟩
  case F =>
    intro w mg fa h KX G hmg
    refine' K1.all_by hmg ?C ?Z ?T ?hobj ?hne ?B ?Dlaw ?D_is_tuple ?D_is_rising ?D_is_name ?D_are_names ?D_are_houses ?D_are_different ?D_is_slot ?D_is_pair_over ?D_is_pattern_over ?D_are_full_patterns ?D_is_pattern_at ?D_is_lapse ?D_first_stand ?D_count_stands ?D_are_slots ?D_pattern_holds ?D_one_holds ?D_all_stands ?D_is_world ?D_World_init ?D_World_is_stand ?D_World__check_stand ?D_World_has_row ?D_World_is_broken ?D_World_eq ?D_Ltake ?D_Lof ?D_Lnames ?D_Lmixed ?D_Lpart ?D_Lheld_back ?D_Lparts ?D_Lfive ?D_Lmade ?D_Lfirst ?D_Lstands ?D_Lis_held ?D_Lhas_row ?D_Lbroken ?D_Lnear ?D_Lright ?D_Ljar
    case C =>
      refine' K1.wcls_by KX G ?aC ?pg ?hd ?po ?sa ?n1 ?n2 ?n3 ?n4 ?n5 ?n6 ?n7
      (case aC => k_is); (case pg => k_is); (case hd => k_is); (case po => k_is); (case sa => k_is); (case n1 => k_is); (case n2 => k_is); (case n3 => k_is); (case n4 => k_is); (case n5 => k_is); (case n6 => k_is); (case n7 => k_is)
    case Z =>
      refine' K1.iscls_by ⟨?pg, ?hd, ?po, ?sa⟩ ?h1 ?h2 ?s1 ?s2 ?s3 ?s4 ?ha ?hn ?ht ?hm
      (case pg => k_is); (case hd => k_is); (case po => k_is); (case sa => k_is); (case h1 => k_is); (case h2 => k_is); (case s1 => k_is); (case s2 => k_is); (case s3 => k_is); (case s4 => k_is); (case ha => k_is); (case hn => k_is); (case ht => k_is); (case hm => k_is)
    case T =>
      refine' ⟨?non, ?int, ?str, ?tup⟩
      (case non => k_is); (case int => k_is); (case str => k_is); (case tup => k_is)
    case hobj => k_is
    case hne => k_is
    case B =>
      refine' K1.bl_by KX G ?b1 ?b2 ?b3 ?b4 ?b5 ?b6 ?b7 ?b8 ?b9 ?b10 ?b11 ?b12 ?b13 ?b14 ?b15 ?b16 ?b17 ?b18 ?b19 ?b20
      (case b1 => k_is); (case b2 => k_is); (case b3 => k_is); (case b4 => k_is); (case b5 => k_is); (case b6 => k_is); (case b7 => k_is); (case b8 => k_is); (case b9 => k_is); (case b10 => k_is); (case b11 => k_is); (case b12 => k_is); (case b13 => k_is); (case b14 => k_is); (case b15 => k_is); (case b16 => k_is); (case b17 => k_is); (case b18 => k_is); (case b19 => k_is); (case b20 => k_is)
    case Dlaw =>
      refine' K1.dfn_by KX G (fun _ _ _ _ _ _ us hl => match us, hl with | [_], _ => rfl) ?a ?l ?c ?k
      (case a => k_is); (case l => k_is); (case c => k_is); (case k => k_is)
    case D_is_tuple =>
      refine' K1.dfn_by KX G (fun _ _ _ _ _ _ us hl => match us, hl with | [_, _, _], _ => rfl) ?a ?l ?c ?k
      (case a => k_is); (case l => k_is); (case c => k_is); (case k => k_is)
    case D_is_rising =>
      refine' K1.dfn_by KX G (fun _ _ _ _ _ _ us hl => match us, hl with | [_], _ => rfl) ?a ?l ?c ?k
      (case a => k_is); (case l => k_is); (case c => k_is); (case k => k_is)
    case D_is_name =>
      refine' K1.dfn_by KX G (fun _ _ _ _ _ _ us hl => match us, hl with | [_], _ => rfl) ?a ?l ?c ?k
      (case a => k_is); (case l => k_is); (case c => k_is); (case k => k_is)
    case D_are_names =>
      refine' K1.dfn_by KX G (fun _ _ _ _ _ _ us hl => match us, hl with | [_, _, _], _ => rfl) ?a ?l ?c ?k
      (case a => k_is); (case l => k_is); (case c => k_is); (case k => k_is)
    case D_are_houses =>
      refine' K1.dfn_by KX G (fun _ _ _ _ _ _ us hl => match us, hl with | [_], _ => rfl) ?a ?l ?c ?k
      (case a => k_is); (case l => k_is); (case c => k_is); (case k => k_is)
    case D_are_different =>
      refine' K1.dfn_by KX G (fun _ _ _ _ _ _ us hl => match us, hl with | [_], _ => rfl) ?a ?l ?c ?k
      (case a => k_is); (case l => k_is); (case c => k_is); (case k => k_is)
    case D_is_slot =>
      refine' K1.dfn_by KX G (fun _ _ _ _ _ _ us hl => match us, hl with | [_, _], _ => rfl) ?a ?l ?c ?k
      (case a => k_is); (case l => k_is); (case c => k_is); (case k => k_is)
    case D_is_pair_over =>
      refine' K1.dfn_by KX G (fun _ _ _ _ _ _ us hl => match us, hl with | [_, _], _ => rfl) ?a ?l ?c ?k
      (case a => k_is); (case l => k_is); (case c => k_is); (case k => k_is)
    case D_is_pattern_over =>
      refine' K1.dfn_by KX G (fun _ _ _ _ _ _ us hl => match us, hl with | [_, _], _ => rfl) ?a ?l ?c ?k
      (case a => k_is); (case l => k_is); (case c => k_is); (case k => k_is)
    case D_are_full_patterns =>
      refine' K1.dfn_by KX G (fun _ _ _ _ _ _ us hl => match us, hl with | [_, _], _ => rfl) ?a ?l ?c ?k
      (case a => k_is); (case l => k_is); (case c => k_is); (case k => k_is)
    case D_is_pattern_at =>
      refine' K1.dfn_by KX G (fun _ _ _ _ _ _ us hl => match us, hl with | [_, _, _], _ => rfl) ?a ?l ?c ?k
      (case a => k_is); (case l => k_is); (case c => k_is); (case k => k_is)
    case D_is_lapse =>
      refine' K1.dfn_by KX G (fun _ _ _ _ _ _ us hl => match us, hl with | [_, _], _ => rfl) ?a ?l ?c ?k
      (case a => k_is); (case l => k_is); (case c => k_is); (case k => k_is)
    case D_first_stand =>
      refine' K1.dfn_by KX G (fun _ _ _ _ _ _ us hl => match us, hl with | [_], _ => rfl) ?a ?l ?c ?k
      (case a => k_is); (case l => k_is); (case c => k_is); (case k => k_is)
    case D_count_stands =>
      refine' K1.dfn_by KX G (fun _ _ _ _ _ _ us hl => match us, hl with | [_], _ => rfl) ?a ?l ?c ?k
      (case a => k_is); (case l => k_is); (case c => k_is); (case k => k_is)
    case D_are_slots =>
      refine' K1.dfn_by KX G (fun _ _ _ _ _ _ us hl => match us, hl with | [_, _], _ => rfl) ?a ?l ?c ?k
      (case a => k_is); (case l => k_is); (case c => k_is); (case k => k_is)
    case D_pattern_holds =>
      refine' K1.dfn_by KX G (fun _ _ _ _ _ _ us hl => match us, hl with | [_, _, _], _ => rfl) ?a ?l ?c ?k
      (case a => k_is); (case l => k_is); (case c => k_is); (case k => k_is)
    case D_one_holds =>
      refine' K1.dfn_by KX G (fun _ _ _ _ _ _ us hl => match us, hl with | [_, _, _], _ => rfl) ?a ?l ?c ?k
      (case a => k_is); (case l => k_is); (case c => k_is); (case k => k_is)
    case D_all_stands =>
      refine' K1.dfn_by KX G (fun _ _ _ _ _ _ us hl => match us, hl with | [_], _ => rfl) ?a ?l ?c ?k
      (case a => k_is); (case l => k_is); (case c => k_is); (case k => k_is)
    case D_is_world =>
      refine' K1.dfn_by KX G (fun _ _ _ _ _ _ us hl => match us, hl with | [_, _, _, _, _], _ => rfl) ?a ?l ?c ?k
      (case a => k_is); (case l => k_is); (case c => k_is); (case k => k_is)
    case D_World_init =>
      refine' K1.kdfn_by KX G (fun _ _ _ _ _ _ us hl => match us, hl with | [_, _, _, _, _, _], _ => rfl) ?g ?m ?kc ?a ?i ?l ?c ?k
      (case g => k_is); (case m => k_is); (case kc => k_is); (case a => k_is); (case i => k_is); (case l => k_is); (case c => k_is); (case k => k_is)
    case D_World_is_stand =>
      refine' K1.mdfn_by (fun _ _ _ _ _ _ us hl => match us, hl with | [_, _], _ => rfl) ?a ?i ?l ?c ?k
      (case a => k_is); (case i => k_is); (case l => k_is); (case c => k_is); (case k => k_is)
    case D_World__check_stand =>
      refine' K1.mdfn_by (fun _ _ _ _ _ _ us hl => match us, hl with | [_, _], _ => rfl) ?a ?i ?l ?c ?k
      (case a => k_is); (case i => k_is); (case l => k_is); (case c => k_is); (case k => k_is)
    case D_World_has_row =>
      refine' K1.mdfn_by (fun _ _ _ _ _ _ us hl => match us, hl with | [_, _], _ => rfl) ?a ?i ?l ?c ?k
      (case a => k_is); (case i => k_is); (case l => k_is); (case c => k_is); (case k => k_is)
    case D_World_is_broken =>
      refine' K1.mdfn_by (fun _ _ _ _ _ _ us hl => match us, hl with | [_, _], _ => rfl) ?a ?i ?l ?c ?k
      (case a => k_is); (case i => k_is); (case l => k_is); (case c => k_is); (case k => k_is)
    case D_World_eq =>
      refine' K1.mdfn_by (fun _ _ _ _ _ _ us hl => match us, hl with | [_, _], _ => rfl) ?a ?i ?l ?c ?k
      (case a => k_is); (case i => k_is); (case l => k_is); (case c => k_is); (case k => k_is)
    case D_Ltake =>
      refine' K1.dfn_by KX G (fun _ _ _ _ _ _ us hl => match us, hl with | [_, _], _ => rfl) ?a ?l ?c ?k
      (case a => k_is); (case l => k_is); (case c => k_is); (case k => k_is)
    case D_Lof =>
      refine' K1.dfn_by KX G (fun _ _ _ _ _ _ us hl => match us, hl with | [_, _], _ => rfl) ?a ?l ?c ?k
      (case a => k_is); (case l => k_is); (case c => k_is); (case k => k_is)
    case D_Lnames =>
      refine' K1.dfn_by KX G (fun _ _ _ _ _ _ us hl => match us, hl with | [_, _], _ => rfl) ?a ?l ?c ?k
      (case a => k_is); (case l => k_is); (case c => k_is); (case k => k_is)
    case D_Lmixed =>
      refine' K1.dfn_by KX G (fun _ _ _ _ _ _ us hl => match us, hl with | [_, _], _ => rfl) ?a ?l ?c ?k
      (case a => k_is); (case l => k_is); (case c => k_is); (case k => k_is)
    case D_Lpart =>
      refine' K1.dfn_by KX G (fun _ _ _ _ _ _ us hl => match us, hl with | [_, _, _], _ => rfl) ?a ?l ?c ?k
      (case a => k_is); (case l => k_is); (case c => k_is); (case k => k_is)
    case D_Lheld_back =>
      refine' K1.dfn_by KX G (fun _ _ _ _ _ _ us hl => match us, hl with | [_, _], _ => rfl) ?a ?l ?c ?k
      (case a => k_is); (case l => k_is); (case c => k_is); (case k => k_is)
    case D_Lparts =>
      refine' K1.dfn_by KX G (fun _ _ _ _ _ _ us hl => match us, hl with | [_], _ => rfl) ?a ?l ?c ?k
      (case a => k_is); (case l => k_is); (case c => k_is); (case k => k_is)
    case D_Lfive =>
      refine' K1.dfn_by KX G (fun _ _ _ _ _ _ us hl => match us, hl with | [_], _ => rfl) ?a ?l ?c ?k
      (case a => k_is); (case l => k_is); (case c => k_is); (case k => k_is)
    case D_Lmade =>
      refine' K1.dfn_by KX G (fun _ _ _ _ _ _ us hl => match us, hl with | [_], _ => rfl) ?a ?l ?c ?k
      (case a => k_is); (case l => k_is); (case c => k_is); (case k => k_is)
    case D_Lfirst =>
      refine' K1.dfn_by KX G (fun _ _ _ _ _ _ us hl => match us, hl with | [_], _ => rfl) ?a ?l ?c ?k
      (case a => k_is); (case l => k_is); (case c => k_is); (case k => k_is)
    case D_Lstands =>
      refine' K1.dfn_by KX G (fun _ _ _ _ _ _ us hl => match us, hl with | [_], _ => rfl) ?a ?l ?c ?k
      (case a => k_is); (case l => k_is); (case c => k_is); (case k => k_is)
    case D_Lis_held =>
      refine' K1.dfn_by KX G (fun _ _ _ _ _ _ us hl => match us, hl with | [_, _, _], _ => rfl) ?a ?l ?c ?k
      (case a => k_is); (case l => k_is); (case c => k_is); (case k => k_is)
    case D_Lhas_row =>
      refine' K1.dfn_by KX G (fun _ _ _ _ _ _ us hl => match us, hl with | [_, _], _ => rfl) ?a ?l ?c ?k
      (case a => k_is); (case l => k_is); (case c => k_is); (case k => k_is)
    case D_Lbroken =>
      refine' K1.dfn_by KX G (fun _ _ _ _ _ _ us hl => match us, hl with | [_, _], _ => rfl) ?a ?l ?c ?k
      (case a => k_is); (case l => k_is); (case c => k_is); (case k => k_is)
    case D_Lnear =>
      refine' K1.dfn_by KX G (fun _ _ _ _ _ _ us hl => match us, hl with | [_, _], _ => rfl) ?a ?l ?c ?k
      (case a => k_is); (case l => k_is); (case c => k_is); (case k => k_is)
    case D_Lright =>
      refine' K1.dfn_by KX G (fun _ _ _ _ _ _ us hl => match us, hl with | [_], _ => rfl) ?a ?l ?c ?k
      (case a => k_is); (case l => k_is); (case c => k_is); (case k => k_is)
    case D_Ljar =>
      refine' K1.dfn_by KX G (fun _ _ _ _ _ _ us hl => match us, hl with | [_, _], _ => rfl) ?a ?l ?c ?k
      (case a => k_is); (case l => k_is); (case c => k_is); (case k => k_is)
