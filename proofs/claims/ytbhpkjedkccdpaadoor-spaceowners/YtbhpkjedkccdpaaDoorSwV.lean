
/- The code does what space does; no conditions but lengths and the library's table. -/
import Derived.Test.YtbhpkjedkccdpaaDoorSwE
import Derived.Test.YtbhpkjedkccdpaaDoorSgY
namespace Go.Proofs.YtbhpkjedkccdpaaDoor

theorem space_v : SpaceV where
  grow := fun q N p B f g i n w h hs hNB ht hx hm => sgrow_w q N p B f g i n w h hs hNB ht hx hm
  shrink := fun q N p B f g i n w h hs hNB hn hx _ => sshrink_w q N p B f g i n w h hs hNB hn hx
  back := fun q N p B f g w h hs hNB v l hl hv hb => sback_w q N p B f g w h hs hNB v l hl hv hb
  pages := fun q N p B f g i w h hs hNB hx => spages_w q N p B f g i w h hs hNB hx
  free := fun q N p B f g w h hs hNB => sfree_w q N p B f g w h hs hNB
end Go.Proofs.YtbhpkjedkccdpaaDoor
