/- Trades of heads (see HdTrade). -/
import Derived.Test.YtajfjkhbimehbaaHdTrade
