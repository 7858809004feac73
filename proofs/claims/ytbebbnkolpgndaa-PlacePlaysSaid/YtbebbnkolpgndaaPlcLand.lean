/- Package place: what it keeps (Tab; newT_any, putT_any, cutT_any, atT_any, onT_any, lenT_any, liveT_any, inT_any, allT_any; of nil put_nil .. len_nil). -/
import Derived.Test.YtbebbnkolpgndaaPLandI
