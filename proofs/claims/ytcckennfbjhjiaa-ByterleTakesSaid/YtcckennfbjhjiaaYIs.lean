
/- byterle's contracts, said of opaque values: what the laws ask. -/

import Derived.Test.YtcckennfbjhjiaaYTake
