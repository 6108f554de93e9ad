/- What stands between two families of texts here. -/
import Derived.Test.YtfabmleiibnhdaaDoorAtAi
