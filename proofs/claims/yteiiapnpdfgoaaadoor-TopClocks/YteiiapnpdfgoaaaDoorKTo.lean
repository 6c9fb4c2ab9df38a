/- The calendar's minutes, as the texts on expressions ask for them. -/
import Derived.Test.YteiiapnpdfgoaaaDoorVTo
import Derived.Handy
