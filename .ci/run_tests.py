"""Run the tests of the project and those beside it; fail if one fails, or if the project has none."""

import subprocess
import sys
import unittest
from pathlib import Path

TOP = Path(__file__).resolve().parent.parent
SHARED = TOP.parent / "shared" / "tests"


def run_folder(folder, top):
    """How many tests of a folder passed and failed."""
    found = unittest.TestLoader().discover(str(folder), pattern="test_*.py", top_level_dir=str(top))
    result = unittest.TextTestRunner(stream=sys.stdout, verbosity=1).run(found)
    failed = len(result.failures) + len(result.errors) + len(result.unexpectedSuccesses)
    return result.testsRun - failed, failed


def run_shared():
    """Run each file of tests beside the project by itself; tell whether all passed."""
    files = sorted(SHARED.rglob("test_*.py")) if SHARED.is_dir() else []
    passed = True
    for file in files:
        print(f"shared tests: {file.name}", flush=True)
        done = subprocess.run([sys.executable, "-m", "unittest", "-v", str(file.stem)], cwd=str(file.parent))
        # 5 is what unittest returns for a file without a test in it.
        passed = passed and done.returncode in (0, 5)
    return passed


def main():
    """Run all, and close with how many tests passed and failed."""
    shared_passed = run_shared()
    passed, failed = run_folder(TOP / "tests", TOP)
    if not shared_passed:
        failed += 1
    print(f"{passed} passed, {failed} failed", flush=True)
    return 0 if passed > 0 and failed == 0 else 1


if __name__ == "__main__":
    sys.exit(main())
