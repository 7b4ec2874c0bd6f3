"""Run the tests of the project, and each file of tests under ../shared/tests in a Python of its own."""

import os
import pathlib
import re
import subprocess
import sys

ROOT = pathlib.Path(__file__).resolve().parent.parent
SHARED = ROOT.parent / "shared" / "tests"


def run_tests(name, arguments):
    """Run unittest, show what it prints, and return how many tests passed and how many failed."""
    print(f"== {name}", flush=True)
    command = [sys.executable, "-B", "-m", "unittest", "discover", *arguments]
    settings = {**os.environ, "PYTHONPATH": str(ROOT), "PYTHONDONTWRITEBYTECODE": "1"}
    done = subprocess.run(command, cwd=ROOT, env=settings, stdout=subprocess.PIPE, stderr=subprocess.STDOUT, text=True)
    print(done.stdout, flush=True)
    found = [int(number) for number in re.findall(r"^Ran (\d+) tests? in", done.stdout, re.MULTILINE)]
    if done.returncode == 0 and found and found[-1] > 0:
        return found[-1], 0
    # A run without a test, or one that ended early, counts as a failure, too.
    told = re.findall(r"^FAILED \((.*)\)$", done.stdout, re.MULTILINE)
    wrong = [int(number) for number in re.findall(r"(?:failures|errors|unexpected successes)=(\d+)", "".join(told[-1:]))]
    failed = max(1, sum(wrong))
    return max(0, sum(found[-1:]) - failed), failed


def main():
    runs = [("tests", ["-s", "tests", "-t", "."])]
    for path in sorted(SHARED.rglob("test_*.py")) if SHARED.is_dir() else []:
        runs.append((str(path), ["-s", str(path.parent), "-t", str(path.parent), "-p", path.name]))
    counts = [run_tests(name, arguments) for name, arguments in runs]
    failed = sum(wrong for _, wrong in counts)
    print(f"{sum(right for right, _ in counts)} passed, {failed} failed")
    return 1 if failed else 0


if __name__ == "__main__":
    sys.exit(main())
