"""Ways that never fall below nought, weighed by height."""
